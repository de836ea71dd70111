/-
  No cell of these rows narrows 'for every input' (looked for: loops, veiled, ifaces, maps, wideKeys, modest, calm, conditions, laid).
  DERIVED. THE GIVEN ROWS OF THIS SEAT. 4 by the template 'for every input the law returns true; each argument reads behind the call as it read before'; 0 by the template 'total and deterministic' (their statements: YtclfchdgagpahaaTotals.lean).
  GIVEN WITH THE SEED: the statements are not yours to turn. If you find one false, say at which input.
  Laid BY PROGRAM, IN A SANDBOX (cutbox-rows.mjs): the forced cells as the released guide's own fill.sh prints them over the translation 7c17e3243a07d3a0… (all of the seat's roots in one cut). By AI agents, Wed Nov 11 2026. No macro, syntax, notation, axiom, sorry.
-/
import Derived.Test.YtclfchdgagpahaaChecked
import GoSem.Claim
import GoSem.ClaimJoined
import GoSem.ClaimMapViews
import Derived.JoinedTies
import Derived.KernelRfl
namespace Go.Proofs.Ytclfchdgagpahaa
/- THE CELL 'sum', in the pinned program and in every row, IS THE sha256 OF THE DUMP (.gsa) THAT YtclfchdgagpahaaProg.lean LOADS. Nothing in Lean hashes anything: it is a label: what it is worth is what the hold of that sum in a sandbox is worth. -/
noncomputable def Try.pinned : Pinned := { name := "ytclfchdgagpahaa", sum := "7c17e3243a07d3a05c96a02d5451f93398ef82f1caf5be3987cfa3d8b247b121", checked := Try.checked }
namespace Rows
def none {H : Type} : Left H := { results := [], args := [] }

/-- 'wayfarerlaw01.SumBits': WHATEVER THE INPUT: true; the input reads as it did. -/
def sumBitsSpec : ChangeSpec := { name := "sumBits", fn := fun _ => fun
  | [d] => { results := [.lit (.bool true)], args := [d] }
  | _ => none }
def sumBitsRow : OpenClaim := { program := "ytclfchdgagpahaa", sum := "7c17e3243a07d3a05c96a02d5451f93398ef82f1caf5be3987cfa3d8b247b121", func := "wayfarer/wayfarerlaw01.SumBits", spec := "sumBits", apart := false }
def SumBitsSaid : Prop := sumBitsRow.holds Try.pinned (OpenSpec.ofChange sumBitsSpec)

/-- ITS FALSE NEIGHBOUR: 'it returns false'. Refute it at one input. -/
def sumBitsWrong : ChangeSpec := { name := "sumBits", fn := fun _ => fun
  | [d] => { results := [.lit (.bool false)], args := [d] }
  | _ => none }
def SumBitsWrongFalsely : Prop := sumBitsRow.holds Try.pinned (OpenSpec.ofChange sumBitsWrong)

/-- 'wayfarerlaw03.DistOrders': WHATEVER THE INPUT: true; the input reads as it did. -/
def distOrdersSpec : ChangeSpec := { name := "distOrders", fn := fun _ => fun
  | [d1, d2, d3] => { results := [.lit (.bool true)], args := [d1, d2, d3] }
  | _ => none }
def distOrdersRow : OpenClaim := { program := "ytclfchdgagpahaa", sum := "7c17e3243a07d3a05c96a02d5451f93398ef82f1caf5be3987cfa3d8b247b121", func := "wayfarer/wayfarerlaw03.DistOrders", spec := "distOrders", apart := false }
def DistOrdersSaid : Prop := distOrdersRow.holds Try.pinned (OpenSpec.ofChange distOrdersSpec)

/-- ITS FALSE NEIGHBOUR: 'it returns false'. Refute it at one input. -/
def distOrdersWrong : ChangeSpec := { name := "distOrders", fn := fun _ => fun
  | [d1, d2, d3] => { results := [.lit (.bool false)], args := [d1, d2, d3] }
  | _ => none }
def DistOrdersWrongFalsely : Prop := distOrdersRow.holds Try.pinned (OpenSpec.ofChange distOrdersWrong)

/-- 'wayfarerlaw03.DistLinks': WHATEVER THE INPUT: true; the input reads as it did. -/
def distLinksSpec : ChangeSpec := { name := "distLinks", fn := fun _ => fun
  | [d1, d2, d3] => { results := [.lit (.bool true)], args := [d1, d2, d3] }
  | _ => none }
def distLinksRow : OpenClaim := { program := "ytclfchdgagpahaa", sum := "7c17e3243a07d3a05c96a02d5451f93398ef82f1caf5be3987cfa3d8b247b121", func := "wayfarer/wayfarerlaw03.DistLinks", spec := "distLinks", apart := false }
def DistLinksSaid : Prop := distLinksRow.holds Try.pinned (OpenSpec.ofChange distLinksSpec)

/-- ITS FALSE NEIGHBOUR: 'it returns false'. Refute it at one input. -/
def distLinksWrong : ChangeSpec := { name := "distLinks", fn := fun _ => fun
  | [d1, d2, d3] => { results := [.lit (.bool false)], args := [d1, d2, d3] }
  | _ => none }
def DistLinksWrongFalsely : Prop := distLinksRow.holds Try.pinned (OpenSpec.ofChange distLinksWrong)

/-- 'wayfarerlaw03.DistPaths': WHATEVER THE INPUT: true; the input reads as it did. -/
def distPathsSpec : ChangeSpec := { name := "distPaths", fn := fun _ => fun
  | [d1, d2] => { results := [.lit (.bool true)], args := [d1, d2] }
  | _ => none }
def distPathsRow : OpenClaim := { program := "ytclfchdgagpahaa", sum := "7c17e3243a07d3a05c96a02d5451f93398ef82f1caf5be3987cfa3d8b247b121", func := "wayfarer/wayfarerlaw03.DistPaths", spec := "distPaths", apart := false }
def DistPathsSaid : Prop := distPathsRow.holds Try.pinned (OpenSpec.ofChange distPathsSpec)

/-- ITS FALSE NEIGHBOUR: 'it returns false'. Refute it at one input. -/
def distPathsWrong : ChangeSpec := { name := "distPaths", fn := fun _ => fun
  | [d1, d2] => { results := [.lit (.bool false)], args := [d1, d2] }
  | _ => none }
def DistPathsWrongFalsely : Prop := distPathsRow.holds Try.pinned (OpenSpec.ofChange distPathsWrong)

/- THE SECOND FORM. 'bulk': how many values and letters a reading holds, each counted each time it is reached (what is shared counts as often as it is met; a slice's spare places count too). A statement '..UptoSaid' is the law's where the arguments, and the package variables that the reading takes, are together of bulk at most 1048576: NARROWER than '..Said'. Prove '..Said' where nothing that the law and all that it calls make is longer than what came in: it says more and counts as full. Else prove '..UptoSaid'. A law counts once. -/
mutual
def uptoBulk {H : Type} : DataW H → Nat
  | .lit (.string bytes) => bytes.length + 1
  | .lit _ => 1
  | .nil => 1
  | .ptr d => uptoBulk d + 1
  | .slice elems spare => uptoBulkAll elems + uptoBulkAll spare + 1
  | .agg parts => uptoBulkAll parts + 1
  | .iface _ d => uptoBulk d + 1
  | .map entries => uptoBulkEntries entries + 1
  | .held _ => 1
def uptoBulkAll {H : Type} : List (DataW H) → Nat
  | [] => 0
  | d :: r => uptoBulk d + uptoBulkAll r
def uptoBulkEntries {H : Type} : List (Lit × DataW H) → Nat
  | [] => 0
  | x :: r => uptoBulkEntry x + uptoBulkEntries r
def uptoBulkEntry {H : Type} : Lit × DataW H → Nat
  | (.string bytes, d) => bytes.length + uptoBulk d + 1
  | (_, d) => uptoBulk d + 1
 end
def uptoSmall : (H : Type) → List (DataW H) → Bool := fun _ ds => decide (uptoBulkAll ds ≤ 1048576)
def OpenSpec.upto (s : _root_.Go.ChangeSpec) : _root_.Go.OpenSpec := { _root_.Go.OpenSpec.ofChange s with cond := some uptoSmall }

/-- 'wayfarerlaw01.SumBits', WHERE WHAT IT READS IS OF BULK AT MOST 1048576: true; the input reads as it did. -/
def sumBitsUptoRow : OpenClaim := { program := "ytclfchdgagpahaa", sum := "7c17e3243a07d3a05c96a02d5451f93398ef82f1caf5be3987cfa3d8b247b121", func := "wayfarer/wayfarerlaw01.SumBits", spec := "sumBits", apart := false, narrowed := true }
def SumBitsUptoSaid : Prop := sumBitsUptoRow.holds Try.pinned (OpenSpec.upto sumBitsSpec)

/-- 'wayfarerlaw03.DistOrders', WHERE WHAT IT READS IS OF BULK AT MOST 1048576: true; the input reads as it did. -/
def distOrdersUptoRow : OpenClaim := { program := "ytclfchdgagpahaa", sum := "7c17e3243a07d3a05c96a02d5451f93398ef82f1caf5be3987cfa3d8b247b121", func := "wayfarer/wayfarerlaw03.DistOrders", spec := "distOrders", apart := false, narrowed := true }
def DistOrdersUptoSaid : Prop := distOrdersUptoRow.holds Try.pinned (OpenSpec.upto distOrdersSpec)

/-- 'wayfarerlaw03.DistLinks', WHERE WHAT IT READS IS OF BULK AT MOST 1048576: true; the input reads as it did. -/
def distLinksUptoRow : OpenClaim := { program := "ytclfchdgagpahaa", sum := "7c17e3243a07d3a05c96a02d5451f93398ef82f1caf5be3987cfa3d8b247b121", func := "wayfarer/wayfarerlaw03.DistLinks", spec := "distLinks", apart := false, narrowed := true }
def DistLinksUptoSaid : Prop := distLinksUptoRow.holds Try.pinned (OpenSpec.upto distLinksSpec)

/-- 'wayfarerlaw03.DistPaths', WHERE WHAT IT READS IS OF BULK AT MOST 1048576: true; the input reads as it did. -/
def distPathsUptoRow : OpenClaim := { program := "ytclfchdgagpahaa", sum := "7c17e3243a07d3a05c96a02d5451f93398ef82f1caf5be3987cfa3d8b247b121", func := "wayfarer/wayfarerlaw03.DistPaths", spec := "distPaths", apart := false, narrowed := true }
def DistPathsUptoSaid : Prop := distPathsUptoRow.holds Try.pinned (OpenSpec.upto distPathsSpec)

end Rows
end Go.Proofs.Ytclfchdgagpahaa
