/-
  No cell of these rows narrows 'for every input' (looked for: loops, veiled, ifaces, maps, wideKeys, modest, calm, conditions, laid).
  DERIVED. THE GIVEN ROWS OF THIS SEAT. 3 by the template 'for every input the law returns true; each argument reads behind the call as it read before'; 0 by the template 'total and deterministic' (their statements: YtafkfnodcemefaaGreatTotals.lean).
  GIVEN WITH THE SEED: the statements are not yours to turn. If you find one false, say at which input.
  Laid BY PROGRAM, IN A SANDBOX (cutbox-rows.mjs): the forced cells as the released guide's own fill.sh prints them over the translation 9790bc7211eeb733… (all of the seat's roots in one cut). By AI agents, Wed Nov 11 2026. No macro, syntax, notation, axiom, sorry.
-/
import Derived.Test.YtafkfnodcemefaaGreatChecked
import GoSem.Claim
import GoSem.ClaimJoined
import GoSem.ClaimMapViews
import Derived.JoinedTies
import Derived.KernelRfl
namespace Go.Proofs.YtafkfnodcemefaaGreat
/- THE CELL 'sum', in the pinned program and in every row, IS THE sha256 OF THE DUMP (.gsa) THAT YtafkfnodcemefaaGreatProg.lean LOADS. Nothing in Lean hashes anything: it is a label: what it is worth is what the hold of that sum in a sandbox is worth. -/
noncomputable def Tryz.pinned : Pinned := { name := "ytafkfnodcemefaagreat", sum := "9790bc7211eeb7335a3cf025189e1cebe79a0caf25ebc71ab7d5bfadfa62e9c8", checked := Tryz.checked }
namespace Rows
def none {H : Type} : Left H := { results := [], args := [] }

/-- 'wayfarertop.WholeStays': WHATEVER THE INPUT: true; the input reads as it did. -/
def wholeStaysSpec : ChangeSpec := { name := "wholeStays", fn := fun _ => fun
  | [d1, d2] => { results := [.lit (.bool true)], args := [d1, d2] }
  | _ => none }
def wholeStaysRow : OpenClaim := { program := "ytafkfnodcemefaagreat", sum := "9790bc7211eeb7335a3cf025189e1cebe79a0caf25ebc71ab7d5bfadfa62e9c8", func := "wayfarer/wayfarertop.WholeStays", spec := "wholeStays", inPlace := ["maps.clone"], unfollowed := true, recurses := true, plainKeys := false, apart := false }
def WholeStaysSaid : Prop := wholeStaysRow.holds Tryz.pinned (OpenSpec.ofChange wholeStaysSpec)

/-- ITS FALSE NEIGHBOUR: 'it returns false'. Refute it at one input. -/
def wholeStaysWrong : ChangeSpec := { name := "wholeStays", fn := fun _ => fun
  | [d1, d2] => { results := [.lit (.bool false)], args := [d1, d2] }
  | _ => none }
def WholeStaysWrongFalsely : Prop := wholeStaysRow.holds Tryz.pinned (OpenSpec.ofChange wholeStaysWrong)

/-- 'wayfarertop.WholeJunk': WHATEVER THE INPUT: true; the input reads as it did. -/
def wholeJunkSpec : ChangeSpec := { name := "wholeJunk", fn := fun _ => fun
  | [d1, d2, d3, d4] => { results := [.lit (.bool true)], args := [d1, d2, d3, d4] }
  | _ => none }
def wholeJunkRow : OpenClaim := { program := "ytafkfnodcemefaagreat", sum := "9790bc7211eeb7335a3cf025189e1cebe79a0caf25ebc71ab7d5bfadfa62e9c8", func := "wayfarer/wayfarertop.WholeJunk", spec := "wholeJunk", inPlace := ["maps.clone"], unfollowed := true, recurses := true, plainKeys := false, apart := false }
def WholeJunkSaid : Prop := wholeJunkRow.holds Tryz.pinned (OpenSpec.ofChange wholeJunkSpec)

/-- ITS FALSE NEIGHBOUR: 'it returns false'. Refute it at one input. -/
def wholeJunkWrong : ChangeSpec := { name := "wholeJunk", fn := fun _ => fun
  | [d1, d2, d3, d4] => { results := [.lit (.bool false)], args := [d1, d2, d3, d4] }
  | _ => none }
def WholeJunkWrongFalsely : Prop := wholeJunkRow.holds Tryz.pinned (OpenSpec.ofChange wholeJunkWrong)

/-- 'wayfarertop.WholeWithheld': WHATEVER THE INPUT: true; the input reads as it did. -/
def wholeWithheldSpec : ChangeSpec := { name := "wholeWithheld", fn := fun _ => fun
  | [d1, d2] => { results := [.lit (.bool true)], args := [d1, d2] }
  | _ => none }
def wholeWithheldRow : OpenClaim := { program := "ytafkfnodcemefaagreat", sum := "9790bc7211eeb7335a3cf025189e1cebe79a0caf25ebc71ab7d5bfadfa62e9c8", func := "wayfarer/wayfarertop.WholeWithheld", spec := "wholeWithheld", inPlace := ["maps.clone"], unfollowed := true, recurses := true, plainKeys := false, apart := false }
def WholeWithheldSaid : Prop := wholeWithheldRow.holds Tryz.pinned (OpenSpec.ofChange wholeWithheldSpec)

/-- ITS FALSE NEIGHBOUR: 'it returns false'. Refute it at one input. -/
def wholeWithheldWrong : ChangeSpec := { name := "wholeWithheld", fn := fun _ => fun
  | [d1, d2] => { results := [.lit (.bool false)], args := [d1, d2] }
  | _ => none }
def WholeWithheldWrongFalsely : Prop := wholeWithheldRow.holds Tryz.pinned (OpenSpec.ofChange wholeWithheldWrong)

/- THE SECOND FORM. 'bulk': how many values and letters a reading holds, each counted each time it is reached (what is shared counts as often as it is met; a slice's spare places count too). A statement '..UptoSaid' is the law's where the arguments, and the package variables that the reading takes, are together of bulk at most 1048576: NARROWER than '..Said'. Prove '..Said' where nothing that the law and all that it calls make is longer than what came in: it says more and counts as full. Else prove '..UptoSaid'. A law counts once. -/
mutual
def uptoBulk {H : Type} : DataW H → Nat
  | .lit (.string bytes) => bytes.length + 1
  | .lit _ => 1
  | .nil => 1
  | .ptr d => uptoBulk d + 1
  | .slice elems spare => uptoBulkAll elems + uptoBulkAll spare + 1
  | .agg parts => uptoBulkAll parts + 1
  | .iface _ d => uptoBulk d + 1
  | .map entries => uptoBulkEntries entries + 1
  | .held _ => 1
def uptoBulkAll {H : Type} : List (DataW H) → Nat
  | [] => 0
  | d :: r => uptoBulk d + uptoBulkAll r
def uptoBulkEntries {H : Type} : List (Lit × DataW H) → Nat
  | [] => 0
  | x :: r => uptoBulkEntry x + uptoBulkEntries r
def uptoBulkEntry {H : Type} : Lit × DataW H → Nat
  | (.string bytes, d) => bytes.length + uptoBulk d + 1
  | (_, d) => uptoBulk d + 1
 end
def uptoSmall : (H : Type) → List (DataW H) → Bool := fun _ ds => decide (uptoBulkAll ds ≤ 1048576)
def OpenSpec.upto (s : _root_.Go.ChangeSpec) : _root_.Go.OpenSpec := { _root_.Go.OpenSpec.ofChange s with cond := some uptoSmall }

/-- 'wayfarertop.WholeStays', WHERE WHAT IT READS IS OF BULK AT MOST 1048576: true; the input reads as it did. -/
def wholeStaysUptoRow : OpenClaim := { program := "ytafkfnodcemefaagreat", sum := "9790bc7211eeb7335a3cf025189e1cebe79a0caf25ebc71ab7d5bfadfa62e9c8", func := "wayfarer/wayfarertop.WholeStays", spec := "wholeStays", inPlace := ["maps.clone"], unfollowed := true, recurses := true, plainKeys := false, apart := false, narrowed := true }
def WholeStaysUptoSaid : Prop := wholeStaysUptoRow.holds Tryz.pinned (OpenSpec.upto wholeStaysSpec)

/-- 'wayfarertop.WholeJunk', WHERE WHAT IT READS IS OF BULK AT MOST 1048576: true; the input reads as it did. -/
def wholeJunkUptoRow : OpenClaim := { program := "ytafkfnodcemefaagreat", sum := "9790bc7211eeb7335a3cf025189e1cebe79a0caf25ebc71ab7d5bfadfa62e9c8", func := "wayfarer/wayfarertop.WholeJunk", spec := "wholeJunk", inPlace := ["maps.clone"], unfollowed := true, recurses := true, plainKeys := false, apart := false, narrowed := true }
def WholeJunkUptoSaid : Prop := wholeJunkUptoRow.holds Tryz.pinned (OpenSpec.upto wholeJunkSpec)

/-- 'wayfarertop.WholeWithheld', WHERE WHAT IT READS IS OF BULK AT MOST 1048576: true; the input reads as it did. -/
def wholeWithheldUptoRow : OpenClaim := { program := "ytafkfnodcemefaagreat", sum := "9790bc7211eeb7335a3cf025189e1cebe79a0caf25ebc71ab7d5bfadfa62e9c8", func := "wayfarer/wayfarertop.WholeWithheld", spec := "wholeWithheld", inPlace := ["maps.clone"], unfollowed := true, recurses := true, plainKeys := false, apart := false, narrowed := true }
def WholeWithheldUptoSaid : Prop := wholeWithheldUptoRow.holds Tryz.pinned (OpenSpec.upto wholeWithheldSpec)

end Rows
end Go.Proofs.YtafkfnodcemefaaGreat
