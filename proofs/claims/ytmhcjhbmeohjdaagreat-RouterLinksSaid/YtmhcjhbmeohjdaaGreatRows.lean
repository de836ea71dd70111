/-
  No cell of these rows narrows 'for every input' (looked for: loops, veiled, ifaces, maps, wideKeys, modest, calm, conditions, laid).
  DERIVED. THE GIVEN ROWS OF THIS SEAT. 4 by the template 'for every input the law returns true; each argument reads behind the call as it read before'; 0 by the template 'total and deterministic' (their statements: YtmhcjhbmeohjdaaGreatTotals.lean).
  GIVEN WITH THE SEED: the statements are not yours to turn. If you find one false, say at which input.
  Laid BY PROGRAM, IN A SANDBOX (cutbox-rows.mjs): the forced cells as the released guide's own fill.sh prints them over the translation fcc4059f6624da3d… (all of the seat's roots in one cut). By AI agents, Wed Nov 11 2026. No macro, syntax, notation, axiom, sorry.
-/
import Derived.Test.YtmhcjhbmeohjdaaGreatChecked
import GoSem.Claim
import GoSem.ClaimJoined
import GoSem.ClaimMapViews
import Derived.JoinedTies
import Derived.KernelRfl
namespace Go.Proofs.YtmhcjhbmeohjdaaGreat
/- THE CELL 'sum', in the pinned program and in every row, IS THE sha256 OF THE DUMP (.gsa) THAT YtmhcjhbmeohjdaaGreatProg.lean LOADS. Nothing in Lean hashes anything: it is a label: what it is worth is what the hold of that sum in a sandbox is worth. -/
noncomputable def Tryz.pinned : Pinned := { name := "ytmhcjhbmeohjdaagreat", sum := "fcc4059f6624da3d322800573aa95a8786a84af771158f479bf4fefe7b9cfd72", checked := Tryz.checked }
namespace Rows
def none {H : Type} : Left H := { results := [], args := [] }

/-- 'wayfarerlaw11.RouterHolds': WHATEVER THE INPUT: true; the input reads as it did. -/
def routerHoldsSpec : ChangeSpec := { name := "routerHolds", fn := fun _ => fun
  | [d1, d2, d3, d4] => { results := [.lit (.bool true)], args := [d1, d2, d3, d4] }
  | _ => none }
def routerHoldsRow : OpenClaim := { program := "ytmhcjhbmeohjdaagreat", sum := "fcc4059f6624da3d322800573aa95a8786a84af771158f479bf4fefe7b9cfd72", func := "wayfarer/wayfarerlaw11.RouterHolds", spec := "routerHolds", inPlace := ["maps.clone"], unfollowed := true, recurses := true, plainKeys := false, apart := false }
def RouterHoldsSaid : Prop := routerHoldsRow.holds Tryz.pinned (OpenSpec.ofChange routerHoldsSpec)

/-- ITS FALSE NEIGHBOUR: 'it returns false'. Refute it at one input. -/
def routerHoldsWrong : ChangeSpec := { name := "routerHolds", fn := fun _ => fun
  | [d1, d2, d3, d4] => { results := [.lit (.bool false)], args := [d1, d2, d3, d4] }
  | _ => none }
def RouterHoldsWrongFalsely : Prop := routerHoldsRow.holds Tryz.pinned (OpenSpec.ofChange routerHoldsWrong)

/-- 'wayfarerlaw11.RouterPeriod': WHATEVER THE INPUT: true; the input reads as it did. -/
def routerPeriodSpec : ChangeSpec := { name := "routerPeriod", fn := fun _ => fun
  | [d] => { results := [.lit (.bool true)], args := [d] }
  | _ => none }
def routerPeriodRow : OpenClaim := { program := "ytmhcjhbmeohjdaagreat", sum := "fcc4059f6624da3d322800573aa95a8786a84af771158f479bf4fefe7b9cfd72", func := "wayfarer/wayfarerlaw11.RouterPeriod", spec := "routerPeriod", inPlace := ["maps.clone"], unfollowed := true, recurses := true, plainKeys := false, apart := false }
def RouterPeriodSaid : Prop := routerPeriodRow.holds Tryz.pinned (OpenSpec.ofChange routerPeriodSpec)

/-- ITS FALSE NEIGHBOUR: 'it returns false'. Refute it at one input. -/
def routerPeriodWrong : ChangeSpec := { name := "routerPeriod", fn := fun _ => fun
  | [d] => { results := [.lit (.bool false)], args := [d] }
  | _ => none }
def RouterPeriodWrongFalsely : Prop := routerPeriodRow.holds Tryz.pinned (OpenSpec.ofChange routerPeriodWrong)

/-- 'wayfarerlaw11.RouterDeaf': WHATEVER THE INPUT: true; the input reads as it did. -/
def routerDeafSpec : ChangeSpec := { name := "routerDeaf", fn := fun _ => fun
  | [d1, d2, d3] => { results := [.lit (.bool true)], args := [d1, d2, d3] }
  | _ => none }
def routerDeafRow : OpenClaim := { program := "ytmhcjhbmeohjdaagreat", sum := "fcc4059f6624da3d322800573aa95a8786a84af771158f479bf4fefe7b9cfd72", func := "wayfarer/wayfarerlaw11.RouterDeaf", spec := "routerDeaf", inPlace := ["maps.clone"], unfollowed := true, recurses := true, plainKeys := false, apart := false }
def RouterDeafSaid : Prop := routerDeafRow.holds Tryz.pinned (OpenSpec.ofChange routerDeafSpec)

/-- ITS FALSE NEIGHBOUR: 'it returns false'. Refute it at one input. -/
def routerDeafWrong : ChangeSpec := { name := "routerDeaf", fn := fun _ => fun
  | [d1, d2, d3] => { results := [.lit (.bool false)], args := [d1, d2, d3] }
  | _ => none }
def RouterDeafWrongFalsely : Prop := routerDeafRow.holds Tryz.pinned (OpenSpec.ofChange routerDeafWrong)

/-- 'wayfarerlaw11.RouterLinks': WHATEVER THE INPUT: true; the input reads as it did. -/
def routerLinksSpec : ChangeSpec := { name := "routerLinks", fn := fun _ => fun
  | [d1, d2, d3] => { results := [.lit (.bool true)], args := [d1, d2, d3] }
  | _ => none }
def routerLinksRow : OpenClaim := { program := "ytmhcjhbmeohjdaagreat", sum := "fcc4059f6624da3d322800573aa95a8786a84af771158f479bf4fefe7b9cfd72", func := "wayfarer/wayfarerlaw11.RouterLinks", spec := "routerLinks", inPlace := ["maps.clone"], unfollowed := true, recurses := true, plainKeys := false, apart := false }
def RouterLinksSaid : Prop := routerLinksRow.holds Tryz.pinned (OpenSpec.ofChange routerLinksSpec)

/-- ITS FALSE NEIGHBOUR: 'it returns false'. Refute it at one input. -/
def routerLinksWrong : ChangeSpec := { name := "routerLinks", fn := fun _ => fun
  | [d1, d2, d3] => { results := [.lit (.bool false)], args := [d1, d2, d3] }
  | _ => none }
def RouterLinksWrongFalsely : Prop := routerLinksRow.holds Tryz.pinned (OpenSpec.ofChange routerLinksWrong)

/- THE SECOND FORM. 'bulk': how many values and letters a reading holds, each counted each time it is reached (what is shared counts as often as it is met; a slice's spare places count too). A statement '..UptoSaid' is the law's where the arguments, and the package variables that the reading takes, are together of bulk at most 1048576: NARROWER than '..Said'. Prove '..Said' where nothing that the law and all that it calls make is longer than what came in: it says more and counts as full. Else prove '..UptoSaid'. A law counts once. -/
mutual
def uptoBulk {H : Type} : DataW H → Nat
  | .lit (.string bytes) => bytes.length + 1
  | .lit _ => 1
  | .nil => 1
  | .ptr d => uptoBulk d + 1
  | .slice elems spare => uptoBulkAll elems + uptoBulkAll spare + 1
  | .agg parts => uptoBulkAll parts + 1
  | .iface _ d => uptoBulk d + 1
  | .map entries => uptoBulkEntries entries + 1
  | .held _ => 1
def uptoBulkAll {H : Type} : List (DataW H) → Nat
  | [] => 0
  | d :: r => uptoBulk d + uptoBulkAll r
def uptoBulkEntries {H : Type} : List (Lit × DataW H) → Nat
  | [] => 0
  | x :: r => uptoBulkEntry x + uptoBulkEntries r
def uptoBulkEntry {H : Type} : Lit × DataW H → Nat
  | (.string bytes, d) => bytes.length + uptoBulk d + 1
  | (_, d) => uptoBulk d + 1
 end
def uptoSmall : (H : Type) → List (DataW H) → Bool := fun _ ds => decide (uptoBulkAll ds ≤ 1048576)
def OpenSpec.upto (s : _root_.Go.ChangeSpec) : _root_.Go.OpenSpec := { _root_.Go.OpenSpec.ofChange s with cond := some uptoSmall }

/-- 'wayfarerlaw11.RouterHolds', WHERE WHAT IT READS IS OF BULK AT MOST 1048576: true; the input reads as it did. -/
def routerHoldsUptoRow : OpenClaim := { program := "ytmhcjhbmeohjdaagreat", sum := "fcc4059f6624da3d322800573aa95a8786a84af771158f479bf4fefe7b9cfd72", func := "wayfarer/wayfarerlaw11.RouterHolds", spec := "routerHolds", inPlace := ["maps.clone"], unfollowed := true, recurses := true, plainKeys := false, apart := false, narrowed := true }
def RouterHoldsUptoSaid : Prop := routerHoldsUptoRow.holds Tryz.pinned (OpenSpec.upto routerHoldsSpec)

/-- 'wayfarerlaw11.RouterPeriod', WHERE WHAT IT READS IS OF BULK AT MOST 1048576: true; the input reads as it did. -/
def routerPeriodUptoRow : OpenClaim := { program := "ytmhcjhbmeohjdaagreat", sum := "fcc4059f6624da3d322800573aa95a8786a84af771158f479bf4fefe7b9cfd72", func := "wayfarer/wayfarerlaw11.RouterPeriod", spec := "routerPeriod", inPlace := ["maps.clone"], unfollowed := true, recurses := true, plainKeys := false, apart := false, narrowed := true }
def RouterPeriodUptoSaid : Prop := routerPeriodUptoRow.holds Tryz.pinned (OpenSpec.upto routerPeriodSpec)

/-- 'wayfarerlaw11.RouterDeaf', WHERE WHAT IT READS IS OF BULK AT MOST 1048576: true; the input reads as it did. -/
def routerDeafUptoRow : OpenClaim := { program := "ytmhcjhbmeohjdaagreat", sum := "fcc4059f6624da3d322800573aa95a8786a84af771158f479bf4fefe7b9cfd72", func := "wayfarer/wayfarerlaw11.RouterDeaf", spec := "routerDeaf", inPlace := ["maps.clone"], unfollowed := true, recurses := true, plainKeys := false, apart := false, narrowed := true }
def RouterDeafUptoSaid : Prop := routerDeafUptoRow.holds Tryz.pinned (OpenSpec.upto routerDeafSpec)

/-- 'wayfarerlaw11.RouterLinks', WHERE WHAT IT READS IS OF BULK AT MOST 1048576: true; the input reads as it did. -/
def routerLinksUptoRow : OpenClaim := { program := "ytmhcjhbmeohjdaagreat", sum := "fcc4059f6624da3d322800573aa95a8786a84af771158f479bf4fefe7b9cfd72", func := "wayfarer/wayfarerlaw11.RouterLinks", spec := "routerLinks", inPlace := ["maps.clone"], unfollowed := true, recurses := true, plainKeys := false, apart := false, narrowed := true }
def RouterLinksUptoSaid : Prop := routerLinksUptoRow.holds Tryz.pinned (OpenSpec.upto routerLinksSpec)

end Rows
end Go.Proofs.YtmhcjhbmeohjdaaGreat
