/-
  No cell of these rows narrows 'for every input' (looked for: loops, veiled, ifaces, maps, wideKeys, modest, calm, conditions, laid).
  DERIVED. THE GIVEN ROWS OF THIS SEAT. 4 by the template 'for every input the law returns true; each argument reads behind the call as it read before'; 0 by the template 'total and deterministic' (their statements: YtblhijgjidfioaaTotals.lean).
  GIVEN WITH THE SEED: the statements are not yours to turn. If you find one false, say at which input.
  Laid BY PROGRAM, IN A SANDBOX (cutbox-rows.mjs): the forced cells as the released guide's own fill.sh prints them over the translation f06efe8a7620dfec… (all of the seat's roots in one cut). By AI agents, Wed Nov 11 2026. No macro, syntax, notation, axiom, sorry.
-/
import Derived.Test.YtblhijgjidfioaaChecked
import GoSem.Claim
import GoSem.ClaimJoined
import GoSem.ClaimMapViews
import Derived.JoinedTies
import Derived.KernelRfl
namespace Go.Proofs.Ytblhijgjidfioaa
/- THE CELL 'sum', in the pinned program and in every row, IS THE sha256 OF THE DUMP (.gsa) THAT YtblhijgjidfioaaProg.lean LOADS. Nothing in Lean hashes anything: it is a label: what it is worth is what the hold of that sum in a sandbox is worth. -/
noncomputable def Try.pinned : Pinned := { name := "ytblhijgjidfioaa", sum := "f06efe8a7620dfecb13c0592c87b14b3c642f9755b25523efa27c9f790f4410c", checked := Try.checked }
namespace Rows
def none {H : Type} : Left H := { results := [], args := [] }

/-- 'wayfarerlaw09.RouteActs': WHATEVER THE INPUT: true; the input reads as it did. -/
def routeActsSpec : ChangeSpec := { name := "routeActs", fn := fun _ => fun
  | [d1, d2, d3] => { results := [.lit (.bool true)], args := [d1, d2, d3] }
  | _ => none }
def routeActsRow : OpenClaim := { program := "ytblhijgjidfioaa", sum := "f06efe8a7620dfecb13c0592c87b14b3c642f9755b25523efa27c9f790f4410c", func := "wayfarer/wayfarerlaw09.RouteActs", spec := "routeActs", unfollowed := true, recurses := true, plainKeys := false, apart := false }
def RouteActsSaid : Prop := routeActsRow.holds Try.pinned (OpenSpec.ofChange routeActsSpec)

/-- ITS FALSE NEIGHBOUR: 'it returns false'. Refute it at one input. -/
def routeActsWrong : ChangeSpec := { name := "routeActs", fn := fun _ => fun
  | [d1, d2, d3] => { results := [.lit (.bool false)], args := [d1, d2, d3] }
  | _ => none }
def RouteActsWrongFalsely : Prop := routeActsRow.holds Try.pinned (OpenSpec.ofChange routeActsWrong)

/-- 'wayfarerlaw09.RouteEarly': WHATEVER THE INPUT: true; the input reads as it did. -/
def routeEarlySpec : ChangeSpec := { name := "routeEarly", fn := fun _ => fun
  | [d1, d2] => { results := [.lit (.bool true)], args := [d1, d2] }
  | _ => none }
def routeEarlyRow : OpenClaim := { program := "ytblhijgjidfioaa", sum := "f06efe8a7620dfecb13c0592c87b14b3c642f9755b25523efa27c9f790f4410c", func := "wayfarer/wayfarerlaw09.RouteEarly", spec := "routeEarly", unfollowed := true, recurses := true, plainKeys := false, apart := false }
def RouteEarlySaid : Prop := routeEarlyRow.holds Try.pinned (OpenSpec.ofChange routeEarlySpec)

/-- ITS FALSE NEIGHBOUR: 'it returns false'. Refute it at one input. -/
def routeEarlyWrong : ChangeSpec := { name := "routeEarly", fn := fun _ => fun
  | [d1, d2] => { results := [.lit (.bool false)], args := [d1, d2] }
  | _ => none }
def RouteEarlyWrongFalsely : Prop := routeEarlyRow.holds Try.pinned (OpenSpec.ofChange routeEarlyWrong)

/-- 'wayfarerlaw10.FibLookups': WHATEVER THE INPUT: true; the input reads as it did. -/
def fibLookupsSpec : ChangeSpec := { name := "fibLookups", fn := fun _ => fun
  | [d1, d2] => { results := [.lit (.bool true)], args := [d1, d2] }
  | _ => none }
def fibLookupsRow : OpenClaim := { program := "ytblhijgjidfioaa", sum := "f06efe8a7620dfecb13c0592c87b14b3c642f9755b25523efa27c9f790f4410c", func := "wayfarer/wayfarerlaw10.FibLookups", spec := "fibLookups", plainKeys := false, apart := false }
def FibLookupsSaid : Prop := fibLookupsRow.holds Try.pinned (OpenSpec.ofChange fibLookupsSpec)

/-- ITS FALSE NEIGHBOUR: 'it returns false'. Refute it at one input. -/
def fibLookupsWrong : ChangeSpec := { name := "fibLookups", fn := fun _ => fun
  | [d1, d2] => { results := [.lit (.bool false)], args := [d1, d2] }
  | _ => none }
def FibLookupsWrongFalsely : Prop := fibLookupsRow.holds Try.pinned (OpenSpec.ofChange fibLookupsWrong)

/-- 'wayfarerlaw10.FibSorts': WHATEVER THE INPUT: true; the input reads as it did. -/
def fibSortsSpec : ChangeSpec := { name := "fibSorts", fn := fun _ => fun
  | [d1, d2] => { results := [.lit (.bool true)], args := [d1, d2] }
  | _ => none }
def fibSortsRow : OpenClaim := { program := "ytblhijgjidfioaa", sum := "f06efe8a7620dfecb13c0592c87b14b3c642f9755b25523efa27c9f790f4410c", func := "wayfarer/wayfarerlaw10.FibSorts", spec := "fibSorts", unfollowed := true, recurses := true, plainKeys := false, apart := false }
def FibSortsSaid : Prop := fibSortsRow.holds Try.pinned (OpenSpec.ofChange fibSortsSpec)

/-- ITS FALSE NEIGHBOUR: 'it returns false'. Refute it at one input. -/
def fibSortsWrong : ChangeSpec := { name := "fibSorts", fn := fun _ => fun
  | [d1, d2] => { results := [.lit (.bool false)], args := [d1, d2] }
  | _ => none }
def FibSortsWrongFalsely : Prop := fibSortsRow.holds Try.pinned (OpenSpec.ofChange fibSortsWrong)

/- THE SECOND FORM. 'bulk': how many values and letters a reading holds, each counted each time it is reached (what is shared counts as often as it is met; a slice's spare places count too). A statement '..UptoSaid' is the law's where the arguments, and the package variables that the reading takes, are together of bulk at most 1048576: NARROWER than '..Said'. Prove '..Said' where nothing that the law and all that it calls make is longer than what came in: it says more and counts as full. Else prove '..UptoSaid'. A law counts once. -/
mutual
def uptoBulk {H : Type} : DataW H → Nat
  | .lit (.string bytes) => bytes.length + 1
  | .lit _ => 1
  | .nil => 1
  | .ptr d => uptoBulk d + 1
  | .slice elems spare => uptoBulkAll elems + uptoBulkAll spare + 1
  | .agg parts => uptoBulkAll parts + 1
  | .iface _ d => uptoBulk d + 1
  | .map entries => uptoBulkEntries entries + 1
  | .held _ => 1
def uptoBulkAll {H : Type} : List (DataW H) → Nat
  | [] => 0
  | d :: r => uptoBulk d + uptoBulkAll r
def uptoBulkEntries {H : Type} : List (Lit × DataW H) → Nat
  | [] => 0
  | x :: r => uptoBulkEntry x + uptoBulkEntries r
def uptoBulkEntry {H : Type} : Lit × DataW H → Nat
  | (.string bytes, d) => bytes.length + uptoBulk d + 1
  | (_, d) => uptoBulk d + 1
 end
def uptoSmall : (H : Type) → List (DataW H) → Bool := fun _ ds => decide (uptoBulkAll ds ≤ 1048576)
def OpenSpec.upto (s : _root_.Go.ChangeSpec) : _root_.Go.OpenSpec := { _root_.Go.OpenSpec.ofChange s with cond := some uptoSmall }

/-- 'wayfarerlaw09.RouteActs', WHERE WHAT IT READS IS OF BULK AT MOST 1048576: true; the input reads as it did. -/
def routeActsUptoRow : OpenClaim := { program := "ytblhijgjidfioaa", sum := "f06efe8a7620dfecb13c0592c87b14b3c642f9755b25523efa27c9f790f4410c", func := "wayfarer/wayfarerlaw09.RouteActs", spec := "routeActs", unfollowed := true, recurses := true, plainKeys := false, apart := false, narrowed := true }
def RouteActsUptoSaid : Prop := routeActsUptoRow.holds Try.pinned (OpenSpec.upto routeActsSpec)

/-- 'wayfarerlaw09.RouteEarly', WHERE WHAT IT READS IS OF BULK AT MOST 1048576: true; the input reads as it did. -/
def routeEarlyUptoRow : OpenClaim := { program := "ytblhijgjidfioaa", sum := "f06efe8a7620dfecb13c0592c87b14b3c642f9755b25523efa27c9f790f4410c", func := "wayfarer/wayfarerlaw09.RouteEarly", spec := "routeEarly", unfollowed := true, recurses := true, plainKeys := false, apart := false, narrowed := true }
def RouteEarlyUptoSaid : Prop := routeEarlyUptoRow.holds Try.pinned (OpenSpec.upto routeEarlySpec)

/-- 'wayfarerlaw10.FibLookups', WHERE WHAT IT READS IS OF BULK AT MOST 1048576: true; the input reads as it did. -/
def fibLookupsUptoRow : OpenClaim := { program := "ytblhijgjidfioaa", sum := "f06efe8a7620dfecb13c0592c87b14b3c642f9755b25523efa27c9f790f4410c", func := "wayfarer/wayfarerlaw10.FibLookups", spec := "fibLookups", plainKeys := false, apart := false, narrowed := true }
def FibLookupsUptoSaid : Prop := fibLookupsUptoRow.holds Try.pinned (OpenSpec.upto fibLookupsSpec)

/-- 'wayfarerlaw10.FibSorts', WHERE WHAT IT READS IS OF BULK AT MOST 1048576: true; the input reads as it did. -/
def fibSortsUptoRow : OpenClaim := { program := "ytblhijgjidfioaa", sum := "f06efe8a7620dfecb13c0592c87b14b3c642f9755b25523efa27c9f790f4410c", func := "wayfarer/wayfarerlaw10.FibSorts", spec := "fibSorts", unfollowed := true, recurses := true, plainKeys := false, apart := false, narrowed := true }
def FibSortsUptoSaid : Prop := fibSortsUptoRow.holds Try.pinned (OpenSpec.upto fibSortsSpec)

end Rows
end Go.Proofs.Ytblhijgjidfioaa
