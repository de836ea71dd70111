/-
  No cell of these rows narrows 'for every input' (looked for: loops, veiled, ifaces, maps, wideKeys, modest, calm, conditions, laid).
  DERIVED. THE GIVEN ROWS OF THIS SEAT. 13 by the template 'for every input the law returns true; each argument reads behind the call as it read before'; 0 by the template 'total and deterministic' (their statements: YtkchckeecfalhaaGreatTotals.lean).
  GIVEN WITH THE SEED: the statements are not yours to turn. If you find one false, say at which input.
  Laid BY PROGRAM, IN A SANDBOX (cutbox-rows.mjs): the forced cells as the released guide's own fill.sh prints them over the translation a2081357721c6bd3… (all of the seat's roots in one cut). By AI agents, Wed Nov 11 2026. No macro, syntax, notation, axiom, sorry.
-/
import Derived.Test.YtkchckeecfalhaaGreatChecked
import GoSem.Claim
import GoSem.ClaimJoined
import GoSem.ClaimMapViews
import Derived.JoinedTies
import Derived.KernelRfl
namespace Go.Proofs.YtkchckeecfalhaaGreat
/- THE CELL 'sum', in the pinned program and in every row, IS THE sha256 OF THE DUMP (.gsa) THAT YtkchckeecfalhaaGreatProg.lean LOADS. Nothing in Lean hashes anything: it is a label: what it is worth is what the hold of that sum in a sandbox is worth. -/
noncomputable def Tryz.pinned : Pinned := { name := "ytkchckeecfalhaagreat", sum := "a2081357721c6bd35fea51c9416130dd65d5be357ce00aa2dd27f58844011cea", checked := Tryz.checked }
namespace Rows
def none {H : Type} : Left H := { results := [], args := [] }

/-- 'wayfarerlaw12.NetSettles': WHATEVER THE INPUT: true; the input reads as it did. -/
def netSettlesSpec : ChangeSpec := { name := "netSettles", fn := fun _ => fun
  | [d1, d2, d3] => { results := [.lit (.bool true)], args := [d1, d2, d3] }
  | _ => none }
def netSettlesRow : OpenClaim := { program := "ytkchckeecfalhaagreat", sum := "a2081357721c6bd35fea51c9416130dd65d5be357ce00aa2dd27f58844011cea", func := "wayfarer/wayfarerlaw12.NetSettles", spec := "netSettles", inPlace := ["maps.clone"], unfollowed := true, recurses := true, plainKeys := false, apart := false }
def NetSettlesSaid : Prop := netSettlesRow.holds Tryz.pinned (OpenSpec.ofChange netSettlesSpec)

/-- ITS FALSE NEIGHBOUR: 'it returns false'. Refute it at one input. -/
def netSettlesWrong : ChangeSpec := { name := "netSettles", fn := fun _ => fun
  | [d1, d2, d3] => { results := [.lit (.bool false)], args := [d1, d2, d3] }
  | _ => none }
def NetSettlesWrongFalsely : Prop := netSettlesRow.holds Tryz.pinned (OpenSpec.ofChange netSettlesWrong)

/-- 'wayfarerlaw12.NetActs': WHATEVER THE INPUT: true; the input reads as it did. -/
def netActsSpec : ChangeSpec := { name := "netActs", fn := fun _ => fun
  | [d1, d2] => { results := [.lit (.bool true)], args := [d1, d2] }
  | _ => none }
def netActsRow : OpenClaim := { program := "ytkchckeecfalhaagreat", sum := "a2081357721c6bd35fea51c9416130dd65d5be357ce00aa2dd27f58844011cea", func := "wayfarer/wayfarerlaw12.NetActs", spec := "netActs", inPlace := ["maps.clone"], unfollowed := true, recurses := true, plainKeys := false, apart := false }
def NetActsSaid : Prop := netActsRow.holds Tryz.pinned (OpenSpec.ofChange netActsSpec)

/-- ITS FALSE NEIGHBOUR: 'it returns false'. Refute it at one input. -/
def netActsWrong : ChangeSpec := { name := "netActs", fn := fun _ => fun
  | [d1, d2] => { results := [.lit (.bool false)], args := [d1, d2] }
  | _ => none }
def NetActsWrongFalsely : Prop := netActsRow.holds Tryz.pinned (OpenSpec.ofChange netActsWrong)

/-- 'wayfarerlaw12.NetDown': WHATEVER THE INPUT: true; the input reads as it did. -/
def netDownSpec : ChangeSpec := { name := "netDown", fn := fun _ => fun
  | [d1, d2] => { results := [.lit (.bool true)], args := [d1, d2] }
  | _ => none }
def netDownRow : OpenClaim := { program := "ytkchckeecfalhaagreat", sum := "a2081357721c6bd35fea51c9416130dd65d5be357ce00aa2dd27f58844011cea", func := "wayfarer/wayfarerlaw12.NetDown", spec := "netDown", inPlace := ["maps.clone"], unfollowed := true, recurses := true, plainKeys := false, apart := false }
def NetDownSaid : Prop := netDownRow.holds Tryz.pinned (OpenSpec.ofChange netDownSpec)

/-- ITS FALSE NEIGHBOUR: 'it returns false'. Refute it at one input. -/
def netDownWrong : ChangeSpec := { name := "netDown", fn := fun _ => fun
  | [d1, d2] => { results := [.lit (.bool false)], args := [d1, d2] }
  | _ => none }
def NetDownWrongFalsely : Prop := netDownRow.holds Tryz.pinned (OpenSpec.ofChange netDownWrong)

/-- 'wayfarerlaw12.NetFull': WHATEVER THE INPUT: true; the input reads as it did. -/
def netFullSpec : ChangeSpec := { name := "netFull", fn := fun _ => fun
  | [d1, d2] => { results := [.lit (.bool true)], args := [d1, d2] }
  | _ => none }
def netFullRow : OpenClaim := { program := "ytkchckeecfalhaagreat", sum := "a2081357721c6bd35fea51c9416130dd65d5be357ce00aa2dd27f58844011cea", func := "wayfarer/wayfarerlaw12.NetFull", spec := "netFull", inPlace := ["maps.clone"], unfollowed := true, recurses := true, plainKeys := false, apart := false }
def NetFullSaid : Prop := netFullRow.holds Tryz.pinned (OpenSpec.ofChange netFullSpec)

/-- ITS FALSE NEIGHBOUR: 'it returns false'. Refute it at one input. -/
def netFullWrong : ChangeSpec := { name := "netFull", fn := fun _ => fun
  | [d1, d2] => { results := [.lit (.bool false)], args := [d1, d2] }
  | _ => none }
def NetFullWrongFalsely : Prop := netFullRow.holds Tryz.pinned (OpenSpec.ofChange netFullWrong)

/-- 'wayfarerlaw15.PlayEvents': WHATEVER THE INPUT: true; the input reads as it did. -/
def playEventsSpec : ChangeSpec := { name := "playEvents", fn := fun _ => fun
  | [d1, d2] => { results := [.lit (.bool true)], args := [d1, d2] }
  | _ => none }
def playEventsRow : OpenClaim := { program := "ytkchckeecfalhaagreat", sum := "a2081357721c6bd35fea51c9416130dd65d5be357ce00aa2dd27f58844011cea", func := "wayfarer/wayfarerlaw15.PlayEvents", spec := "playEvents", inPlace := ["maps.clone"], unfollowed := true, recurses := true, plainKeys := false, apart := false }
def PlayEventsSaid : Prop := playEventsRow.holds Tryz.pinned (OpenSpec.ofChange playEventsSpec)

/-- ITS FALSE NEIGHBOUR: 'it returns false'. Refute it at one input. -/
def playEventsWrong : ChangeSpec := { name := "playEvents", fn := fun _ => fun
  | [d1, d2] => { results := [.lit (.bool false)], args := [d1, d2] }
  | _ => none }
def PlayEventsWrongFalsely : Prop := playEventsRow.holds Tryz.pinned (OpenSpec.ofChange playEventsWrong)

/-- 'wayfarerlaw15.PlayBytes': WHATEVER THE INPUT: true; the input reads as it did. -/
def playBytesSpec : ChangeSpec := { name := "playBytes", fn := fun _ => fun
  | [d] => { results := [.lit (.bool true)], args := [d] }
  | _ => none }
def playBytesRow : OpenClaim := { program := "ytkchckeecfalhaagreat", sum := "a2081357721c6bd35fea51c9416130dd65d5be357ce00aa2dd27f58844011cea", func := "wayfarer/wayfarerlaw15.PlayBytes", spec := "playBytes", inPlace := ["maps.clone"], unfollowed := true, recurses := true, plainKeys := false, apart := false }
def PlayBytesSaid : Prop := playBytesRow.holds Tryz.pinned (OpenSpec.ofChange playBytesSpec)

/-- ITS FALSE NEIGHBOUR: 'it returns false'. Refute it at one input. -/
def playBytesWrong : ChangeSpec := { name := "playBytes", fn := fun _ => fun
  | [d] => { results := [.lit (.bool false)], args := [d] }
  | _ => none }
def PlayBytesWrongFalsely : Prop := playBytesRow.holds Tryz.pinned (OpenSpec.ofChange playBytesWrong)

/-- 'wayfarerlaw15.PlayTwice': WHATEVER THE INPUT: true; the input reads as it did. -/
def playTwiceSpec : ChangeSpec := { name := "playTwice", fn := fun _ => fun
  | [d1, d2, d3, d4] => { results := [.lit (.bool true)], args := [d1, d2, d3, d4] }
  | _ => none }
def playTwiceRow : OpenClaim := { program := "ytkchckeecfalhaagreat", sum := "a2081357721c6bd35fea51c9416130dd65d5be357ce00aa2dd27f58844011cea", func := "wayfarer/wayfarerlaw15.PlayTwice", spec := "playTwice", inPlace := ["maps.clone"], unfollowed := true, recurses := true, plainKeys := false, apart := false }
def PlayTwiceSaid : Prop := playTwiceRow.holds Tryz.pinned (OpenSpec.ofChange playTwiceSpec)

/-- ITS FALSE NEIGHBOUR: 'it returns false'. Refute it at one input. -/
def playTwiceWrong : ChangeSpec := { name := "playTwice", fn := fun _ => fun
  | [d1, d2, d3, d4] => { results := [.lit (.bool false)], args := [d1, d2, d3, d4] }
  | _ => none }
def PlayTwiceWrongFalsely : Prop := playTwiceRow.holds Tryz.pinned (OpenSpec.ofChange playTwiceWrong)

/-- 'wayfarertop.WholeSettles': WHATEVER THE INPUT: true; the input reads as it did. -/
def wholeSettlesSpec : ChangeSpec := { name := "wholeSettles", fn := fun _ => fun
  | [d1, d2, d3] => { results := [.lit (.bool true)], args := [d1, d2, d3] }
  | _ => none }
def wholeSettlesRow : OpenClaim := { program := "ytkchckeecfalhaagreat", sum := "a2081357721c6bd35fea51c9416130dd65d5be357ce00aa2dd27f58844011cea", func := "wayfarer/wayfarertop.WholeSettles", spec := "wholeSettles", inPlace := ["maps.clone"], unfollowed := true, recurses := true, plainKeys := false, apart := false }
def WholeSettlesSaid : Prop := wholeSettlesRow.holds Tryz.pinned (OpenSpec.ofChange wholeSettlesSpec)

/-- ITS FALSE NEIGHBOUR: 'it returns false'. Refute it at one input. -/
def wholeSettlesWrong : ChangeSpec := { name := "wholeSettles", fn := fun _ => fun
  | [d1, d2, d3] => { results := [.lit (.bool false)], args := [d1, d2, d3] }
  | _ => none }
def WholeSettlesWrongFalsely : Prop := wholeSettlesRow.holds Tryz.pinned (OpenSpec.ofChange wholeSettlesWrong)

/-- 'wayfarertop.WholeJunk': WHATEVER THE INPUT: true; the input reads as it did. -/
def wholeJunkSpec : ChangeSpec := { name := "wholeJunk", fn := fun _ => fun
  | [d1, d2, d3, d4] => { results := [.lit (.bool true)], args := [d1, d2, d3, d4] }
  | _ => none }
def wholeJunkRow : OpenClaim := { program := "ytkchckeecfalhaagreat", sum := "a2081357721c6bd35fea51c9416130dd65d5be357ce00aa2dd27f58844011cea", func := "wayfarer/wayfarertop.WholeJunk", spec := "wholeJunk", inPlace := ["maps.clone"], unfollowed := true, recurses := true, plainKeys := false, apart := false }
def WholeJunkSaid : Prop := wholeJunkRow.holds Tryz.pinned (OpenSpec.ofChange wholeJunkSpec)

/-- ITS FALSE NEIGHBOUR: 'it returns false'. Refute it at one input. -/
def wholeJunkWrong : ChangeSpec := { name := "wholeJunk", fn := fun _ => fun
  | [d1, d2, d3, d4] => { results := [.lit (.bool false)], args := [d1, d2, d3, d4] }
  | _ => none }
def WholeJunkWrongFalsely : Prop := wholeJunkRow.holds Tryz.pinned (OpenSpec.ofChange wholeJunkWrong)

/-- 'wayfarertop.WholeLine': WHATEVER THE INPUT: true; the input reads as it did. -/
def wholeLineSpec : ChangeSpec := { name := "wholeLine", fn := fun _ => fun
  | [d1, d2, d3] => { results := [.lit (.bool true)], args := [d1, d2, d3] }
  | _ => none }
def wholeLineRow : OpenClaim := { program := "ytkchckeecfalhaagreat", sum := "a2081357721c6bd35fea51c9416130dd65d5be357ce00aa2dd27f58844011cea", func := "wayfarer/wayfarertop.WholeLine", spec := "wholeLine", inPlace := ["maps.clone"], unfollowed := true, recurses := true, plainKeys := false, apart := false }
def WholeLineSaid : Prop := wholeLineRow.holds Tryz.pinned (OpenSpec.ofChange wholeLineSpec)

/-- ITS FALSE NEIGHBOUR: 'it returns false'. Refute it at one input. -/
def wholeLineWrong : ChangeSpec := { name := "wholeLine", fn := fun _ => fun
  | [d1, d2, d3] => { results := [.lit (.bool false)], args := [d1, d2, d3] }
  | _ => none }
def WholeLineWrongFalsely : Prop := wholeLineRow.holds Tryz.pinned (OpenSpec.ofChange wholeLineWrong)

/-- 'wayfarertop.WholeScripts': WHATEVER THE INPUT: true; the input reads as it did. -/
def wholeScriptsSpec : ChangeSpec := { name := "wholeScripts", fn := fun _ => fun
  | [d] => { results := [.lit (.bool true)], args := [d] }
  | _ => none }
def wholeScriptsRow : OpenClaim := { program := "ytkchckeecfalhaagreat", sum := "a2081357721c6bd35fea51c9416130dd65d5be357ce00aa2dd27f58844011cea", func := "wayfarer/wayfarertop.WholeScripts", spec := "wholeScripts", inPlace := ["maps.clone"], unfollowed := true, recurses := true, plainKeys := false, apart := false }
def WholeScriptsSaid : Prop := wholeScriptsRow.holds Tryz.pinned (OpenSpec.ofChange wholeScriptsSpec)

/-- ITS FALSE NEIGHBOUR: 'it returns false'. Refute it at one input. -/
def wholeScriptsWrong : ChangeSpec := { name := "wholeScripts", fn := fun _ => fun
  | [d] => { results := [.lit (.bool false)], args := [d] }
  | _ => none }
def WholeScriptsWrongFalsely : Prop := wholeScriptsRow.holds Tryz.pinned (OpenSpec.ofChange wholeScriptsWrong)

/-- 'wayfarertop.WholeWithheld': WHATEVER THE INPUT: true; the input reads as it did. -/
def wholeWithheldSpec : ChangeSpec := { name := "wholeWithheld", fn := fun _ => fun
  | [d1, d2] => { results := [.lit (.bool true)], args := [d1, d2] }
  | _ => none }
def wholeWithheldRow : OpenClaim := { program := "ytkchckeecfalhaagreat", sum := "a2081357721c6bd35fea51c9416130dd65d5be357ce00aa2dd27f58844011cea", func := "wayfarer/wayfarertop.WholeWithheld", spec := "wholeWithheld", inPlace := ["maps.clone"], unfollowed := true, recurses := true, plainKeys := false, apart := false }
def WholeWithheldSaid : Prop := wholeWithheldRow.holds Tryz.pinned (OpenSpec.ofChange wholeWithheldSpec)

/-- ITS FALSE NEIGHBOUR: 'it returns false'. Refute it at one input. -/
def wholeWithheldWrong : ChangeSpec := { name := "wholeWithheld", fn := fun _ => fun
  | [d1, d2] => { results := [.lit (.bool false)], args := [d1, d2] }
  | _ => none }
def WholeWithheldWrongFalsely : Prop := wholeWithheldRow.holds Tryz.pinned (OpenSpec.ofChange wholeWithheldWrong)

/-- 'wayfarertop.WholeStays': WHATEVER THE INPUT: true; the input reads as it did. -/
def wholeStaysSpec : ChangeSpec := { name := "wholeStays", fn := fun _ => fun
  | [d1, d2] => { results := [.lit (.bool true)], args := [d1, d2] }
  | _ => none }
def wholeStaysRow : OpenClaim := { program := "ytkchckeecfalhaagreat", sum := "a2081357721c6bd35fea51c9416130dd65d5be357ce00aa2dd27f58844011cea", func := "wayfarer/wayfarertop.WholeStays", spec := "wholeStays", inPlace := ["maps.clone"], unfollowed := true, recurses := true, plainKeys := false, apart := false }
def WholeStaysSaid : Prop := wholeStaysRow.holds Tryz.pinned (OpenSpec.ofChange wholeStaysSpec)

/-- ITS FALSE NEIGHBOUR: 'it returns false'. Refute it at one input. -/
def wholeStaysWrong : ChangeSpec := { name := "wholeStays", fn := fun _ => fun
  | [d1, d2] => { results := [.lit (.bool false)], args := [d1, d2] }
  | _ => none }
def WholeStaysWrongFalsely : Prop := wholeStaysRow.holds Tryz.pinned (OpenSpec.ofChange wholeStaysWrong)

/- THE SECOND FORM. 'bulk': how many values and letters a reading holds, each counted each time it is reached (what is shared counts as often as it is met; a slice's spare places count too). A statement '..UptoSaid' is the law's where the arguments, and the package variables that the reading takes, are together of bulk at most 1048576: NARROWER than '..Said'. Prove '..Said' where nothing that the law and all that it calls make is longer than what came in: it says more and counts as full. Else prove '..UptoSaid'. A law counts once. -/
mutual
def uptoBulk {H : Type} : DataW H → Nat
  | .lit (.string bytes) => bytes.length + 1
  | .lit _ => 1
  | .nil => 1
  | .ptr d => uptoBulk d + 1
  | .slice elems spare => uptoBulkAll elems + uptoBulkAll spare + 1
  | .agg parts => uptoBulkAll parts + 1
  | .iface _ d => uptoBulk d + 1
  | .map entries => uptoBulkEntries entries + 1
  | .held _ => 1
def uptoBulkAll {H : Type} : List (DataW H) → Nat
  | [] => 0
  | d :: r => uptoBulk d + uptoBulkAll r
def uptoBulkEntries {H : Type} : List (Lit × DataW H) → Nat
  | [] => 0
  | x :: r => uptoBulkEntry x + uptoBulkEntries r
def uptoBulkEntry {H : Type} : Lit × DataW H → Nat
  | (.string bytes, d) => bytes.length + uptoBulk d + 1
  | (_, d) => uptoBulk d + 1
 end
def uptoSmall : (H : Type) → List (DataW H) → Bool := fun _ ds => decide (uptoBulkAll ds ≤ 1048576)
def OpenSpec.upto (s : _root_.Go.ChangeSpec) : _root_.Go.OpenSpec := { _root_.Go.OpenSpec.ofChange s with cond := some uptoSmall }

/-- 'wayfarerlaw12.NetSettles', WHERE WHAT IT READS IS OF BULK AT MOST 1048576: true; the input reads as it did. -/
def netSettlesUptoRow : OpenClaim := { program := "ytkchckeecfalhaagreat", sum := "a2081357721c6bd35fea51c9416130dd65d5be357ce00aa2dd27f58844011cea", func := "wayfarer/wayfarerlaw12.NetSettles", spec := "netSettles", inPlace := ["maps.clone"], unfollowed := true, recurses := true, plainKeys := false, apart := false, narrowed := true }
def NetSettlesUptoSaid : Prop := netSettlesUptoRow.holds Tryz.pinned (OpenSpec.upto netSettlesSpec)

/-- 'wayfarerlaw12.NetActs', WHERE WHAT IT READS IS OF BULK AT MOST 1048576: true; the input reads as it did. -/
def netActsUptoRow : OpenClaim := { program := "ytkchckeecfalhaagreat", sum := "a2081357721c6bd35fea51c9416130dd65d5be357ce00aa2dd27f58844011cea", func := "wayfarer/wayfarerlaw12.NetActs", spec := "netActs", inPlace := ["maps.clone"], unfollowed := true, recurses := true, plainKeys := false, apart := false, narrowed := true }
def NetActsUptoSaid : Prop := netActsUptoRow.holds Tryz.pinned (OpenSpec.upto netActsSpec)

/-- 'wayfarerlaw12.NetDown', WHERE WHAT IT READS IS OF BULK AT MOST 1048576: true; the input reads as it did. -/
def netDownUptoRow : OpenClaim := { program := "ytkchckeecfalhaagreat", sum := "a2081357721c6bd35fea51c9416130dd65d5be357ce00aa2dd27f58844011cea", func := "wayfarer/wayfarerlaw12.NetDown", spec := "netDown", inPlace := ["maps.clone"], unfollowed := true, recurses := true, plainKeys := false, apart := false, narrowed := true }
def NetDownUptoSaid : Prop := netDownUptoRow.holds Tryz.pinned (OpenSpec.upto netDownSpec)

/-- 'wayfarerlaw12.NetFull', WHERE WHAT IT READS IS OF BULK AT MOST 1048576: true; the input reads as it did. -/
def netFullUptoRow : OpenClaim := { program := "ytkchckeecfalhaagreat", sum := "a2081357721c6bd35fea51c9416130dd65d5be357ce00aa2dd27f58844011cea", func := "wayfarer/wayfarerlaw12.NetFull", spec := "netFull", inPlace := ["maps.clone"], unfollowed := true, recurses := true, plainKeys := false, apart := false, narrowed := true }
def NetFullUptoSaid : Prop := netFullUptoRow.holds Tryz.pinned (OpenSpec.upto netFullSpec)

/-- 'wayfarerlaw15.PlayEvents', WHERE WHAT IT READS IS OF BULK AT MOST 1048576: true; the input reads as it did. -/
def playEventsUptoRow : OpenClaim := { program := "ytkchckeecfalhaagreat", sum := "a2081357721c6bd35fea51c9416130dd65d5be357ce00aa2dd27f58844011cea", func := "wayfarer/wayfarerlaw15.PlayEvents", spec := "playEvents", inPlace := ["maps.clone"], unfollowed := true, recurses := true, plainKeys := false, apart := false, narrowed := true }
def PlayEventsUptoSaid : Prop := playEventsUptoRow.holds Tryz.pinned (OpenSpec.upto playEventsSpec)

/-- 'wayfarerlaw15.PlayBytes', WHERE WHAT IT READS IS OF BULK AT MOST 1048576: true; the input reads as it did. -/
def playBytesUptoRow : OpenClaim := { program := "ytkchckeecfalhaagreat", sum := "a2081357721c6bd35fea51c9416130dd65d5be357ce00aa2dd27f58844011cea", func := "wayfarer/wayfarerlaw15.PlayBytes", spec := "playBytes", inPlace := ["maps.clone"], unfollowed := true, recurses := true, plainKeys := false, apart := false, narrowed := true }
def PlayBytesUptoSaid : Prop := playBytesUptoRow.holds Tryz.pinned (OpenSpec.upto playBytesSpec)

/-- 'wayfarerlaw15.PlayTwice', WHERE WHAT IT READS IS OF BULK AT MOST 1048576: true; the input reads as it did. -/
def playTwiceUptoRow : OpenClaim := { program := "ytkchckeecfalhaagreat", sum := "a2081357721c6bd35fea51c9416130dd65d5be357ce00aa2dd27f58844011cea", func := "wayfarer/wayfarerlaw15.PlayTwice", spec := "playTwice", inPlace := ["maps.clone"], unfollowed := true, recurses := true, plainKeys := false, apart := false, narrowed := true }
def PlayTwiceUptoSaid : Prop := playTwiceUptoRow.holds Tryz.pinned (OpenSpec.upto playTwiceSpec)

/-- 'wayfarertop.WholeSettles', WHERE WHAT IT READS IS OF BULK AT MOST 1048576: true; the input reads as it did. -/
def wholeSettlesUptoRow : OpenClaim := { program := "ytkchckeecfalhaagreat", sum := "a2081357721c6bd35fea51c9416130dd65d5be357ce00aa2dd27f58844011cea", func := "wayfarer/wayfarertop.WholeSettles", spec := "wholeSettles", inPlace := ["maps.clone"], unfollowed := true, recurses := true, plainKeys := false, apart := false, narrowed := true }
def WholeSettlesUptoSaid : Prop := wholeSettlesUptoRow.holds Tryz.pinned (OpenSpec.upto wholeSettlesSpec)

/-- 'wayfarertop.WholeJunk', WHERE WHAT IT READS IS OF BULK AT MOST 1048576: true; the input reads as it did. -/
def wholeJunkUptoRow : OpenClaim := { program := "ytkchckeecfalhaagreat", sum := "a2081357721c6bd35fea51c9416130dd65d5be357ce00aa2dd27f58844011cea", func := "wayfarer/wayfarertop.WholeJunk", spec := "wholeJunk", inPlace := ["maps.clone"], unfollowed := true, recurses := true, plainKeys := false, apart := false, narrowed := true }
def WholeJunkUptoSaid : Prop := wholeJunkUptoRow.holds Tryz.pinned (OpenSpec.upto wholeJunkSpec)

/-- 'wayfarertop.WholeLine', WHERE WHAT IT READS IS OF BULK AT MOST 1048576: true; the input reads as it did. -/
def wholeLineUptoRow : OpenClaim := { program := "ytkchckeecfalhaagreat", sum := "a2081357721c6bd35fea51c9416130dd65d5be357ce00aa2dd27f58844011cea", func := "wayfarer/wayfarertop.WholeLine", spec := "wholeLine", inPlace := ["maps.clone"], unfollowed := true, recurses := true, plainKeys := false, apart := false, narrowed := true }
def WholeLineUptoSaid : Prop := wholeLineUptoRow.holds Tryz.pinned (OpenSpec.upto wholeLineSpec)

/-- 'wayfarertop.WholeScripts', WHERE WHAT IT READS IS OF BULK AT MOST 1048576: true; the input reads as it did. -/
def wholeScriptsUptoRow : OpenClaim := { program := "ytkchckeecfalhaagreat", sum := "a2081357721c6bd35fea51c9416130dd65d5be357ce00aa2dd27f58844011cea", func := "wayfarer/wayfarertop.WholeScripts", spec := "wholeScripts", inPlace := ["maps.clone"], unfollowed := true, recurses := true, plainKeys := false, apart := false, narrowed := true }
def WholeScriptsUptoSaid : Prop := wholeScriptsUptoRow.holds Tryz.pinned (OpenSpec.upto wholeScriptsSpec)

/-- 'wayfarertop.WholeWithheld', WHERE WHAT IT READS IS OF BULK AT MOST 1048576: true; the input reads as it did. -/
def wholeWithheldUptoRow : OpenClaim := { program := "ytkchckeecfalhaagreat", sum := "a2081357721c6bd35fea51c9416130dd65d5be357ce00aa2dd27f58844011cea", func := "wayfarer/wayfarertop.WholeWithheld", spec := "wholeWithheld", inPlace := ["maps.clone"], unfollowed := true, recurses := true, plainKeys := false, apart := false, narrowed := true }
def WholeWithheldUptoSaid : Prop := wholeWithheldUptoRow.holds Tryz.pinned (OpenSpec.upto wholeWithheldSpec)

/-- 'wayfarertop.WholeStays', WHERE WHAT IT READS IS OF BULK AT MOST 1048576: true; the input reads as it did. -/
def wholeStaysUptoRow : OpenClaim := { program := "ytkchckeecfalhaagreat", sum := "a2081357721c6bd35fea51c9416130dd65d5be357ce00aa2dd27f58844011cea", func := "wayfarer/wayfarertop.WholeStays", spec := "wholeStays", inPlace := ["maps.clone"], unfollowed := true, recurses := true, plainKeys := false, apart := false, narrowed := true }
def WholeStaysUptoSaid : Prop := wholeStaysUptoRow.holds Tryz.pinned (OpenSpec.upto wholeStaysSpec)

end Rows
end Go.Proofs.YtkchckeecfalhaaGreat
