/-
  What comes in: a list of three numbers each.
-/
import Derived.Test.YtdeiolpcppibgaaRows
import Derived.Test.YtdeiolpcppibgaaLaw
import Derived.Test.YtdeiolpcppibgaaLpE
import Derived.Deep.Slices
import Derived.Deep.Fields
import Derived.ChangeSame
import Derived.Lib.SmallJoins
import Derived.Laws.IdiomArrays
namespace Go.Proofs.Ytdeiolpcppibgaa
open Go.ChangeShapes Go.WideShapes Go.ChangeAt Go.RowKit Go.Joins Go.Deep
set_option maxRecDepth 100000

theorem row_own : ownKnob Try.prog.godebug = none := by kernel_rfl
theorem row_laidOut : laidOutB Try.prog = true := by kernel_rfl
theorem cells_three : Try.prog.cellsOf 45 = 3 := by kernel_rfl
theorem cells_int : Try.prog.cellsOf 3 = 1 := by kernel_rfl
theorem row_u32 {z : Int} (h : (Lit.int .u32 z).wf = true) : ∃ n : Nat, z = n ∧ n < 4294967296 := by
  have h1 : IntKind.u32.min = 0 := rfl
  have h2 : IntKind.u32.max = 4294967295 := rfl
  simp only [Lit.wf, Bool.and_eq_true, decide_eq_true_eq] at h
  exact ⟨z.toNat, by omega, by omega⟩
section
variable {H : Type} {enc : TypeId × Value → H} {w : World} {base : Nat} {spare : Nat → Bool} {hld : Bool}
theorem trod_three {fuel : Nat} {cs : List Value} {y : DataW H × List MemPlace} (h : DataW.trod enc Try.prog w base spare hld fuel 45 cs = some y) (hl : cs.length = 3) :
    ∃ z0 z1 z2 : Int, cs = [.int .i64 z0, .int .i64 z1, .int .i64 z2] := by
  obtain ⟨c0, c1, c2, rfl⟩ : ∃ a b c, cs = [a, b, c] := by
    match cs, hl with
    | [a, b, c], _ => exact ⟨a, b, c, rfl⟩
  obtain ⟨y0, y1, y2, m, -, g0, g1, g2⟩ := trod_array3 Try.underlying45 cells_int h
  obtain ⟨z0, e0, -, -⟩ := DataW.trod_int Try.underlying3 g0
  obtain ⟨z1, e1, -, -⟩ := DataW.trod_int Try.underlying3 g1
  obtain ⟨z2, e2, -, -⟩ := DataW.trod_int Try.underlying3 g2
  simp at e0 e1 e2
  exact ⟨z0, z1, z2, by rw [e0, e1, e2]⟩
theorem open_threes {fuel : Nat} {A : Option Addr} {len cap : Nat} {x : DataW H × List MemPlace} (h : DataW.trod enc Try.prog w base (fun _ => true) hld fuel 22 (Value.slice A len cap).cells.toList = some x) :
    ∃ f, InT w A len cap f := by
  rcases open_slice Try.underlying22 h with ⟨hcs, -⟩ | ⟨a, len', cap', m, n, D, Pl, hcs, _, hl, hm, hmm, -, hi⟩
  · simp [Value.cells] at hcs
    obtain ⟨rfl, rfl, rfl⟩ := hcs
    exact ⟨fun _ _ => 0, by unfold maxLen; omega, by omega, fun h => absurd h (by omega), fun b off e => by cases e⟩
  · simp [Value.cells] at hcs
    obtain ⟨rfl, rfl, rfl⟩ := hcs
    simp only [if_true] at hmm
    have hp : ∀ i : Nat, ∃ g : Nat → Int, i < m → ∀ j, j < 3 → w.cell? (a.add (i * 3 + j)) = some (.int .i64 (g j)) := fun i => by
      by_cases him : i < m
      · obtain ⟨cs', hc, ht⟩ := hi i him
        rw [cells_three] at hc
        obtain ⟨_, hcl, hat⟩ := World.cells?_some hc
        obtain ⟨z0, z1, z2, rfl⟩ := trod_three ht hcl
        refine ⟨fun j => if j = 0 then z0 else if j = 1 then z1 else z2, fun _ j hj => ?_⟩
        have h3 : j = 0 ∨ j = 1 ∨ j = 2 := by omega
        have h1 := hat j (by omega)
        rw [Deep.add_add] at h1
        rw [h1]
        rcases h3 with rfl | rfl | rfl <;> rfl
      · exact ⟨fun _ => 0, fun h => absurd h him⟩
    obtain ⟨f, hf⟩ := Classical.axiomOfChoice hp
    refine ⟨f, by omega, hl, fun h0 => ?_, fun b off e i hi' j hj => ?_⟩
    · obtain ⟨b, off, spot⟩ := a
      have h1 := hf 0 (by omega) 0 (by omega)
      have hspot : spot = none := by simpa [Addr.add] using World.cell?_spot (h1.trans rfl)
      exact ⟨b, off, by rw [hspot]⟩
    · cases e
      rw [← hf i (by omega) j hj, show (⟨b, off, none⟩ : Addr).add (i * 3 + j) = ⟨b, off + i * 3 + j, none⟩ by
        rw [Nat.add_assoc]
        generalize i * 3 + j = q
        by_cases hq : q = 0
        · subst hq; rfl
        · simp [Addr.add, hq]]
end
end Go.Proofs.Ytdeiolpcppibgaa
