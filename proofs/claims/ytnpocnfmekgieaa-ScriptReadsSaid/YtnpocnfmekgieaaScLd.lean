/-
  The statement's own Right, whole.
-/
import Derived.Test.YtnpocnfmekgieaaScLa
import Derived.Test.YtnpocnfmekgieaaScLb
import Derived.Test.YtnpocnfmekgieaaScLc
import Derived.Deep.DeepCutAuto
namespace Go.Proofs.Ytnpocnfmekgieaa
open Go.RowKit Go.Maps Sc


theorem lright_any (e : Ev) (ha : e.a < 4294967296) (w : World) : Calls Try.prog 10 #[.agg (ecs e)] w fun x w' => x = .returned (.bool (right e)) ∧ Below w.heap.size w w' := by
  obtain ⟨s, hs⟩ : ∃ s : ByteArray, s = ⟨e.p.toArray⟩ := ⟨_, rfl⟩
  have hz : s.size = e.p.length := by rw [hs]; exact str_size e.p
  cases h0 : decide (e.kind < 0)
  case true => exact (show right e = false by unfold right; rw [decide_eq_false (by have := of_decide_eq_true h0; omega)]; rfl) ▸ lr_0 e s hs ha h0 w
  cases h1 : decide (10 < e.kind)
  case true => exact (show right e = false by unfold right; rw [show decide (e.kind ≤ 10) = false from decide_eq_false (by have := of_decide_eq_true h1; omega)]; simp) ▸ lr_1 e s hs ha h0 h1 w
  have k0 := of_decide_eq_false h0
  have k1 := of_decide_eq_false h1
  cases h2 : Am.right e.a e.len
  case false => exact (show right e = false by unfold right; rw [h2]; simp) ▸ lr_2 e s hs ha h0 h1 h2 w
  cases h3 : decide ((240 : Int) < (s.size : Int))
  case true => exact (show right e = false by unfold right; rw [show decide (e.p.length ≤ 240) = false from decide_eq_false (by have := of_decide_eq_true h3; omega)]; simp) ▸ lr_3 e s hs ha h0 h1 h2 h3 w
  cases h4 : ((s.size : Int) % 6 != 0)
  case true => exact (show right e = false by unfold right; rw [show decide (e.p.length % 6 = 0) = false from decide_eq_false (by have := bne_iff_ne.1 h4; omega)]; simp) ▸ lr_4 e s hs ha h0 h1 h2 h3 h4 w
  cases h5 : decide (e.i < 0)
  case true => exact (show right e = false by unfold right small; rw [show decide (0 ≤ e.i) = false from decide_eq_false (by have := of_decide_eq_true h5; omega)]; simp) ▸ lr_5 e s hs ha h0 h1 h2 h3 h4 h5 w
  cases h6 : decide (65536 < e.i)
  case true => exact (show right e = false by unfold right small; rw [show decide (e.i ≤ 65536) = false from decide_eq_false (by have := of_decide_eq_true h6; omega)]; simp) ▸ lr_6 e s hs ha h0 h1 h2 h3 h4 h5 h6 w
  cases h7 : decide (e.k < 0)
  case true => exact (show right e = false by unfold right small; rw [show decide (0 ≤ e.k) = false from decide_eq_false (by have := of_decide_eq_true h7; omega)]; simp) ▸ lr_7 e s hs ha h0 h1 h2 h3 h4 h5 h6 h7 w
  cases h8 : decide (65536 < e.k)
  case true => exact (show right e = false by unfold right small; rw [show decide (e.k ≤ 65536) = false from decide_eq_false (by have := of_decide_eq_true h8; omega)]; simp) ▸ lr_8 e s hs ha h0 h1 h2 h3 h4 h5 h6 h7 h8 w
  cases h9 : decide (e.n < 0)
  case true => exact (show right e = false by unfold right small; rw [show decide (0 ≤ e.n) = false from decide_eq_false (by have := of_decide_eq_true h9; omega)]; simp) ▸ lr_9 e s hs ha h0 h1 h2 h3 h4 h5 h6 h7 h8 h9 w
  cases h10 : decide (65536 < e.n)
  case true => exact (show right e = false by unfold right small; rw [show decide (e.n ≤ 65536) = false from decide_eq_false (by have := of_decide_eq_true h10; omega)]; simp) ▸ lr_10 e s hs ha h0 h1 h2 h3 h4 h5 h6 h7 h8 h9 h10 w
  have k3 := of_decide_eq_false h3
  have k4 : (s.size : Int) % 6 = 0 := by simpa using h4
  have k5 := of_decide_eq_false h5
  have k6 := of_decide_eq_false h6
  have k7 := of_decide_eq_false h7
  have k8 := of_decide_eq_false h8
  have k9 := of_decide_eq_false h9
  have k10 := of_decide_eq_false h10
  have hr : right e = bare e := by
    unfold right small
    rw [decide_eq_true (show 0 ≤ e.kind by omega), decide_eq_true (show e.kind ≤ 10 by omega), decide_eq_true (show 0 ≤ e.i by omega), decide_eq_true (show e.i ≤ 65536 by omega), decide_eq_true (show 0 ≤ e.k by omega), decide_eq_true (show e.k ≤ 65536 by omega), decide_eq_true (show 0 ≤ e.n by omega), decide_eq_true (show e.n ≤ 65536 by omega), h2, decide_eq_true (show e.p.length ≤ 240 by omega), decide_eq_true (show e.p.length % 6 = 0 by omega)]
    simp
  rw [hr]
  have hk : e.kind = 0 ∨ e.kind = 1 ∨ e.kind = 2 ∨ e.kind = 3 ∨ e.kind = 4 ∨ e.kind = 5 ∨ e.kind = 6 ∨ e.kind = 7 ∨ e.kind = 8 ∨ e.kind = 9 ∨ e.kind = 10 := by omega
  rcases hk with hk | hk | hk | hk | hk | hk | hk | hk | hk | hk | hk
  · exact lrk_0 e s hs ha h0 h1 h2 h3 h4 h5 h6 h7 h8 h9 h10 hk w
  · exact lrk_1 e s hs ha h0 h1 h2 h3 h4 h5 h6 h7 h8 h9 h10 hk w
  · exact lrk_2 e s hs ha h0 h1 h2 h3 h4 h5 h6 h7 h8 h9 h10 hk w
  · exact lrk_3 e s hs ha h0 h1 h2 h3 h4 h5 h6 h7 h8 h9 h10 hk w
  · exact lrk_4 e s hs ha h0 h1 h2 h3 h4 h5 h6 h7 h8 h9 h10 hk w
  · exact lrk_5 e s hs ha h0 h1 h2 h3 h4 h5 h6 h7 h8 h9 h10 hk w
  · exact lrk_6 e s hs ha h0 h1 h2 h3 h4 h5 h6 h7 h8 h9 h10 hk w
  · exact lrk_7 e s hs ha h0 h1 h2 h3 h4 h5 h6 h7 h8 h9 h10 hk w
  · exact lrk_8 e s hs ha h0 h1 h2 h3 h4 h5 h6 h7 h8 h9 h10 hk w
  · exact lrk_9 e s hs ha h0 h1 h2 h3 h4 h5 h6 h7 h8 h9 h10 hk w
  · exact lrk_10 e s hs ha h0 h1 h2 h3 h4 h5 h6 h7 h8 h9 h10 hk w
theorem lright_eq {e : Ev} {r : Bool} (ha : e.a < 4294967296) (h : right e = r) (w : World) : Calls Try.prog 10 #[.agg (ecs e)] w fun x w' => x = .returned (.bool r) ∧ Below w.heap.size w w' := h ▸ lright_any e ha w
end Go.Proofs.Ytnpocnfmekgieaa
