/-
  The orders of prefixes and keys, as a sort asks them: what a call leaves is draws and new blocks.
-/
import Derived.Test.YtncliolkdkofhaaIt
import Derived.Test.YtncliolkdkofhaaStK
import Derived.Test.YtncliolkdkofhaaAddrOrdM
import Derived.Test.YtncliolkdkofhaaCmp32
import Derived.Test.YtncliolkdkofhaaCmpInt
import Derived.Test.YtncliolkdkofhaaCmpOr
import Derived.Sort.Grow
import Derived.Shelf.SlSortCmp.WholeK
namespace Go.Proofs.Ytncliolkdkofhaa
open Go.RowKit Go.Sort

/-- draws, and new blocks -/
def Gr (w w' : World) : Prop := ∃ q os, w' = grow (w.drewN q) os
theorem Gr.refl (w : World) : Gr w w := ⟨0, #[], by rw [grow_empty]; rfl⟩
theorem Gr.alloc {w w' : World} (h : Gr w w') (o : Obj) : Gr w (w'.alloc o) := by
  obtain ⟨q, os, rfl⟩ := h
  exact ⟨q, os ++ #[o], by rw [alloc_eq_grow, grow_grow]⟩
theorem Gr.drewN {w w' : World} (h : Gr w w') (n : Nat) : Gr w (w'.drewN n) := by
  obtain ⟨q, os, rfl⟩ := h
  exact ⟨q + n, os, by show grow ((w.drewN q).drewN n) os = _; rw [World.drewN_drewN]⟩
theorem Gr.drew {w w' : World} (h : Gr w w') : Gr w w'.drew := h.drewN 1
theorem Gr.trans {a b c : World} (h : Gr a b) (k : Gr b c) : Gr a c := by
  obtain ⟨q, os, rfl⟩ := k
  obtain ⟨q0, os0, rfl⟩ := h
  exact ⟨q0 + q, os0 ++ os, by show grow (grow ((a.drewN q0).drewN q) os0) os = _; rw [grow_grow, World.drewN_drewN]⟩
theorem Gr.below {w w' : World} (h : Gr w w') : Below w.heap.size w w' := by
  obtain ⟨q, os, rfl⟩ := h
  exact ⟨rfl, rfl, rfl, by show w.heap.size ≤ _; rw [size_grow]; exact Nat.le_add_right _ _, fun k hk => heap_grow_old (w.drewN q) os hk⟩
theorem Gr.cell {w w' : World} (h : Gr w w') {a : Addr} {v : Value} (hc : w.cell? a = some v) : w'.cell? a = some v := held h.below hc

def cfP (x y : Pk) : Int := Om.pcmp x.a x.n y.a y.n
def cfK (x y : Ky) : Int := or2 (Om.pcmp x.a x.n y.a y.n) (cmpI x.id y.id)

theorem two_gr (w : World) (t t' : TypeId) (C D : Array Value) : Gr w ((w.alloc (.cells C t)).alloc (.cells D t')) := ((Gr.refl w).alloc _).alloc _

set_option maxHeartbeats 400000 in
theorem cmpP_gr (a n b m : Int) (w : World) :
    Calls Try.prog 34 #[.agg #[.int .u32 a, .int .i64 n], .agg #[.int .u32 b, .int .i64 m]] w fun e w' => e = .returned (.int .i64 (Om.pcmp a n b m)) ∧ Gr w w' := by
  have D : Hid (or2 (cmpI a b) (cmpI n m) = Om.pcmp a n b m) := Lib.hid rfl
  go_enter Try.func34, Try.ntmps34
  go_wp2_with fail
  have A := (Blk.new w 32 #[.int .u32 a, .int .i64 n]).more (.cells #[.int .u32 b, .int .i64 m] 32)
  have B := Blk.new (w.alloc (.cells #[.int .u32 a, .int .i64 n] 32)) 32 #[.int .u32 b, .int .i64 m]
  rw [size_new] at B
  have a0 := A.at_ 0
  have a1 := A.at_ 1
  have b0 := B.at_ 0
  have b1 := B.at_ 1
  have HB := Lib.hid (two_gr w 32 32 #[.int .u32 a, .int .i64 n] #[.int .u32 b, .int .i64 m])
  clear A B
  generalize (w.alloc (.cells #[.int .u32 a, .int .i64 n] 32)).alloc (.cells #[.int .u32 b, .int .i64 m] 32) = w2 at *
  go_region_held3 (fun w' => w'.cell? ⟨w.heap.size, 0, none⟩ = some (.int .u32 a) ∧ w'.cell? ⟨w.heap.size, 1, none⟩ = some (.int .i64 n) ∧ w'.cell? ⟨w.heap.size + 1, 0, none⟩ = some (.int .u32 b) ∧ w'.cell? ⟨w.heap.size + 1, 1, none⟩ = some (.int .i64 m)) (go_keep)
    (first | (go_at_call 40; refine (cmp32 _ _ _).mono ?_; rintro e w' ⟨rfl, rfl⟩) | (go_at_call 45; refine (cmpInt _ _ _).mono ?_; rintro e w' ⟨rfl, rfl⟩) | (go_at_call 39; refine (or_two _ (cmpI a b) (cmpI n m) _ ?_ ?_).mono ?_; (· exact (new_cell _ _ _ _).trans rfl); (· exact (new_cell _ _ _ _).trans rfl); rintro e w' ⟨rfl, rfl⟩))
  go_wp2
  go_ret
  exact ⟨ret_int D.out, (HB.out.alloc _).drew⟩

set_option maxHeartbeats 400000 in
theorem cmpK_gr (a n : Int) (i : Int) (b m j : Int) (w : World) :
    Calls Try.prog 37 #[.agg #[.int .u32 a, .int .i64 n, .int .u32 i], .agg #[.int .u32 b, .int .i64 m, .int .u32 j]] w fun e w' => e = .returned (.int .i64 (or2 (Om.pcmp a n b m) (cmpI i j))) ∧ Gr w w' := by
  go_enter Try.func37, Try.ntmps37
  go_wp2_with fail
  have A := (Blk.new w 45 #[.int .u32 a, .int .i64 n, .int .u32 i]).more (.cells #[.int .u32 b, .int .i64 m, .int .u32 j] 45)
  have B := Blk.new (w.alloc (.cells #[.int .u32 a, .int .i64 n, .int .u32 i] 45)) 45 #[.int .u32 b, .int .i64 m, .int .u32 j]
  rw [size_new] at B
  have a0 := A.at_ 0
  have a1 := A.at_ 1
  have a2 := A.at_ 2
  have b0 := B.at_ 0
  have b1 := B.at_ 1
  have b2 := B.at_ 2
  have HB := Lib.hid (two_gr w 45 45 #[.int .u32 a, .int .i64 n, .int .u32 i] #[.int .u32 b, .int .i64 m, .int .u32 j])
  clear A B
  generalize (w.alloc (.cells #[.int .u32 a, .int .i64 n, .int .u32 i] 45)).alloc (.cells #[.int .u32 b, .int .i64 m, .int .u32 j] 45) = w2 at *
  obtain ⟨r, hr⟩ : ∃ r, r = Om.pcmp a n b m := ⟨_, rfl⟩
  have HP : Hid (∀ w, Calls Try.prog 34 #[.agg #[.int .u32 a, .int .i64 n], .agg #[.int .u32 b, .int .i64 m]] w fun e w' => e = .returned (.int .i64 r) ∧ Gr w w') := Lib.hid (hr ▸ cmpP_gr a n b m)
  have D : Hid (or2 r (cmpI i j) = or2 (Om.pcmp a n b m) (cmpI i j)) := Lib.hid (by rw [hr])
  clear hr
  go_region_held3 (fun w' => w'.cell? ⟨w.heap.size, 0, none⟩ = some (.int .u32 a) ∧ w'.cell? ⟨w.heap.size, 1, none⟩ = some (.int .i64 n) ∧ w'.cell? ⟨w.heap.size, 2, none⟩ = some (.int .u32 i) ∧ w'.cell? ⟨w.heap.size + 1, 0, none⟩ = some (.int .u32 b) ∧ w'.cell? ⟨w.heap.size + 1, 1, none⟩ = some (.int .i64 m) ∧ w'.cell? ⟨w.heap.size + 1, 2, none⟩ = some (.int .u32 j)) (go_keep)
    (first | (go_at_call 34; refine (HP.out _).mono ?_; rintro e w3 ⟨rfl, hg⟩; have z0 := hg.cell a0; have z1 := hg.cell a1; have z2 := hg.cell a2; have y0 := hg.cell b0; have y1 := hg.cell b1; have y2 := hg.cell b2; replace hg := Lib.hid hg) | (go_at_call 40; refine (cmp32 _ _ _).mono ?_; rintro e w' ⟨rfl, rfl⟩) | (go_at_call 39; refine (or_two _ r (cmpI i j) _ ?_ ?_).mono ?_; (· exact (new_cell _ _ _ _).trans rfl); (· exact (new_cell _ _ _ _).trans rfl); rintro e w' ⟨rfl, rfl⟩))
  all_goals
    go_wp2
    go_ret
    exact ⟨ret_int D.out, ((HB.out.drew.trans hg.out).alloc _)⟩

def ltP (x y : Pk) : Prop := x.a < y.a ∨ x.a = y.a ∧ x.n < y.n
def ltK (x y : Ky) : Prop := ltP ⟨x.a, x.n⟩ ⟨y.a, y.n⟩ ∨ (x.a = y.a ∧ x.n = y.n) ∧ x.id < y.id
theorem cfP_neg (x y : Pk) : ltOf cfP x y = true ↔ ltP x y := by
  unfold ltOf cfP Om.pcmp or2 cmpI ltP
  rw [decide_eq_true_eq]
  split <;> (try split) <;> (try split) <;> (try split) <;> omega
theorem cfK_neg (x y : Ky) : ltOf cfK x y = true ↔ ltK x y := by
  unfold ltOf cfK Om.pcmp or2 cmpI ltK ltP
  rw [decide_eq_true_eq]
  dsimp only
  split <;> (try split) <;> (try split) <;> (try split) <;> (try split) <;> (try split) <;> omega
theorem cfP_no (x y : Pk) : ltOf cfP x y = false ↔ ¬ ltP x y := by rw [← cfP_neg, Bool.not_eq_true]
theorem cfK_no (x y : Ky) : ltOf cfK x y = false ↔ ¬ ltK x y := by rw [← cfK_neg, Bool.not_eq_true]
theorem swoP : SWO (ltOf cfP) where
  irrefl x := by rw [cfP_no]; unfold ltP; omega
  trans x y z h1 h2 := by rw [cfP_neg] at *; unfold ltP at *; omega
  ntrans x y z h1 h2 := by rw [cfP_no] at *; unfold ltP at *; omega
theorem swoK : SWO (ltOf cfK) where
  irrefl x := by rw [cfK_no]; unfold ltK ltP; dsimp only; omega
  trans x y z h1 h2 := by rw [cfK_neg] at *; unfold ltK ltP at *; dsimp only at *; omega
  ntrans x y z h1 h2 := by rw [cfK_no] at *; unfold ltK ltP at *; dsimp only at *; omega
end Go.Proofs.Ytncliolkdkofhaa
