/-
  The order of prefixes, as a sort asks it: what a call leaves is draws and new blocks.
-/
import Derived.Test.YtblhijgjidfioaaAddrOrdM
import Derived.Test.YtblhijgjidfioaaCmp32
import Derived.Test.YtblhijgjidfioaaCmpInt
import Derived.Test.YtblhijgjidfioaaCmpOr
import Derived.Sort.Grow
namespace Go.Proofs.Ytblhijgjidfioaa
open Go.RowKit Go.Sort

/-- draws, and new blocks -/
def Gr (w w' : World) : Prop := ∃ q os, w' = grow (w.drewN q) os
theorem Gr.refl (w : World) : Gr w w := ⟨0, #[], by rw [grow_empty]; rfl⟩
theorem Gr.alloc {w w' : World} (h : Gr w w') (o : Obj) : Gr w (w'.alloc o) := by
  obtain ⟨q, os, rfl⟩ := h
  exact ⟨q, os ++ #[o], by rw [alloc_eq_grow, grow_grow]⟩
theorem Gr.drewN {w w' : World} (h : Gr w w') (n : Nat) : Gr w (w'.drewN n) := by
  obtain ⟨q, os, rfl⟩ := h
  exact ⟨q + n, os, by show grow ((w.drewN q).drewN n) os = _; rw [World.drewN_drewN]⟩
theorem Gr.drew {w w' : World} (h : Gr w w') : Gr w w'.drew := h.drewN 1
theorem Gr.trans {a b c : World} (h : Gr a b) (k : Gr b c) : Gr a c := by
  obtain ⟨q, os, rfl⟩ := k
  obtain ⟨q0, os0, rfl⟩ := h
  exact ⟨q0 + q, os0 ++ os, by show grow (grow ((a.drewN q0).drewN q) os0) os = _; rw [grow_grow, World.drewN_drewN]⟩
theorem Gr.below {w w' : World} (h : Gr w w') : Below w.heap.size w w' := by
  obtain ⟨q, os, rfl⟩ := h
  exact ⟨rfl, rfl, rfl, by show w.heap.size ≤ _; rw [size_grow]; exact Nat.le_add_right _ _, fun k hk => heap_grow_old (w.drewN q) os hk⟩
theorem Gr.cell {w w' : World} (h : Gr w w') {a : Addr} {v : Value} (hc : w.cell? a = some v) : w'.cell? a = some v := held h.below hc
theorem two_gr (w : World) (t t' : TypeId) (C D : Array Value) : Gr w ((w.alloc (.cells C t)).alloc (.cells D t')) := ((Gr.refl w).alloc _).alloc _

set_option maxHeartbeats 400000 in
theorem cmpP_gr (a n b m : Int) (w : World) :
    Calls Try.prog 31 #[.agg #[.int .u32 a, .int .i64 n], .agg #[.int .u32 b, .int .i64 m]] w fun e w' => e = .returned (.int .i64 (Om.pcmp a n b m)) ∧ Gr w w' := by
  have D : Hid (or2 (cmpI a b) (cmpI n m) = Om.pcmp a n b m) := Lib.hid rfl
  go_enter Try.func31, Try.ntmps31
  go_wp2_with fail
  have A := (Blk.new w 32 #[.int .u32 a, .int .i64 n]).more (.cells #[.int .u32 b, .int .i64 m] 32)
  have B := Blk.new (w.alloc (.cells #[.int .u32 a, .int .i64 n] 32)) 32 #[.int .u32 b, .int .i64 m]
  rw [size_new] at B
  have a0 := A.at_ 0
  have a1 := A.at_ 1
  have b0 := B.at_ 0
  have b1 := B.at_ 1
  have HB := Lib.hid (two_gr w 32 32 #[.int .u32 a, .int .i64 n] #[.int .u32 b, .int .i64 m])
  clear A B
  generalize (w.alloc (.cells #[.int .u32 a, .int .i64 n] 32)).alloc (.cells #[.int .u32 b, .int .i64 m] 32) = w2 at *
  go_region_held3 (fun w' => w'.cell? ⟨w.heap.size, 0, none⟩ = some (.int .u32 a) ∧ w'.cell? ⟨w.heap.size, 1, none⟩ = some (.int .i64 n) ∧ w'.cell? ⟨w.heap.size + 1, 0, none⟩ = some (.int .u32 b) ∧ w'.cell? ⟨w.heap.size + 1, 1, none⟩ = some (.int .i64 m)) (go_keep)
    (first | (go_at_call 44; refine (cmp32 _ _ _).mono ?_; rintro e w' ⟨rfl, rfl⟩) | (go_at_call 45; refine (cmpInt _ _ _).mono ?_; rintro e w' ⟨rfl, rfl⟩) | (go_at_call 43; refine (or_two _ (cmpI a b) (cmpI n m) _ ?_ ?_).mono ?_; (· exact (new_cell _ _ _ _).trans rfl); (· exact (new_cell _ _ _ _).trans rfl); rintro e w' ⟨rfl, rfl⟩))
  go_wp2
  go_ret
  exact ⟨ret_int D.out, (HB.out.alloc _).drew⟩
end Go.Proofs.Ytblhijgjidfioaa
