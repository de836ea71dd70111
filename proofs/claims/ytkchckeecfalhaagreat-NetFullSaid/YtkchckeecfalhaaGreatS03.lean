/-
  The contract of package rec's Right: each way through its tests.
  The contract of package rec's Sector.
  The contract of the statement's Bytes.
-/
import Derived.Test.YtkchckeecfalhaaGreatS02
import Derived.Deep.Cut
set_option maxRecDepth 20000
namespace Go.Proofs.YtkchckeecfalhaaGreat
open Go.RowKit Rm

set_option maxHeartbeats 1000000 in
theorem rk_low (k : Int) (g l i a : Nat) (n : Int) (o : Bool) (s m : Nat) (d1 : decide (1 ≤ k) = false) (w : World) :
    Calls Tryz.prog 177 #[.agg #[.int .i64 k, .int .u32 g, .int .u32 l, .int .u32 i, .int .u32 a, .int .i64 n, .bool o, .int .u32 s, .int .u16 m]] w fun e w' => e = .returned (.bool false) ∧ Below w.heap.size w w' := by
  go_enter Tryz.func177, Tryz.ntmps177
  go_wp2_with fail
  have C := Blk.new w 233 #[.int .i64 k, .int .u32 g, .int .u32 l, .int .u32 i, .int .u32 a, .int .i64 n, .bool o, .int .u32 s, .int .u16 m]
  have hb0 := below_new w (.cells #[.int .i64 k, .int .u32 g, .int .u32 l, .int .u32 i, .int .u32 a, .int .i64 n, .bool o, .int .u32 s, .int .u16 m] 233)
  generalize w.alloc (.cells #[.int .i64 k, .int .u32 g, .int .u32 l, .int .u32 i, .int .u32 a, .int .i64 n, .bool o, .int .u32 s, .int .u16 m] 233) = w2 at *
  have HB := Lib.hid hb0
  clear hb0
  have c0 := C.at_ 0
  have c1 := C.at_ 1
  have c2 := C.at_ 2
  have c3 := C.at_ 3
  have c4 := C.at_ 4
  have c5 := C.at_ 5
  have c6 := C.at_ 6
  have c7 := C.at_ 7
  have c8 := C.at_ 8
  clear C
  simp at c0 c1 c2 c3 c4 c5 c6 c7 c8
  have k0 := fun d os => cell_regrown c0 d os
  have k1 := fun d os => cell_regrown c1 d os
  have k2 := fun d os => cell_regrown c2 d os
  have k3 := fun d os => cell_regrown c3 d os
  have k4 := fun d os => cell_regrown c4 d os
  have k5 := fun d os => cell_regrown c5 d os
  have k6 := fun d os => cell_regrown c6 d os
  have k7 := fun d os => cell_regrown c7 d os
  have k8 := fun d os => cell_regrown c8 d os
  refine wp_region_quiet_below (by kernel_rfl) (by kernel_rfl) ?_
  repeat (go_big_quiet_step (fail))
  refine wpQuiet_nil ?_
  intro _ hw'
  obtain ⟨⟨dq, osq⟩, hw''⟩ := hw'
  subst hw''
  go_wp2
  go_ret
  exact ⟨rfl, next HB.out (below_regrown _ _ _)⟩

set_option maxHeartbeats 1000000 in
theorem rk_high (k : Int) (g l i a : Nat) (n : Int) (o : Bool) (s m : Nat) (d1 : decide (1 ≤ k) = true) (d2 : decide (k ≤ 4) = false) (w : World) :
    Calls Tryz.prog 177 #[.agg #[.int .i64 k, .int .u32 g, .int .u32 l, .int .u32 i, .int .u32 a, .int .i64 n, .bool o, .int .u32 s, .int .u16 m]] w fun e w' => e = .returned (.bool false) ∧ Below w.heap.size w w' := by
  go_enter Tryz.func177, Tryz.ntmps177
  go_wp2_with fail
  have C := Blk.new w 233 #[.int .i64 k, .int .u32 g, .int .u32 l, .int .u32 i, .int .u32 a, .int .i64 n, .bool o, .int .u32 s, .int .u16 m]
  have hb0 := below_new w (.cells #[.int .i64 k, .int .u32 g, .int .u32 l, .int .u32 i, .int .u32 a, .int .i64 n, .bool o, .int .u32 s, .int .u16 m] 233)
  generalize w.alloc (.cells #[.int .i64 k, .int .u32 g, .int .u32 l, .int .u32 i, .int .u32 a, .int .i64 n, .bool o, .int .u32 s, .int .u16 m] 233) = w2 at *
  have HB := Lib.hid hb0
  clear hb0
  have c0 := C.at_ 0
  have c1 := C.at_ 1
  have c2 := C.at_ 2
  have c3 := C.at_ 3
  have c4 := C.at_ 4
  have c5 := C.at_ 5
  have c6 := C.at_ 6
  have c7 := C.at_ 7
  have c8 := C.at_ 8
  clear C
  simp at c0 c1 c2 c3 c4 c5 c6 c7 c8
  have k0 := fun d os => cell_regrown c0 d os
  have k1 := fun d os => cell_regrown c1 d os
  have k2 := fun d os => cell_regrown c2 d os
  have k3 := fun d os => cell_regrown c3 d os
  have k4 := fun d os => cell_regrown c4 d os
  have k5 := fun d os => cell_regrown c5 d os
  have k6 := fun d os => cell_regrown c6 d os
  have k7 := fun d os => cell_regrown c7 d os
  have k8 := fun d os => cell_regrown c8 d os
  refine wp_region_quiet_below (by kernel_rfl) (by kernel_rfl) ?_
  repeat (go_big_quiet_step (fail))
  refine wpQuiet_nil ?_
  intro _ hw'
  obtain ⟨⟨dq, osq⟩, hw''⟩ := hw'
  subst hw''
  go_wp2
  go_ret
  exact ⟨rfl, next HB.out (below_regrown _ _ _)⟩

set_option maxHeartbeats 1000000 in
theorem rk_ne (k : Int) (g l i a : Nat) (n : Int) (o : Bool) (s m : Nat) (d1 : decide (1 ≤ k) = true) (d2 : decide (k ≤ 4) = true) (P : Rc) (hP : pared ⟨k, g, l, i, a, n, o, s, m⟩ = P) (hne : (⟨k, g, l, i, a, n, o, s, m⟩ : Rc) ≠ P) (w : World) :
    Calls Tryz.prog 177 #[.agg #[.int .i64 k, .int .u32 g, .int .u32 l, .int .u32 i, .int .u32 a, .int .i64 n, .bool o, .int .u32 s, .int .u16 m]] w fun e w' => e = .returned (.bool false) ∧ Below w.heap.size w w' := by
  obtain ⟨pk, pg, pl, pi, pa, pn, po, ps, pm⟩ := P
  have hq := fun wx => eql_rec k pk g l i a pg pl pi pa n pn o po s m ps pm wx
  rw [decide_eq_false hne] at hq
  have HQ := Lib.hid hq
  clear hq
  go_enter Tryz.func177, Tryz.ntmps177
  go_wp2_with fail
  have C := Blk.new w 233 #[.int .i64 k, .int .u32 g, .int .u32 l, .int .u32 i, .int .u32 a, .int .i64 n, .bool o, .int .u32 s, .int .u16 m]
  have hb0 := below_new w (.cells #[.int .i64 k, .int .u32 g, .int .u32 l, .int .u32 i, .int .u32 a, .int .i64 n, .bool o, .int .u32 s, .int .u16 m] 233)
  generalize w.alloc (.cells #[.int .i64 k, .int .u32 g, .int .u32 l, .int .u32 i, .int .u32 a, .int .i64 n, .bool o, .int .u32 s, .int .u16 m] 233) = w2 at *
  have HB := Lib.hid hb0
  clear hb0
  have c0 := C.at_ 0
  have c1 := C.at_ 1
  have c2 := C.at_ 2
  have c3 := C.at_ 3
  have c4 := C.at_ 4
  have c5 := C.at_ 5
  have c6 := C.at_ 6
  have c7 := C.at_ 7
  have c8 := C.at_ 8
  clear C
  simp at c0 c1 c2 c3 c4 c5 c6 c7 c8
  have k0 := fun d os => cell_regrown c0 d os
  have k1 := fun d os => cell_regrown c1 d os
  have k2 := fun d os => cell_regrown c2 d os
  have k3 := fun d os => cell_regrown c3 d os
  have k4 := fun d os => cell_regrown c4 d os
  have k5 := fun d os => cell_regrown c5 d os
  have k6 := fun d os => cell_regrown c6 d os
  have k7 := fun d os => cell_regrown c7 d os
  have k8 := fun d os => cell_regrown c8 d os
  refine wp_region_quiet_below (by kernel_rfl) (by kernel_rfl) ?_
  iterate 12 (go_big_quiet_step (first | (go_at_call 208; exact Calls.regrown_of (hP ▸ pared_any _ _ _ _ _ _ _ _ _ _))))
  go_big_quiet_want
  refine eq_op rfl rfl rfl (by kernel_rfl) HQ.out ?_
  go_frame
  go_big_quiet_on
  repeat (go_big_quiet_step (fail))
  refine wpQuiet_nil ?_
  intro _ hw'
  obtain ⟨⟨dq, osq⟩, hw''⟩ := hw'
  subst hw''
  go_wp2
  go_ret
  exact ⟨rfl, next HB.out (below_regrown _ _ _)⟩

set_option maxHeartbeats 1000000 in
theorem rk_id (k : Int) (g l i a : Nat) (n : Int) (o : Bool) (s m : Nat) (d1 : decide (1 ≤ k) = true) (d2 : decide (k ≤ 4) = true) (hP : pared ⟨k, g, l, i, a, n, o, s, m⟩ = ⟨k, g, l, i, a, n, o, s, m⟩) (hi : ((i : Int) != 0) = false) (hn : named k = true) (w : World) :
    Calls Tryz.prog 177 #[.agg #[.int .i64 k, .int .u32 g, .int .u32 l, .int .u32 i, .int .u32 a, .int .i64 n, .bool o, .int .u32 s, .int .u16 m]] w fun e w' => e = .returned (.bool false) ∧ Below w.heap.size w w' := by
  have hq := fun wx => eql_rec k k g l i a g l i a n n o o s m s m wx
  simp only [decide_true] at hq
  have HQ := Lib.hid hq
  clear hq
  go_enter Tryz.func177, Tryz.ntmps177
  go_wp2_with fail
  have C := Blk.new w 233 #[.int .i64 k, .int .u32 g, .int .u32 l, .int .u32 i, .int .u32 a, .int .i64 n, .bool o, .int .u32 s, .int .u16 m]
  have hb0 := below_new w (.cells #[.int .i64 k, .int .u32 g, .int .u32 l, .int .u32 i, .int .u32 a, .int .i64 n, .bool o, .int .u32 s, .int .u16 m] 233)
  generalize w.alloc (.cells #[.int .i64 k, .int .u32 g, .int .u32 l, .int .u32 i, .int .u32 a, .int .i64 n, .bool o, .int .u32 s, .int .u16 m] 233) = w2 at *
  have HB := Lib.hid hb0
  clear hb0
  have c0 := C.at_ 0
  have c1 := C.at_ 1
  have c2 := C.at_ 2
  have c3 := C.at_ 3
  have c4 := C.at_ 4
  have c5 := C.at_ 5
  have c6 := C.at_ 6
  have c7 := C.at_ 7
  have c8 := C.at_ 8
  clear C
  simp at c0 c1 c2 c3 c4 c5 c6 c7 c8
  have k0 := fun d os => cell_regrown c0 d os
  have k1 := fun d os => cell_regrown c1 d os
  have k2 := fun d os => cell_regrown c2 d os
  have k3 := fun d os => cell_regrown c3 d os
  have k4 := fun d os => cell_regrown c4 d os
  have k5 := fun d os => cell_regrown c5 d os
  have k6 := fun d os => cell_regrown c6 d os
  have k7 := fun d os => cell_regrown c7 d os
  have k8 := fun d os => cell_regrown c8 d os
  refine wp_region_quiet_below (by kernel_rfl) (by kernel_rfl) ?_
  iterate 12 (go_big_quiet_step (first | (go_at_call 208; exact Calls.regrown_of (hP ▸ pared_any _ _ _ _ _ _ _ _ _ _))))
  go_big_quiet_want
  refine eq_op rfl rfl rfl (by kernel_rfl) HQ.out ?_
  go_frame
  go_big_quiet_on
  repeat (go_big_quiet_step (first | (go_at_call 209; exact Calls.regrown_of (named_eq (by assumption) _)) | (go_at_call 121; exact Calls.regrown_of (right_eq (by assumption) (by assumption) _)) | (go_at_call 156; exact Calls.regrown_of (lost_eqR (by assumption) _))))
  refine wpQuiet_nil ?_
  intro _ hw'
  obtain ⟨⟨dq, osq⟩, hw''⟩ := hw'
  subst hw''
  go_wp2
  go_ret
  exact ⟨rfl, next HB.out (below_regrown _ _ _)⟩

set_option maxHeartbeats 1000000 in
theorem rk_pre_z (k : Int) (g l i a : Nat) (n : Int) (o : Bool) (s m : Nat) (ha : a < 4294967296) (d1 : decide (1 ≤ k) = true) (d2 : decide (k ≤ 4) = true) (hP : pared ⟨k, g, l, i, a, n, o, s, m⟩ = ⟨k, g, l, i, a, n, o, s, m⟩) (hi : ((i : Int) != 0) = false) (hn : named k = false) (hr : Am.right a n = false) (w : World) :
    Calls Tryz.prog 177 #[.agg #[.int .i64 k, .int .u32 g, .int .u32 l, .int .u32 i, .int .u32 a, .int .i64 n, .bool o, .int .u32 s, .int .u16 m]] w fun e w' => e = .returned (.bool false) ∧ Below w.heap.size w w' := by
  have hq := fun wx => eql_rec k k g l i a g l i a n n o o s m s m wx
  simp only [decide_true] at hq
  have HQ := Lib.hid hq
  clear hq
  go_enter Tryz.func177, Tryz.ntmps177
  go_wp2_with fail
  have C := Blk.new w 233 #[.int .i64 k, .int .u32 g, .int .u32 l, .int .u32 i, .int .u32 a, .int .i64 n, .bool o, .int .u32 s, .int .u16 m]
  have hb0 := below_new w (.cells #[.int .i64 k, .int .u32 g, .int .u32 l, .int .u32 i, .int .u32 a, .int .i64 n, .bool o, .int .u32 s, .int .u16 m] 233)
  generalize w.alloc (.cells #[.int .i64 k, .int .u32 g, .int .u32 l, .int .u32 i, .int .u32 a, .int .i64 n, .bool o, .int .u32 s, .int .u16 m] 233) = w2 at *
  have HB := Lib.hid hb0
  clear hb0
  have c0 := C.at_ 0
  have c1 := C.at_ 1
  have c2 := C.at_ 2
  have c3 := C.at_ 3
  have c4 := C.at_ 4
  have c5 := C.at_ 5
  have c6 := C.at_ 6
  have c7 := C.at_ 7
  have c8 := C.at_ 8
  clear C
  simp at c0 c1 c2 c3 c4 c5 c6 c7 c8
  have k0 := fun d os => cell_regrown c0 d os
  have k1 := fun d os => cell_regrown c1 d os
  have k2 := fun d os => cell_regrown c2 d os
  have k3 := fun d os => cell_regrown c3 d os
  have k4 := fun d os => cell_regrown c4 d os
  have k5 := fun d os => cell_regrown c5 d os
  have k6 := fun d os => cell_regrown c6 d os
  have k7 := fun d os => cell_regrown c7 d os
  have k8 := fun d os => cell_regrown c8 d os
  refine wp_region_quiet_below (by kernel_rfl) (by kernel_rfl) ?_
  iterate 12 (go_big_quiet_step (first | (go_at_call 208; exact Calls.regrown_of (hP ▸ pared_any _ _ _ _ _ _ _ _ _ _))))
  go_big_quiet_want
  refine eq_op rfl rfl rfl (by kernel_rfl) HQ.out ?_
  go_frame
  go_big_quiet_on
  repeat (go_big_quiet_step (first | (go_at_call 209; exact Calls.regrown_of (named_eq (by assumption) _)) | (go_at_call 121; exact Calls.regrown_of (right_eq (by assumption) (by assumption) _)) | (go_at_call 156; exact Calls.regrown_of (lost_eqR (by assumption) _))))
  refine wpQuiet_nil ?_
  intro _ hw'
  obtain ⟨⟨dq, osq⟩, hw''⟩ := hw'
  subst hw''
  go_wp2
  go_ret
  exact ⟨rfl, next HB.out (below_regrown _ _ _)⟩

set_option maxHeartbeats 1000000 in
theorem rk_seq_z (k : Int) (g l i a : Nat) (n : Int) (o : Bool) (s m : Nat) (ha : a < 4294967296) (d1 : decide (1 ≤ k) = true) (d2 : decide (k ≤ 4) = true) (hP : pared ⟨k, g, l, i, a, n, o, s, m⟩ = ⟨k, g, l, i, a, n, o, s, m⟩) (hi : ((i : Int) != 0) = false) (hn : named k = false) (hr : Am.right a n = true) (hs : decide ((s : Int) ≤ 1073741824) = false) (w : World) :
    Calls Tryz.prog 177 #[.agg #[.int .i64 k, .int .u32 g, .int .u32 l, .int .u32 i, .int .u32 a, .int .i64 n, .bool o, .int .u32 s, .int .u16 m]] w fun e w' => e = .returned (.bool false) ∧ Below w.heap.size w w' := by
  have hq := fun wx => eql_rec k k g l i a g l i a n n o o s m s m wx
  simp only [decide_true] at hq
  have HQ := Lib.hid hq
  clear hq
  go_enter Tryz.func177, Tryz.ntmps177
  go_wp2_with fail
  have C := Blk.new w 233 #[.int .i64 k, .int .u32 g, .int .u32 l, .int .u32 i, .int .u32 a, .int .i64 n, .bool o, .int .u32 s, .int .u16 m]
  have hb0 := below_new w (.cells #[.int .i64 k, .int .u32 g, .int .u32 l, .int .u32 i, .int .u32 a, .int .i64 n, .bool o, .int .u32 s, .int .u16 m] 233)
  generalize w.alloc (.cells #[.int .i64 k, .int .u32 g, .int .u32 l, .int .u32 i, .int .u32 a, .int .i64 n, .bool o, .int .u32 s, .int .u16 m] 233) = w2 at *
  have HB := Lib.hid hb0
  clear hb0
  have c0 := C.at_ 0
  have c1 := C.at_ 1
  have c2 := C.at_ 2
  have c3 := C.at_ 3
  have c4 := C.at_ 4
  have c5 := C.at_ 5
  have c6 := C.at_ 6
  have c7 := C.at_ 7
  have c8 := C.at_ 8
  clear C
  simp at c0 c1 c2 c3 c4 c5 c6 c7 c8
  have k0 := fun d os => cell_regrown c0 d os
  have k1 := fun d os => cell_regrown c1 d os
  have k2 := fun d os => cell_regrown c2 d os
  have k3 := fun d os => cell_regrown c3 d os
  have k4 := fun d os => cell_regrown c4 d os
  have k5 := fun d os => cell_regrown c5 d os
  have k6 := fun d os => cell_regrown c6 d os
  have k7 := fun d os => cell_regrown c7 d os
  have k8 := fun d os => cell_regrown c8 d os
  refine wp_region_quiet_below (by kernel_rfl) (by kernel_rfl) ?_
  iterate 12 (go_big_quiet_step (first | (go_at_call 208; exact Calls.regrown_of (hP ▸ pared_any _ _ _ _ _ _ _ _ _ _))))
  go_big_quiet_want
  refine eq_op rfl rfl rfl (by kernel_rfl) HQ.out ?_
  go_frame
  go_big_quiet_on
  repeat (go_big_quiet_step (first | (go_at_call 209; exact Calls.regrown_of (named_eq (by assumption) _)) | (go_at_call 121; exact Calls.regrown_of (right_eq (by assumption) (by assumption) _)) | (go_at_call 156; exact Calls.regrown_of (lost_eqR (by assumption) _))))
  refine wpQuiet_nil ?_
  intro _ hw'
  obtain ⟨⟨dq, osq⟩, hw''⟩ := hw'
  subst hw''
  go_wp2
  go_ret
  exact ⟨rfl, next HB.out (below_regrown _ _ _)⟩

set_option maxHeartbeats 1000000 in
theorem rk_met_z (k : Int) (g l i a : Nat) (n : Int) (o : Bool) (s m : Nat) (ha : a < 4294967296) (d1 : decide (1 ≤ k) = true) (d2 : decide (k ≤ 4) = true) (hP : pared ⟨k, g, l, i, a, n, o, s, m⟩ = ⟨k, g, l, i, a, n, o, s, m⟩) (hi : ((i : Int) != 0) = false) (hn : named k = false) (hr : Am.right a n = true) (hs : decide ((s : Int) ≤ 1073741824) = true) (hm : ((m : Int) == 65535) = true) (w : World) :
    Calls Tryz.prog 177 #[.agg #[.int .i64 k, .int .u32 g, .int .u32 l, .int .u32 i, .int .u32 a, .int .i64 n, .bool o, .int .u32 s, .int .u16 m]] w fun e w' => e = .returned (.bool false) ∧ Below w.heap.size w w' := by
  have hq := fun wx => eql_rec k k g l i a g l i a n n o o s m s m wx
  simp only [decide_true] at hq
  have HQ := Lib.hid hq
  clear hq
  go_enter Tryz.func177, Tryz.ntmps177
  go_wp2_with fail
  have C := Blk.new w 233 #[.int .i64 k, .int .u32 g, .int .u32 l, .int .u32 i, .int .u32 a, .int .i64 n, .bool o, .int .u32 s, .int .u16 m]
  have hb0 := below_new w (.cells #[.int .i64 k, .int .u32 g, .int .u32 l, .int .u32 i, .int .u32 a, .int .i64 n, .bool o, .int .u32 s, .int .u16 m] 233)
  generalize w.alloc (.cells #[.int .i64 k, .int .u32 g, .int .u32 l, .int .u32 i, .int .u32 a, .int .i64 n, .bool o, .int .u32 s, .int .u16 m] 233) = w2 at *
  have HB := Lib.hid hb0
  clear hb0
  have c0 := C.at_ 0
  have c1 := C.at_ 1
  have c2 := C.at_ 2
  have c3 := C.at_ 3
  have c4 := C.at_ 4
  have c5 := C.at_ 5
  have c6 := C.at_ 6
  have c7 := C.at_ 7
  have c8 := C.at_ 8
  clear C
  simp at c0 c1 c2 c3 c4 c5 c6 c7 c8
  have k0 := fun d os => cell_regrown c0 d os
  have k1 := fun d os => cell_regrown c1 d os
  have k2 := fun d os => cell_regrown c2 d os
  have k3 := fun d os => cell_regrown c3 d os
  have k4 := fun d os => cell_regrown c4 d os
  have k5 := fun d os => cell_regrown c5 d os
  have k6 := fun d os => cell_regrown c6 d os
  have k7 := fun d os => cell_regrown c7 d os
  have k8 := fun d os => cell_regrown c8 d os
  refine wp_region_quiet_below (by kernel_rfl) (by kernel_rfl) ?_
  iterate 12 (go_big_quiet_step (first | (go_at_call 208; exact Calls.regrown_of (hP ▸ pared_any _ _ _ _ _ _ _ _ _ _))))
  go_big_quiet_want
  refine eq_op rfl rfl rfl (by kernel_rfl) HQ.out ?_
  go_frame
  go_big_quiet_on
  repeat (go_big_quiet_step (first | (go_at_call 209; exact Calls.regrown_of (named_eq (by assumption) _)) | (go_at_call 121; exact Calls.regrown_of (right_eq (by assumption) (by assumption) _)) | (go_at_call 156; exact Calls.regrown_of (lost_eqR (by assumption) _))))
  refine wpQuiet_nil ?_
  intro _ hw'
  obtain ⟨⟨dq, osq⟩, hw''⟩ := hw'
  subst hw''
  go_wp2
  go_ret
  exact ⟨rfl, next HB.out (below_regrown _ _ _)⟩

set_option maxHeartbeats 1000000 in
theorem rk_yes_z (k : Int) (g l i a : Nat) (n : Int) (o : Bool) (s m : Nat) (ha : a < 4294967296) (d1 : decide (1 ≤ k) = true) (d2 : decide (k ≤ 4) = true) (hP : pared ⟨k, g, l, i, a, n, o, s, m⟩ = ⟨k, g, l, i, a, n, o, s, m⟩) (hi : ((i : Int) != 0) = false) (hn : named k = false) (hr : Am.right a n = true) (hs : decide ((s : Int) ≤ 1073741824) = true) (hm : ((m : Int) == 65535) = false) (w : World) :
    Calls Tryz.prog 177 #[.agg #[.int .i64 k, .int .u32 g, .int .u32 l, .int .u32 i, .int .u32 a, .int .i64 n, .bool o, .int .u32 s, .int .u16 m]] w fun e w' => e = .returned (.bool true) ∧ Below w.heap.size w w' := by
  have hq := fun wx => eql_rec k k g l i a g l i a n n o o s m s m wx
  simp only [decide_true] at hq
  have HQ := Lib.hid hq
  clear hq
  go_enter Tryz.func177, Tryz.ntmps177
  go_wp2_with fail
  have C := Blk.new w 233 #[.int .i64 k, .int .u32 g, .int .u32 l, .int .u32 i, .int .u32 a, .int .i64 n, .bool o, .int .u32 s, .int .u16 m]
  have hb0 := below_new w (.cells #[.int .i64 k, .int .u32 g, .int .u32 l, .int .u32 i, .int .u32 a, .int .i64 n, .bool o, .int .u32 s, .int .u16 m] 233)
  generalize w.alloc (.cells #[.int .i64 k, .int .u32 g, .int .u32 l, .int .u32 i, .int .u32 a, .int .i64 n, .bool o, .int .u32 s, .int .u16 m] 233) = w2 at *
  have HB := Lib.hid hb0
  clear hb0
  have c0 := C.at_ 0
  have c1 := C.at_ 1
  have c2 := C.at_ 2
  have c3 := C.at_ 3
  have c4 := C.at_ 4
  have c5 := C.at_ 5
  have c6 := C.at_ 6
  have c7 := C.at_ 7
  have c8 := C.at_ 8
  clear C
  simp at c0 c1 c2 c3 c4 c5 c6 c7 c8
  have k0 := fun d os => cell_regrown c0 d os
  have k1 := fun d os => cell_regrown c1 d os
  have k2 := fun d os => cell_regrown c2 d os
  have k3 := fun d os => cell_regrown c3 d os
  have k4 := fun d os => cell_regrown c4 d os
  have k5 := fun d os => cell_regrown c5 d os
  have k6 := fun d os => cell_regrown c6 d os
  have k7 := fun d os => cell_regrown c7 d os
  have k8 := fun d os => cell_regrown c8 d os
  refine wp_region_quiet_below (by kernel_rfl) (by kernel_rfl) ?_
  iterate 12 (go_big_quiet_step (first | (go_at_call 208; exact Calls.regrown_of (hP ▸ pared_any _ _ _ _ _ _ _ _ _ _))))
  go_big_quiet_want
  refine eq_op rfl rfl rfl (by kernel_rfl) HQ.out ?_
  go_frame
  go_big_quiet_on
  repeat (go_big_quiet_step (first | (go_at_call 209; exact Calls.regrown_of (named_eq (by assumption) _)) | (go_at_call 121; exact Calls.regrown_of (right_eq (by assumption) (by assumption) _)) | (go_at_call 156; exact Calls.regrown_of (lost_eqR (by assumption) _))))
  refine wpQuiet_nil ?_
  intro _ hw'
  obtain ⟨⟨dq, osq⟩, hw''⟩ := hw'
  subst hw''
  go_wp2
  go_ret
  exact ⟨rfl, next HB.out (below_regrown _ _ _)⟩

set_option maxHeartbeats 1000000 in
theorem rk_pre_n (k : Int) (g l i a : Nat) (n : Int) (o : Bool) (s m : Nat) (ha : a < 4294967296) (d1 : decide (1 ≤ k) = true) (d2 : decide (k ≤ 4) = true) (hP : pared ⟨k, g, l, i, a, n, o, s, m⟩ = ⟨k, g, l, i, a, n, o, s, m⟩) (hi : ((i : Int) != 0) = true) (hr : Am.right a n = false) (w : World) :
    Calls Tryz.prog 177 #[.agg #[.int .i64 k, .int .u32 g, .int .u32 l, .int .u32 i, .int .u32 a, .int .i64 n, .bool o, .int .u32 s, .int .u16 m]] w fun e w' => e = .returned (.bool false) ∧ Below w.heap.size w w' := by
  have hq := fun wx => eql_rec k k g l i a g l i a n n o o s m s m wx
  simp only [decide_true] at hq
  have HQ := Lib.hid hq
  clear hq
  go_enter Tryz.func177, Tryz.ntmps177
  go_wp2_with fail
  have C := Blk.new w 233 #[.int .i64 k, .int .u32 g, .int .u32 l, .int .u32 i, .int .u32 a, .int .i64 n, .bool o, .int .u32 s, .int .u16 m]
  have hb0 := below_new w (.cells #[.int .i64 k, .int .u32 g, .int .u32 l, .int .u32 i, .int .u32 a, .int .i64 n, .bool o, .int .u32 s, .int .u16 m] 233)
  generalize w.alloc (.cells #[.int .i64 k, .int .u32 g, .int .u32 l, .int .u32 i, .int .u32 a, .int .i64 n, .bool o, .int .u32 s, .int .u16 m] 233) = w2 at *
  have HB := Lib.hid hb0
  clear hb0
  have c0 := C.at_ 0
  have c1 := C.at_ 1
  have c2 := C.at_ 2
  have c3 := C.at_ 3
  have c4 := C.at_ 4
  have c5 := C.at_ 5
  have c6 := C.at_ 6
  have c7 := C.at_ 7
  have c8 := C.at_ 8
  clear C
  simp at c0 c1 c2 c3 c4 c5 c6 c7 c8
  have k0 := fun d os => cell_regrown c0 d os
  have k1 := fun d os => cell_regrown c1 d os
  have k2 := fun d os => cell_regrown c2 d os
  have k3 := fun d os => cell_regrown c3 d os
  have k4 := fun d os => cell_regrown c4 d os
  have k5 := fun d os => cell_regrown c5 d os
  have k6 := fun d os => cell_regrown c6 d os
  have k7 := fun d os => cell_regrown c7 d os
  have k8 := fun d os => cell_regrown c8 d os
  refine wp_region_quiet_below (by kernel_rfl) (by kernel_rfl) ?_
  iterate 12 (go_big_quiet_step (first | (go_at_call 208; exact Calls.regrown_of (hP ▸ pared_any _ _ _ _ _ _ _ _ _ _))))
  go_big_quiet_want
  refine eq_op rfl rfl rfl (by kernel_rfl) HQ.out ?_
  go_frame
  go_big_quiet_on
  repeat (go_big_quiet_step (first | (go_at_call 209; exact Calls.regrown_of (named_eq (by assumption) _)) | (go_at_call 121; exact Calls.regrown_of (right_eq (by assumption) (by assumption) _)) | (go_at_call 156; exact Calls.regrown_of (lost_eqR (by assumption) _))))
  refine wpQuiet_nil ?_
  intro _ hw'
  obtain ⟨⟨dq, osq⟩, hw''⟩ := hw'
  subst hw''
  go_wp2
  go_ret
  exact ⟨rfl, next HB.out (below_regrown _ _ _)⟩

set_option maxHeartbeats 1000000 in
theorem rk_seq_n (k : Int) (g l i a : Nat) (n : Int) (o : Bool) (s m : Nat) (ha : a < 4294967296) (d1 : decide (1 ≤ k) = true) (d2 : decide (k ≤ 4) = true) (hP : pared ⟨k, g, l, i, a, n, o, s, m⟩ = ⟨k, g, l, i, a, n, o, s, m⟩) (hi : ((i : Int) != 0) = true) (hr : Am.right a n = true) (hs : decide ((s : Int) ≤ 1073741824) = false) (w : World) :
    Calls Tryz.prog 177 #[.agg #[.int .i64 k, .int .u32 g, .int .u32 l, .int .u32 i, .int .u32 a, .int .i64 n, .bool o, .int .u32 s, .int .u16 m]] w fun e w' => e = .returned (.bool false) ∧ Below w.heap.size w w' := by
  have hq := fun wx => eql_rec k k g l i a g l i a n n o o s m s m wx
  simp only [decide_true] at hq
  have HQ := Lib.hid hq
  clear hq
  go_enter Tryz.func177, Tryz.ntmps177
  go_wp2_with fail
  have C := Blk.new w 233 #[.int .i64 k, .int .u32 g, .int .u32 l, .int .u32 i, .int .u32 a, .int .i64 n, .bool o, .int .u32 s, .int .u16 m]
  have hb0 := below_new w (.cells #[.int .i64 k, .int .u32 g, .int .u32 l, .int .u32 i, .int .u32 a, .int .i64 n, .bool o, .int .u32 s, .int .u16 m] 233)
  generalize w.alloc (.cells #[.int .i64 k, .int .u32 g, .int .u32 l, .int .u32 i, .int .u32 a, .int .i64 n, .bool o, .int .u32 s, .int .u16 m] 233) = w2 at *
  have HB := Lib.hid hb0
  clear hb0
  have c0 := C.at_ 0
  have c1 := C.at_ 1
  have c2 := C.at_ 2
  have c3 := C.at_ 3
  have c4 := C.at_ 4
  have c5 := C.at_ 5
  have c6 := C.at_ 6
  have c7 := C.at_ 7
  have c8 := C.at_ 8
  clear C
  simp at c0 c1 c2 c3 c4 c5 c6 c7 c8
  have k0 := fun d os => cell_regrown c0 d os
  have k1 := fun d os => cell_regrown c1 d os
  have k2 := fun d os => cell_regrown c2 d os
  have k3 := fun d os => cell_regrown c3 d os
  have k4 := fun d os => cell_regrown c4 d os
  have k5 := fun d os => cell_regrown c5 d os
  have k6 := fun d os => cell_regrown c6 d os
  have k7 := fun d os => cell_regrown c7 d os
  have k8 := fun d os => cell_regrown c8 d os
  refine wp_region_quiet_below (by kernel_rfl) (by kernel_rfl) ?_
  iterate 12 (go_big_quiet_step (first | (go_at_call 208; exact Calls.regrown_of (hP ▸ pared_any _ _ _ _ _ _ _ _ _ _))))
  go_big_quiet_want
  refine eq_op rfl rfl rfl (by kernel_rfl) HQ.out ?_
  go_frame
  go_big_quiet_on
  repeat (go_big_quiet_step (first | (go_at_call 209; exact Calls.regrown_of (named_eq (by assumption) _)) | (go_at_call 121; exact Calls.regrown_of (right_eq (by assumption) (by assumption) _)) | (go_at_call 156; exact Calls.regrown_of (lost_eqR (by assumption) _))))
  refine wpQuiet_nil ?_
  intro _ hw'
  obtain ⟨⟨dq, osq⟩, hw''⟩ := hw'
  subst hw''
  go_wp2
  go_ret
  exact ⟨rfl, next HB.out (below_regrown _ _ _)⟩

set_option maxHeartbeats 1000000 in
theorem rk_met_n (k : Int) (g l i a : Nat) (n : Int) (o : Bool) (s m : Nat) (ha : a < 4294967296) (d1 : decide (1 ≤ k) = true) (d2 : decide (k ≤ 4) = true) (hP : pared ⟨k, g, l, i, a, n, o, s, m⟩ = ⟨k, g, l, i, a, n, o, s, m⟩) (hi : ((i : Int) != 0) = true) (hr : Am.right a n = true) (hs : decide ((s : Int) ≤ 1073741824) = true) (hm : ((m : Int) == 65535) = true) (w : World) :
    Calls Tryz.prog 177 #[.agg #[.int .i64 k, .int .u32 g, .int .u32 l, .int .u32 i, .int .u32 a, .int .i64 n, .bool o, .int .u32 s, .int .u16 m]] w fun e w' => e = .returned (.bool false) ∧ Below w.heap.size w w' := by
  have hq := fun wx => eql_rec k k g l i a g l i a n n o o s m s m wx
  simp only [decide_true] at hq
  have HQ := Lib.hid hq
  clear hq
  go_enter Tryz.func177, Tryz.ntmps177
  go_wp2_with fail
  have C := Blk.new w 233 #[.int .i64 k, .int .u32 g, .int .u32 l, .int .u32 i, .int .u32 a, .int .i64 n, .bool o, .int .u32 s, .int .u16 m]
  have hb0 := below_new w (.cells #[.int .i64 k, .int .u32 g, .int .u32 l, .int .u32 i, .int .u32 a, .int .i64 n, .bool o, .int .u32 s, .int .u16 m] 233)
  generalize w.alloc (.cells #[.int .i64 k, .int .u32 g, .int .u32 l, .int .u32 i, .int .u32 a, .int .i64 n, .bool o, .int .u32 s, .int .u16 m] 233) = w2 at *
  have HB := Lib.hid hb0
  clear hb0
  have c0 := C.at_ 0
  have c1 := C.at_ 1
  have c2 := C.at_ 2
  have c3 := C.at_ 3
  have c4 := C.at_ 4
  have c5 := C.at_ 5
  have c6 := C.at_ 6
  have c7 := C.at_ 7
  have c8 := C.at_ 8
  clear C
  simp at c0 c1 c2 c3 c4 c5 c6 c7 c8
  have k0 := fun d os => cell_regrown c0 d os
  have k1 := fun d os => cell_regrown c1 d os
  have k2 := fun d os => cell_regrown c2 d os
  have k3 := fun d os => cell_regrown c3 d os
  have k4 := fun d os => cell_regrown c4 d os
  have k5 := fun d os => cell_regrown c5 d os
  have k6 := fun d os => cell_regrown c6 d os
  have k7 := fun d os => cell_regrown c7 d os
  have k8 := fun d os => cell_regrown c8 d os
  refine wp_region_quiet_below (by kernel_rfl) (by kernel_rfl) ?_
  iterate 12 (go_big_quiet_step (first | (go_at_call 208; exact Calls.regrown_of (hP ▸ pared_any _ _ _ _ _ _ _ _ _ _))))
  go_big_quiet_want
  refine eq_op rfl rfl rfl (by kernel_rfl) HQ.out ?_
  go_frame
  go_big_quiet_on
  repeat (go_big_quiet_step (first | (go_at_call 209; exact Calls.regrown_of (named_eq (by assumption) _)) | (go_at_call 121; exact Calls.regrown_of (right_eq (by assumption) (by assumption) _)) | (go_at_call 156; exact Calls.regrown_of (lost_eqR (by assumption) _))))
  refine wpQuiet_nil ?_
  intro _ hw'
  obtain ⟨⟨dq, osq⟩, hw''⟩ := hw'
  subst hw''
  go_wp2
  go_ret
  exact ⟨rfl, next HB.out (below_regrown _ _ _)⟩

set_option maxHeartbeats 1000000 in
theorem rk_yes_n (k : Int) (g l i a : Nat) (n : Int) (o : Bool) (s m : Nat) (ha : a < 4294967296) (d1 : decide (1 ≤ k) = true) (d2 : decide (k ≤ 4) = true) (hP : pared ⟨k, g, l, i, a, n, o, s, m⟩ = ⟨k, g, l, i, a, n, o, s, m⟩) (hi : ((i : Int) != 0) = true) (hr : Am.right a n = true) (hs : decide ((s : Int) ≤ 1073741824) = true) (hm : ((m : Int) == 65535) = false) (w : World) :
    Calls Tryz.prog 177 #[.agg #[.int .i64 k, .int .u32 g, .int .u32 l, .int .u32 i, .int .u32 a, .int .i64 n, .bool o, .int .u32 s, .int .u16 m]] w fun e w' => e = .returned (.bool true) ∧ Below w.heap.size w w' := by
  have hq := fun wx => eql_rec k k g l i a g l i a n n o o s m s m wx
  simp only [decide_true] at hq
  have HQ := Lib.hid hq
  clear hq
  go_enter Tryz.func177, Tryz.ntmps177
  go_wp2_with fail
  have C := Blk.new w 233 #[.int .i64 k, .int .u32 g, .int .u32 l, .int .u32 i, .int .u32 a, .int .i64 n, .bool o, .int .u32 s, .int .u16 m]
  have hb0 := below_new w (.cells #[.int .i64 k, .int .u32 g, .int .u32 l, .int .u32 i, .int .u32 a, .int .i64 n, .bool o, .int .u32 s, .int .u16 m] 233)
  generalize w.alloc (.cells #[.int .i64 k, .int .u32 g, .int .u32 l, .int .u32 i, .int .u32 a, .int .i64 n, .bool o, .int .u32 s, .int .u16 m] 233) = w2 at *
  have HB := Lib.hid hb0
  clear hb0
  have c0 := C.at_ 0
  have c1 := C.at_ 1
  have c2 := C.at_ 2
  have c3 := C.at_ 3
  have c4 := C.at_ 4
  have c5 := C.at_ 5
  have c6 := C.at_ 6
  have c7 := C.at_ 7
  have c8 := C.at_ 8
  clear C
  simp at c0 c1 c2 c3 c4 c5 c6 c7 c8
  have k0 := fun d os => cell_regrown c0 d os
  have k1 := fun d os => cell_regrown c1 d os
  have k2 := fun d os => cell_regrown c2 d os
  have k3 := fun d os => cell_regrown c3 d os
  have k4 := fun d os => cell_regrown c4 d os
  have k5 := fun d os => cell_regrown c5 d os
  have k6 := fun d os => cell_regrown c6 d os
  have k7 := fun d os => cell_regrown c7 d os
  have k8 := fun d os => cell_regrown c8 d os
  refine wp_region_quiet_below (by kernel_rfl) (by kernel_rfl) ?_
  iterate 12 (go_big_quiet_step (first | (go_at_call 208; exact Calls.regrown_of (hP ▸ pared_any _ _ _ _ _ _ _ _ _ _))))
  go_big_quiet_want
  refine eq_op rfl rfl rfl (by kernel_rfl) HQ.out ?_
  go_frame
  go_big_quiet_on
  repeat (go_big_quiet_step (first | (go_at_call 209; exact Calls.regrown_of (named_eq (by assumption) _)) | (go_at_call 121; exact Calls.regrown_of (right_eq (by assumption) (by assumption) _)) | (go_at_call 156; exact Calls.regrown_of (lost_eqR (by assumption) _))))
  refine wpQuiet_nil ?_
  intro _ hw'
  obtain ⟨⟨dq, osq⟩, hw''⟩ := hw'
  subst hw''
  go_wp2
  go_ret
  exact ⟨rfl, next HB.out (below_regrown _ _ _)⟩

theorem prright_any (k : Int) (g l i a : Nat) (n : Int) (o : Bool) (s m : Nat) (ha : a < 4294967296) (w : World) :
    Calls Tryz.prog 177 #[.agg #[.int .i64 k, .int .u32 g, .int .u32 l, .int .u32 i, .int .u32 a, .int .i64 n, .bool o, .int .u32 s, .int .u16 m]] w fun e w' => e = .returned (.bool (right ⟨k, g, l, i, a, n, o, s, m⟩)) ∧ Below w.heap.size w w' := by
  by_cases h1 : 1 ≤ k
  case neg =>
    rw [show right ⟨k, g, l, i, a, n, o, s, m⟩ = false by simp [right, h1]]
    exact rk_low k g l i a n o s m (decide_eq_false h1) w
  by_cases h2 : k ≤ 4
  case neg =>
    rw [show right ⟨k, g, l, i, a, n, o, s, m⟩ = false by simp [right, h2]]
    exact rk_high k g l i a n o s m (decide_eq_true h1) (decide_eq_false h2) w
  have d1 := decide_eq_true h1
  have d2 := decide_eq_true h2
  by_cases hP : (⟨k, g, l, i, a, n, o, s, m⟩ : Rc) = pared ⟨k, g, l, i, a, n, o, s, m⟩
  case neg =>
    rw [show right ⟨k, g, l, i, a, n, o, s, m⟩ = false by simp only [right, decide_eq_false hP]; simp]
    exact rk_ne k g l i a n o s m d1 d2 _ rfl hP w
  have e1 : ∀ b1 b2 b3 b4 : Bool, (i != 0 || !named k) = b1 → Am.right a n = b2 → decide (s ≤ 1073741824) = b3 → (m == 65535) = b4 → right ⟨k, g, l, i, a, n, o, s, m⟩ = (b1 && b2 && b3 && !b4) := by
    intro b1 b2 b3 b4 e1 e2 e3 e4
    simp only [right, d1, d2, decide_eq_true hP, e1, e2, e3, e4, Bool.true_and]
  replace hP := hP.symm
  have es : decide ((s : Int) ≤ 1073741824) = decide (s ≤ 1073741824) := by rw [decide_eq_decide]; omega
  have em : ((m : Int) == 65535) = (m == 65535) := by rw [Bool.eq_iff_iff]; simp; omega
  cases hi : (i == 0)
  · have hi' : (i != 0 || !named k) = true := by simp [bne, hi]
    have ei : ((i : Int) != 0) = true := by have := beq_eq_false_iff_ne.1 hi; simp; omega
    cases hr : Am.right a n
    · rw [e1 _ _ _ _ hi' hr rfl rfl]; exact rk_pre_n k g l i a n o s m ha d1 d2 hP ei hr w
    cases hs : decide (s ≤ 1073741824)
    · rw [e1 _ _ _ _ hi' hr hs rfl]; exact rk_seq_n k g l i a n o s m ha d1 d2 hP ei hr (es.trans hs) w
    cases hm : (m == 65535)
    · rw [e1 _ _ _ _ hi' hr hs hm]; exact rk_yes_n k g l i a n o s m ha d1 d2 hP ei hr (es.trans hs) (em.trans hm) w
    · rw [e1 _ _ _ _ hi' hr hs hm]; exact rk_met_n k g l i a n o s m ha d1 d2 hP ei hr (es.trans hs) (em.trans hm) w
  · have ei : ((i : Int) != 0) = false := by have := beq_iff_eq.1 hi; simp; omega
    cases hn : named k
    · have hi' : (i != 0 || !named k) = true := by simp [hn]
      cases hr : Am.right a n
      · rw [e1 _ _ _ _ hi' hr rfl rfl]; exact rk_pre_z k g l i a n o s m ha d1 d2 hP ei hn hr w
      cases hs : decide (s ≤ 1073741824)
      · rw [e1 _ _ _ _ hi' hr hs rfl]; exact rk_seq_z k g l i a n o s m ha d1 d2 hP ei hn hr (es.trans hs) w
      cases hm : (m == 65535)
      · rw [e1 _ _ _ _ hi' hr hs hm]; exact rk_yes_z k g l i a n o s m ha d1 d2 hP ei hn hr (es.trans hs) (em.trans hm) w
      · rw [e1 _ _ _ _ hi' hr hs hm]; exact rk_met_z k g l i a n o s m ha d1 d2 hP ei hn hr (es.trans hs) (em.trans hm) w
    · have hi' : (i != 0 || !named k) = false := by simp [bne, hi, hn]
      rw [e1 _ _ _ _ hi' rfl rfl rfl]; exact rk_id k g l i a n o s m d1 d2 hP ei hn w
end Go.Proofs.YtkchckeecfalhaaGreat

set_option maxRecDepth 20000
namespace Go.Proofs.YtkchckeecfalhaaGreat
open Go.RowKit Rm

def z48R : Array Value := (List.replicate 48 (cell 0)).toArray
theorem make48 (w : World) : (Instr.makeSlice 79 (.int .i64 48) (.int .i64 48)).run Tryz.prog w = .ok (.slice (some ⟨w.heap.size, 0, none⟩) 48 48) (w.alloc (.cells z48R 5)) := by kernel_rfl

/-- the cells of a record's box -/
abbrev rcellsR (k : Int) (g l i a : Nat) (n : Int) (o : Bool) (s m : Nat) : Array Value := #[.int .i64 k, .int .u32 g, .int .u32 l, .int .u32 i, .int .u32 a, .int .i64 n, .bool o, .int .u32 s, .int .u16 m]

/-- the bytes written so far: those of the kind and On -/
theorem four_stored {w : World} {b : Nat} {C : Array Value} (h : Blk 5 w b C) (off v : Nat) :
    Blk 5 ((((w.setCell ⟨b, off, none⟩ (cell (v / 16777216 % 256))).setCell ⟨b, off + 1, none⟩ (cell (v / 65536 % 256))).setCell ⟨b, off + 2, none⟩ (cell (v / 256 % 256))).setCell ⟨b, off + 3, none⟩ (cell (v % 256))) b
      ((((C.setIfInBounds off (cell (v / 16777216 % 256))).setIfInBounds (off + 1) (cell (v / 65536 % 256))).setIfInBounds (off + 2) (cell (v / 256 % 256))).setIfInBounds (off + 3) (cell (v % 256))) :=
  (((h.store _ _).store _ _).store _ _).store _ _
theorem four_turn (w : World) (b off : Nat) (u v x y : Value) : Turn [b] w ((((w.setCell ⟨b, off, none⟩ u).setCell ⟨b, off + 1, none⟩ v).setCell ⟨b, off + 2, none⟩ x).setCell ⟨b, off + 3, none⟩ y) :=
  (((Turn.setCell w (by simp) _).trans (Turn.setCell _ (by simp) _)).trans (Turn.setCell _ (by simp) _)).trans (Turn.setCell _ (by simp) _)
def put4 (C : Array Value) (off v : Nat) : Array Value := (((C.setIfInBounds off (cell (v / 16777216 % 256))).setIfInBounds (off + 1) (cell (v / 65536 % 256))).setIfInBounds (off + 2) (cell (v / 256 % 256))).setIfInBounds (off + 3) (cell (v % 256))
def put2 (C : Array Value) (off v : Nat) : Array Value := (C.setIfInBounds off (cell (v / 256 % 256))).setIfInBounds (off + 1) (cell (v % 256))
theorem put4_size (C : Array Value) (off v : Nat) : (put4 C off v).size = C.size := by simp [put4]
theorem put2_size (C : Array Value) (off v : Nat) : (put2 C off v).size = C.size := by simp [put2]
/-- put, as what becomes of the block -/
theorem put_four' {g off cap v : Nat} (hv : v < 4294967296) {C : Array Value} {w : World} (h : Blk 5 w g C) (hs : off + 4 ≤ C.size) :
    Calls Tryz.prog 140 #[.slice (some ⟨g, off, none⟩) 4 cap, .int .u32 v] w fun e w' => e = .returned (.tuple #[]) ∧ Blk 5 w' g (put4 C off v) ∧ Turn [g] w w' :=
  (put_four g off cap v hv C w h hs).mono fun _ _ ⟨he, hw⟩ => ⟨he, hw ▸ four_stored h off v, hw ▸ four_turn ..⟩
theorem put_two' {g off cap v : Nat} (hv : v < 65536) {C : Array Value} {w : World} (h : Blk 5 w g C) (hs : off + 2 ≤ C.size) :
    Calls Tryz.prog 140 #[.slice (some ⟨g, off, none⟩) 2 cap, .int .u32 v] w fun e w' => e = .returned (.tuple #[]) ∧ Blk 5 w' g (put2 C off v) ∧ Turn [g] w w' :=
  (put_two g off cap v hv C w h hs).mono fun _ _ ⟨he, hw⟩ => ⟨he, hw ▸ (h.store _ _).store _ _, hw ▸ (Turn.setCell w (by simp) _).trans (Turn.setCell _ (by simp) _)⟩

/-- under way: the sector's block, the record's, and all else as it was -/
def StR (w : World) (b : Nat) (rc : Array Value) (u : World) (C : Array Value) : Prop := Blk 5 u b C ∧ Blk 233 u w.heap.size rc ∧ Below w.heap.size w u
section
variable {w u u' : World} {b : Nat} {rc C C' : Array Value}
theorem StR.put (h : StR w b rc u C) (hn : w.heap.size ≠ b ∧ w.heap.size ≤ b) (hB : Blk 5 u' b C') (hT : Turn [b] u u') : StR w b rc u' C' :=
  ⟨hB, h.2.1.turn hT (by simpa using hn.1), h.2.2.trans (hT.below (by simpa using hn.2) h.2.2.size)⟩
theorem StR.set (h : StR w b rc u C) (hn : w.heap.size ≠ b ∧ w.heap.size ≤ b) (j : Nat) (x : Value) : StR w b rc (u.setCell ⟨b, j, none⟩ x) (C.setIfInBounds j x) :=
  h.put hn (h.1.store j x) (Turn.setCell u (by simp) x)
theorem StR.drew (h : StR w b rc u C) : StR w b rc u.drew C := ⟨h.1, h.2.1, h.2.2.drew⟩
end
theorem sum_lt (r : Rc) : Crc.all (body r) < 4294967296 := Crc.all_lt _ (body_lt r)
theorem low_cell (z : Int) : (.int .u8 (z % 256) : Value) = cell (low z) := by
  unfold cell low
  rw [show (((z % 256).toNat : Nat) : Int) = z % 256 by omega]
theorem body_cells (k : Int) (g l i a : Nat) (n : Int) (s m : Nat) (o : Bool) :
    put4 ((put4 (put4 (put4 (put4 (put2 (if o then ((z48R.setIfInBounds 0 (.int .u8 (k % 256))).setIfInBounds 1 (.int .u8 1)) else (z48R.setIfInBounds 0 (.int .u8 (k % 256)))) 2 m) 4 g) 8 l) 12 i) 16 a).setIfInBounds 20 (.int .u8 (n % 256))) 24 s = cls (body ⟨k, g, l, i, a, n, o, s, m⟩ ++ [0, 0, 0, 0]) := by
  rw [low_cell, low_cell]
  cases o <;> simp [put4, put2, z48R, cls, body, Rm.two, Rm.four, List.replicate] <;> rfl
theorem sum_cells (r : Rc) : put4 (cls (body r ++ [0, 0, 0, 0])) 44 (Crc.all (body r)) = cls (Rm.bytes r) := by
  unfold Rm.bytes
  generalize Crc.all (body r) = x
  simp [put4, cls, body, Rm.two, Rm.four]

set_option maxHeartbeats 2000000 in
theorem sector_no (k : Int) (g l i a : Nat) (n : Int) (o : Bool) (s m : Nat) (ha : a < 4294967296) (hr : right ⟨k, g, l, i, a, n, o, s, m⟩ = false) (w : World) :
    Calls Tryz.prog 232 #[.agg (rcellsR k g l i a n o s m)] w fun e w' => e = .returned (.slice none 0 0) ∧ Below w.heap.size w w' := by
  have R := Lib.hid (prright_any k g l i a n o s m ha)
  rw [hr] at R
  clear hr
  have hb0 := below_new w (.cells (rcellsR k g l i a n o s m) 233)
  dsimp only [rcellsR] at hb0
  go_enter Tryz.func232, Tryz.ntmps232
  go_wp2_with fail
  refine (R.out _).mono ?_
  rintro e w1 ⟨rfl, hb⟩
  have HB := Lib.hid (next hb0 hb)
  clear hb hb0
  go_wp2_with fail
  go_ret
  exact ⟨rfl, HB.out⟩

set_option maxHeartbeats 2000000 in
theorem sector_yes (k : Int) (g l i a : Nat) (n : Int) (o : Bool) (s m : Nat) (hf : (⟨k, g, l, i, a, n, o, s, m⟩ : Rc).Fits) (hr : right ⟨k, g, l, i, a, n, o, s, m⟩ = true) (w : World) :
    Calls Tryz.prog 232 #[.agg (rcellsR k g l i a n o s m)] w fun e w' => ∃ b, e = .returned (.slice (some ⟨b, 0, none⟩) 48 48) ∧ w.heap.size ≤ b ∧ Blk 5 w' b (cls (Rm.bytes ⟨k, g, l, i, a, n, o, s, m⟩)) ∧ Below w.heap.size w w' := by
  obtain ⟨-, -, hg, hl, hi, ha, -, -, hs, hm⟩ := hf
  simp only at hg hl hi ha hs hm
  have hwm : IntKind.u32.wrap (m : Int) = (m : Int) := by simp [IntKind.wrap, IntKind.bits, IntKind.signed]; omega
  have R := Lib.hid (prright_any k g l i a n o s m ha)
  rw [hr] at R
  have HR := Lib.hid hr
  clear hr
  have hmk := make48
  have hC := Lib.hid (Blk.new w 233 (rcellsR k g l i a n o s m))
  have hb0 := below_new w (.cells (rcellsR k g l i a n o s m) 233)
  dsimp only [rcellsR] at hb0 hC
  go_enter Tryz.func232, Tryz.ntmps232
  go_wp2_with fail
  refine (R.out _).mono ?_
  rintro e w1 ⟨rfl, hb⟩
  have hC1 := hC.out.held hb
  have hb1 := next hb0 hb
  have hlt : w.heap.size < w1.heap.size := hC1.lt
  clear hb0 hb hC
  go_upto_region 4 with (fail)
  have hz := Blk.new w1 5 z48R
  have hC2 := hC1.more (.cells z48R 5)
  have hb2 := next hb1 (below_new w1 (.cells z48R 5))
  generalize w1.alloc (.cells z48R 5) = u at *
  have hge : w.heap.size ≤ w1.heap.size := by omega
  have hne : w.heap.size ≠ w1.heap.size := by omega
  generalize w1.heap.size = b at *
  have NE := Lib.hid (And.intro hne hge)
  clear hC1 hb1 hlt hne hge
  have z0 : u.cell? ⟨b, 0, none⟩ = some (cell 0) := hz.at_ 0
  have z1 : u.cell? ⟨b, 1, none⟩ = some (cell 0) := hz.at_ 1
  have f0 : u.frozen? ⟨b, 0, none⟩ = false := hz.free 0
  have f1 : u.frozen? ⟨b, 1, none⟩ = false := hz.free 1
  have c0 : u.cell? ⟨w.heap.size, 0, none⟩ = some (.int .i64 k) := hC2.at_ 0
  have c6 : u.cell? ⟨w.heap.size, 6, none⟩ = some (.bool o) := hC2.at_ 6
  have hSt : StR w b (rcellsR k g l i a n o s m) u z48R := ⟨hz, hC2, hb2⟩
  have Z := Lib.hid hSt
  clear hz hC2 hb2 hSt
  cases o
  · go_wp2_with fail
    have S0 := Z.out.set NE.out 0 (.int .u8 (k % 256))
    have P := Lib.hid S0
    clear S0 Z z0 z1 f0 f1 c0 c6
    generalize (u.setCell ⟨b, 0, none⟩ (.int .u8 (k % 256))) = v0 at *
    obtain ⟨C0, hC0⟩ : ∃ C0, C0 = (z48R.setIfInBounds 0 (.int .u8 (k % 256))) := ⟨_, rfl⟩
    rw [← hC0] at P
    have sz0 : C0.size = 48 := by rw [hC0]; simp [z48R]
    have E0 := Lib.hid hC0
    clear hC0
    have cc : v0.cell? ⟨w.heap.size, 8, none⟩ = some (.int .u16 m) := P.out.2.1.at_ 8
    skip
    go_region_with (go_at_call 140; refine (put_two' (g := b) (off := 2) hm P.out.drew.1 (by omega)).mono ?_; rintro e v1 ⟨rfl, hB, hT⟩)
    clear cc
    have S2 := P.out.drew.put NE.out hB hT
    clear hB hT P
    have P := Lib.hid S2
    clear S2
    obtain ⟨C1, hC1⟩ : ∃ C1, C1 = put2 C0 2 m := ⟨_, rfl⟩
    rw [← hC1] at P
    have sz1 : C1.size = 48 := by rw [hC1, put2_size, sz0]
    have E1 := Lib.hid hC1
    clear hC1
    have cc : v1.cell? ⟨w.heap.size, 1, none⟩ = some (.int .u32 g) := P.out.2.1.at_ 1
    go_wp2_with fail
    go_region_with (go_at_call 140; refine (put_four' (g := b) (off := 4) hg P.out.drew.1 (by omega)).mono ?_; rintro e v2 ⟨rfl, hB, hT⟩)
    clear cc
    have S2 := P.out.drew.put NE.out hB hT
    clear hB hT P
    have P := Lib.hid S2
    clear S2
    obtain ⟨C2, hC2⟩ : ∃ C2, C2 = put4 C1 4 g := ⟨_, rfl⟩
    rw [← hC2] at P
    have sz2 : C2.size = 48 := by rw [hC2, put4_size, sz1]
    have E2 := Lib.hid hC2
    clear hC2
    have cc : v2.cell? ⟨w.heap.size, 2, none⟩ = some (.int .u32 l) := P.out.2.1.at_ 2
    go_wp2_with fail
    go_region_with (go_at_call 140; refine (put_four' (g := b) (off := 8) hl P.out.drew.1 (by omega)).mono ?_; rintro e v3 ⟨rfl, hB, hT⟩)
    clear cc
    have S2 := P.out.drew.put NE.out hB hT
    clear hB hT P
    have P := Lib.hid S2
    clear S2
    obtain ⟨C3, hC3⟩ : ∃ C3, C3 = put4 C2 8 l := ⟨_, rfl⟩
    rw [← hC3] at P
    have sz3 : C3.size = 48 := by rw [hC3, put4_size, sz2]
    have E3 := Lib.hid hC3
    clear hC3
    have cc : v3.cell? ⟨w.heap.size, 3, none⟩ = some (.int .u32 i) := P.out.2.1.at_ 3
    go_wp2_with fail
    go_region_with (go_at_call 140; refine (put_four' (g := b) (off := 12) hi P.out.drew.1 (by omega)).mono ?_; rintro e v4 ⟨rfl, hB, hT⟩)
    clear cc
    have S2 := P.out.drew.put NE.out hB hT
    clear hB hT P
    have P := Lib.hid S2
    clear S2
    obtain ⟨C4, hC4⟩ : ∃ C4, C4 = put4 C3 12 i := ⟨_, rfl⟩
    rw [← hC4] at P
    have sz4 : C4.size = 48 := by rw [hC4, put4_size, sz3]
    have E4 := Lib.hid hC4
    clear hC4
    have cc : v4.cell? ⟨w.heap.size, 4, none⟩ = some (.int .u32 a) := P.out.2.1.at_ 4
    go_wp2_with fail
    go_region_with (go_at_call 140; refine (put_four' (g := b) (off := 16) ha P.out.drew.1 (by omega)).mono ?_; rintro e v5 ⟨rfl, hB, hT⟩)
    clear cc
    have S2 := P.out.drew.put NE.out hB hT
    clear hB hT P
    have P := Lib.hid S2
    clear S2
    obtain ⟨C5, hC5⟩ : ∃ C5, C5 = put4 C4 16 a := ⟨_, rfl⟩
    rw [← hC5] at P
    have sz5 : C5.size = 48 := by rw [hC5, put4_size, sz4]
    have E5 := Lib.hid hC5
    clear hC5
    have c5 : v5.cell? ⟨w.heap.size, 5, none⟩ = some (.int .i64 n) := P.out.2.1.at_ 5
    have z20 : v5.cell? ⟨b, 20, none⟩ = some C5[20] := (P.out.1.at_ 20).trans (by simp)
    have f20 : v5.frozen? ⟨b, 20, none⟩ = false := P.out.1.free 20
    generalize C5[20] = x20 at z20
    go_wp2_with fail
    clear c5 z20 f20
    have S2 := P.out.set NE.out 20 (.int .u8 (n % 256))
    clear P
    have P := Lib.hid S2
    clear S2
    generalize v5.setCell ⟨b, 20, none⟩ (.int .u8 (n % 256)) = v6 at *
    obtain ⟨C6, hC6⟩ : ∃ C6, C6 = C5.setIfInBounds 20 (.int .u8 (n % 256)) := ⟨_, rfl⟩
    rw [← hC6] at P
    have sz6 : C6.size = 48 := by rw [hC6]; simp [sz5]
    have E6 := Lib.hid hC6
    clear hC6
    have cc : v6.cell? ⟨w.heap.size, 7, none⟩ = some (.int .u32 s) := P.out.2.1.at_ 7
    go_wp2_with fail
    go_region_with (go_at_call 140; refine (put_four' (g := b) (off := 24) hs P.out.drew.1 (by omega)).mono ?_; rintro e v7 ⟨rfl, hB, hT⟩)
    clear cc
    have S2 := P.out.drew.put NE.out hB hT
    clear hB hT P
    have P := Lib.hid S2
    clear S2
    obtain ⟨C7, hC7⟩ : ∃ C7, C7 = put4 C6 24 s := ⟨_, rfl⟩
    rw [← hC7] at P
    have sz7 : C7.size = 48 := by rw [hC7, put4_size, sz6]
    have E7 := Lib.hid hC7
    clear hC7
    have EB : Hid (C7 = cls (body ⟨k, g, l, i, a, n, false, s, m⟩ ++ [0, 0, 0, 0])) := Lib.hid (by
      rw [E7.out, E6.out, E5.out, E4.out, E3.out, E2.out, E1.out, E0.out]
      exact body_cells k g l i a n s m false)
    clear E0 E1 E2 E3 E4 E5 E6 E7
    have EQ := EB.out
    have BA : BytesAt v7.drew (some ⟨b, 0, none⟩) 44 (body ⟨k, g, l, i, a, n, false, s, m⟩) := .of_blk P.out.drew.1 _ 0 44 (maxLen_small (by omega)) rfl (body_lt _) (fun x hx => by
      rw [EQ, Nat.zero_add, cls_at _ _ (by simp [body_length]; omega)]
      congr 2
      simp [List.getD, List.getElem?_append_left (show x < (body ⟨k, g, l, i, a, n, false, s, m⟩).length by rw [body_length]; exact hx)])
    have Q := Lib.hid BA
    clear BA EQ
    go_wp2_with fail
    go_region_with (first | (go_at_call 254; refine (of_any _ _ _ _ _ Q.out).mono ?_; rintro e u2 ⟨rfl, rfl⟩) | (go_at_call 140; refine (put_four' (g := b) (off := 44) (sum_lt _) P.out.drew.1 (by omega)).mono ?_; rintro e v8 ⟨rfl, hB, hT⟩))
    have S2 := P.out.drew.put NE.out hB hT
    clear hB hT P Q
    have P := Lib.hid S2
    clear S2
    go_wp2_with fail
    go_ret
    refine ⟨b, rfl, NE.out.2, ?_, P.out.2.2⟩
    have h := P.out.1
    rw [EB.out, sum_cells] at h
    exact h
  · go_wp2_with fail
    have S0 := Z.out.set NE.out 0 (.int .u8 (k % 256))
    have S1 := S0.set NE.out 1 (.int .u8 1)
    have P := Lib.hid S1
    clear S0 S1 Z z0 z1 f0 f1 c0 c6
    generalize ((u.setCell ⟨b, 0, none⟩ (.int .u8 (k % 256))).setCell ⟨b, 1, none⟩ (.int .u8 1)) = v0 at *
    obtain ⟨C0, hC0⟩ : ∃ C0, C0 = ((z48R.setIfInBounds 0 (.int .u8 (k % 256))).setIfInBounds 1 (.int .u8 1)) := ⟨_, rfl⟩
    rw [← hC0] at P
    have sz0 : C0.size = 48 := by rw [hC0]; simp [z48R]
    have E0 := Lib.hid hC0
    clear hC0
    have cc : v0.cell? ⟨w.heap.size, 8, none⟩ = some (.int .u16 m) := P.out.2.1.at_ 8
    skip
    go_region_with (go_at_call 140; refine (put_two' (g := b) (off := 2) hm P.out.drew.1 (by omega)).mono ?_; rintro e v1 ⟨rfl, hB, hT⟩)
    clear cc
    have S2 := P.out.drew.put NE.out hB hT
    clear hB hT P
    have P := Lib.hid S2
    clear S2
    obtain ⟨C1, hC1⟩ : ∃ C1, C1 = put2 C0 2 m := ⟨_, rfl⟩
    rw [← hC1] at P
    have sz1 : C1.size = 48 := by rw [hC1, put2_size, sz0]
    have E1 := Lib.hid hC1
    clear hC1
    have cc : v1.cell? ⟨w.heap.size, 1, none⟩ = some (.int .u32 g) := P.out.2.1.at_ 1
    go_wp2_with fail
    go_region_with (go_at_call 140; refine (put_four' (g := b) (off := 4) hg P.out.drew.1 (by omega)).mono ?_; rintro e v2 ⟨rfl, hB, hT⟩)
    clear cc
    have S2 := P.out.drew.put NE.out hB hT
    clear hB hT P
    have P := Lib.hid S2
    clear S2
    obtain ⟨C2, hC2⟩ : ∃ C2, C2 = put4 C1 4 g := ⟨_, rfl⟩
    rw [← hC2] at P
    have sz2 : C2.size = 48 := by rw [hC2, put4_size, sz1]
    have E2 := Lib.hid hC2
    clear hC2
    have cc : v2.cell? ⟨w.heap.size, 2, none⟩ = some (.int .u32 l) := P.out.2.1.at_ 2
    go_wp2_with fail
    go_region_with (go_at_call 140; refine (put_four' (g := b) (off := 8) hl P.out.drew.1 (by omega)).mono ?_; rintro e v3 ⟨rfl, hB, hT⟩)
    clear cc
    have S2 := P.out.drew.put NE.out hB hT
    clear hB hT P
    have P := Lib.hid S2
    clear S2
    obtain ⟨C3, hC3⟩ : ∃ C3, C3 = put4 C2 8 l := ⟨_, rfl⟩
    rw [← hC3] at P
    have sz3 : C3.size = 48 := by rw [hC3, put4_size, sz2]
    have E3 := Lib.hid hC3
    clear hC3
    have cc : v3.cell? ⟨w.heap.size, 3, none⟩ = some (.int .u32 i) := P.out.2.1.at_ 3
    go_wp2_with fail
    go_region_with (go_at_call 140; refine (put_four' (g := b) (off := 12) hi P.out.drew.1 (by omega)).mono ?_; rintro e v4 ⟨rfl, hB, hT⟩)
    clear cc
    have S2 := P.out.drew.put NE.out hB hT
    clear hB hT P
    have P := Lib.hid S2
    clear S2
    obtain ⟨C4, hC4⟩ : ∃ C4, C4 = put4 C3 12 i := ⟨_, rfl⟩
    rw [← hC4] at P
    have sz4 : C4.size = 48 := by rw [hC4, put4_size, sz3]
    have E4 := Lib.hid hC4
    clear hC4
    have cc : v4.cell? ⟨w.heap.size, 4, none⟩ = some (.int .u32 a) := P.out.2.1.at_ 4
    go_wp2_with fail
    go_region_with (go_at_call 140; refine (put_four' (g := b) (off := 16) ha P.out.drew.1 (by omega)).mono ?_; rintro e v5 ⟨rfl, hB, hT⟩)
    clear cc
    have S2 := P.out.drew.put NE.out hB hT
    clear hB hT P
    have P := Lib.hid S2
    clear S2
    obtain ⟨C5, hC5⟩ : ∃ C5, C5 = put4 C4 16 a := ⟨_, rfl⟩
    rw [← hC5] at P
    have sz5 : C5.size = 48 := by rw [hC5, put4_size, sz4]
    have E5 := Lib.hid hC5
    clear hC5
    have c5 : v5.cell? ⟨w.heap.size, 5, none⟩ = some (.int .i64 n) := P.out.2.1.at_ 5
    have z20 : v5.cell? ⟨b, 20, none⟩ = some C5[20] := (P.out.1.at_ 20).trans (by simp)
    have f20 : v5.frozen? ⟨b, 20, none⟩ = false := P.out.1.free 20
    generalize C5[20] = x20 at z20
    go_wp2_with fail
    clear c5 z20 f20
    have S2 := P.out.set NE.out 20 (.int .u8 (n % 256))
    clear P
    have P := Lib.hid S2
    clear S2
    generalize v5.setCell ⟨b, 20, none⟩ (.int .u8 (n % 256)) = v6 at *
    obtain ⟨C6, hC6⟩ : ∃ C6, C6 = C5.setIfInBounds 20 (.int .u8 (n % 256)) := ⟨_, rfl⟩
    rw [← hC6] at P
    have sz6 : C6.size = 48 := by rw [hC6]; simp [sz5]
    have E6 := Lib.hid hC6
    clear hC6
    have cc : v6.cell? ⟨w.heap.size, 7, none⟩ = some (.int .u32 s) := P.out.2.1.at_ 7
    go_wp2_with fail
    go_region_with (go_at_call 140; refine (put_four' (g := b) (off := 24) hs P.out.drew.1 (by omega)).mono ?_; rintro e v7 ⟨rfl, hB, hT⟩)
    clear cc
    have S2 := P.out.drew.put NE.out hB hT
    clear hB hT P
    have P := Lib.hid S2
    clear S2
    obtain ⟨C7, hC7⟩ : ∃ C7, C7 = put4 C6 24 s := ⟨_, rfl⟩
    rw [← hC7] at P
    have sz7 : C7.size = 48 := by rw [hC7, put4_size, sz6]
    have E7 := Lib.hid hC7
    clear hC7
    have EB : Hid (C7 = cls (body ⟨k, g, l, i, a, n, true, s, m⟩ ++ [0, 0, 0, 0])) := Lib.hid (by
      rw [E7.out, E6.out, E5.out, E4.out, E3.out, E2.out, E1.out, E0.out]
      exact body_cells k g l i a n s m true)
    clear E0 E1 E2 E3 E4 E5 E6 E7
    have EQ := EB.out
    have BA : BytesAt v7.drew (some ⟨b, 0, none⟩) 44 (body ⟨k, g, l, i, a, n, true, s, m⟩) := .of_blk P.out.drew.1 _ 0 44 (maxLen_small (by omega)) rfl (body_lt _) (fun x hx => by
      rw [EQ, Nat.zero_add, cls_at _ _ (by simp [body_length]; omega)]
      congr 2
      simp [List.getD, List.getElem?_append_left (show x < (body ⟨k, g, l, i, a, n, true, s, m⟩).length by rw [body_length]; exact hx)])
    have Q := Lib.hid BA
    clear BA EQ
    go_wp2_with fail
    go_region_with (first | (go_at_call 254; refine (of_any _ _ _ _ _ Q.out).mono ?_; rintro e u2 ⟨rfl, rfl⟩) | (go_at_call 140; refine (put_four' (g := b) (off := 44) (sum_lt _) P.out.drew.1 (by omega)).mono ?_; rintro e v8 ⟨rfl, hB, hT⟩))
    have S2 := P.out.drew.put NE.out hB hT
    clear hB hT P Q
    have P := Lib.hid S2
    clear S2
    go_wp2_with fail
    go_ret
    refine ⟨b, rfl, NE.out.2, ?_, P.out.2.2⟩
    have h := P.out.1
    rw [EB.out, sum_cells] at h
    exact h
end Go.Proofs.YtkchckeecfalhaaGreat

set_option maxRecDepth 20000
namespace Go.Proofs.YtkchckeecfalhaaGreat
open Go.RowKit Rm

/-- under way: the bytes so far, the record, the numbers that are still to come -/
def By (w u : World) (rc nums : Array Value) (b cap : Nat) (bs : List Nat) : Prop :=
  Ob u b cap bs ∧ Blk 233 u w.heap.size rc ∧ Blk 56 u (w.heap.size + 1 + 1) nums ∧ (w.heap.size < b ∧ b ≠ w.heap.size + 1 + 1) ∧ Below w.heap.size w u
section
variable {w u u' : World} {rc nums : Array Value} {b cap b' cap' : Nat} {bs bs' : List Nat}
end
/-- the bytes behind k of the numbers -/
def upto (h : List Nat) (q : List Nat) : Nat → List Nat
  | 0 => h
  | k + 1 => upto h q k ++ four (q.getD k 0)
end Go.Proofs.YtkchckeecfalhaaGreat

