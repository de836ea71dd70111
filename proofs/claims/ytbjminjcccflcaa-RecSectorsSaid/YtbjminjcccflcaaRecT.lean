/-
  The contract of package rec's Right: each way through its tests.
-/
import Derived.Test.YtbjminjcccflcaaRecR
namespace Go.Proofs.Ytbjminjcccflcaa
open Go.RowKit Rm

set_option maxHeartbeats 1000000 in
theorem rk_low (k : Int) (g l i a : Nat) (n : Int) (o : Bool) (s m : Nat) (d1 : decide (1 ≤ k) = false) (w : World) :
    Calls Try.prog 7 #[.agg #[.int .i64 k, .int .u32 g, .int .u32 l, .int .u32 i, .int .u32 a, .int .i64 n, .bool o, .int .u32 s, .int .u16 m]] w fun e w' => e = .returned (.bool false) ∧ Below w.heap.size w w' := by
  go_enter Try.func7, Try.ntmps7
  go_wp2_with fail
  have C := Blk.new w 30 #[.int .i64 k, .int .u32 g, .int .u32 l, .int .u32 i, .int .u32 a, .int .i64 n, .bool o, .int .u32 s, .int .u16 m]
  have hb0 := below_new w (.cells #[.int .i64 k, .int .u32 g, .int .u32 l, .int .u32 i, .int .u32 a, .int .i64 n, .bool o, .int .u32 s, .int .u16 m] 30)
  generalize w.alloc (.cells #[.int .i64 k, .int .u32 g, .int .u32 l, .int .u32 i, .int .u32 a, .int .i64 n, .bool o, .int .u32 s, .int .u16 m] 30) = w2 at *
  have HB := Lib.hid hb0
  clear hb0
  have c0 := C.at_ 0
  have c1 := C.at_ 1
  have c2 := C.at_ 2
  have c3 := C.at_ 3
  have c4 := C.at_ 4
  have c5 := C.at_ 5
  have c6 := C.at_ 6
  have c7 := C.at_ 7
  have c8 := C.at_ 8
  clear C
  simp at c0 c1 c2 c3 c4 c5 c6 c7 c8
  have k0 := fun d os => cell_regrown c0 d os
  have k1 := fun d os => cell_regrown c1 d os
  have k2 := fun d os => cell_regrown c2 d os
  have k3 := fun d os => cell_regrown c3 d os
  have k4 := fun d os => cell_regrown c4 d os
  have k5 := fun d os => cell_regrown c5 d os
  have k6 := fun d os => cell_regrown c6 d os
  have k7 := fun d os => cell_regrown c7 d os
  have k8 := fun d os => cell_regrown c8 d os
  refine wp_region_quiet_below (by kernel_rfl) (by kernel_rfl) ?_
  repeat (go_big_quiet_step (fail))
  refine wpQuiet_nil ?_
  intro _ hw'
  obtain ⟨⟨dq, osq⟩, hw''⟩ := hw'
  subst hw''
  go_wp2
  go_ret
  exact ⟨rfl, next HB.out (below_regrown _ _ _)⟩

set_option maxHeartbeats 1000000 in
theorem rk_high (k : Int) (g l i a : Nat) (n : Int) (o : Bool) (s m : Nat) (d1 : decide (1 ≤ k) = true) (d2 : decide (k ≤ 4) = false) (w : World) :
    Calls Try.prog 7 #[.agg #[.int .i64 k, .int .u32 g, .int .u32 l, .int .u32 i, .int .u32 a, .int .i64 n, .bool o, .int .u32 s, .int .u16 m]] w fun e w' => e = .returned (.bool false) ∧ Below w.heap.size w w' := by
  go_enter Try.func7, Try.ntmps7
  go_wp2_with fail
  have C := Blk.new w 30 #[.int .i64 k, .int .u32 g, .int .u32 l, .int .u32 i, .int .u32 a, .int .i64 n, .bool o, .int .u32 s, .int .u16 m]
  have hb0 := below_new w (.cells #[.int .i64 k, .int .u32 g, .int .u32 l, .int .u32 i, .int .u32 a, .int .i64 n, .bool o, .int .u32 s, .int .u16 m] 30)
  generalize w.alloc (.cells #[.int .i64 k, .int .u32 g, .int .u32 l, .int .u32 i, .int .u32 a, .int .i64 n, .bool o, .int .u32 s, .int .u16 m] 30) = w2 at *
  have HB := Lib.hid hb0
  clear hb0
  have c0 := C.at_ 0
  have c1 := C.at_ 1
  have c2 := C.at_ 2
  have c3 := C.at_ 3
  have c4 := C.at_ 4
  have c5 := C.at_ 5
  have c6 := C.at_ 6
  have c7 := C.at_ 7
  have c8 := C.at_ 8
  clear C
  simp at c0 c1 c2 c3 c4 c5 c6 c7 c8
  have k0 := fun d os => cell_regrown c0 d os
  have k1 := fun d os => cell_regrown c1 d os
  have k2 := fun d os => cell_regrown c2 d os
  have k3 := fun d os => cell_regrown c3 d os
  have k4 := fun d os => cell_regrown c4 d os
  have k5 := fun d os => cell_regrown c5 d os
  have k6 := fun d os => cell_regrown c6 d os
  have k7 := fun d os => cell_regrown c7 d os
  have k8 := fun d os => cell_regrown c8 d os
  refine wp_region_quiet_below (by kernel_rfl) (by kernel_rfl) ?_
  repeat (go_big_quiet_step (fail))
  refine wpQuiet_nil ?_
  intro _ hw'
  obtain ⟨⟨dq, osq⟩, hw''⟩ := hw'
  subst hw''
  go_wp2
  go_ret
  exact ⟨rfl, next HB.out (below_regrown _ _ _)⟩

set_option maxHeartbeats 1000000 in
theorem rk_ne (k : Int) (g l i a : Nat) (n : Int) (o : Bool) (s m : Nat) (d1 : decide (1 ≤ k) = true) (d2 : decide (k ≤ 4) = true) (P : Rc) (hP : pared ⟨k, g, l, i, a, n, o, s, m⟩ = P) (hne : (⟨k, g, l, i, a, n, o, s, m⟩ : Rc) ≠ P) (w : World) :
    Calls Try.prog 7 #[.agg #[.int .i64 k, .int .u32 g, .int .u32 l, .int .u32 i, .int .u32 a, .int .i64 n, .bool o, .int .u32 s, .int .u16 m]] w fun e w' => e = .returned (.bool false) ∧ Below w.heap.size w w' := by
  obtain ⟨pk, pg, pl, pi, pa, pn, po, ps, pm⟩ := P
  have hq := fun wx => eql_rec k pk g l i a pg pl pi pa n pn o po s m ps pm wx
  rw [decide_eq_false hne] at hq
  have HQ := Lib.hid hq
  clear hq
  go_enter Try.func7, Try.ntmps7
  go_wp2_with fail
  have C := Blk.new w 30 #[.int .i64 k, .int .u32 g, .int .u32 l, .int .u32 i, .int .u32 a, .int .i64 n, .bool o, .int .u32 s, .int .u16 m]
  have hb0 := below_new w (.cells #[.int .i64 k, .int .u32 g, .int .u32 l, .int .u32 i, .int .u32 a, .int .i64 n, .bool o, .int .u32 s, .int .u16 m] 30)
  generalize w.alloc (.cells #[.int .i64 k, .int .u32 g, .int .u32 l, .int .u32 i, .int .u32 a, .int .i64 n, .bool o, .int .u32 s, .int .u16 m] 30) = w2 at *
  have HB := Lib.hid hb0
  clear hb0
  have c0 := C.at_ 0
  have c1 := C.at_ 1
  have c2 := C.at_ 2
  have c3 := C.at_ 3
  have c4 := C.at_ 4
  have c5 := C.at_ 5
  have c6 := C.at_ 6
  have c7 := C.at_ 7
  have c8 := C.at_ 8
  clear C
  simp at c0 c1 c2 c3 c4 c5 c6 c7 c8
  have k0 := fun d os => cell_regrown c0 d os
  have k1 := fun d os => cell_regrown c1 d os
  have k2 := fun d os => cell_regrown c2 d os
  have k3 := fun d os => cell_regrown c3 d os
  have k4 := fun d os => cell_regrown c4 d os
  have k5 := fun d os => cell_regrown c5 d os
  have k6 := fun d os => cell_regrown c6 d os
  have k7 := fun d os => cell_regrown c7 d os
  have k8 := fun d os => cell_regrown c8 d os
  refine wp_region_quiet_below (by kernel_rfl) (by kernel_rfl) ?_
  iterate 12 (go_big_quiet_step (first | (go_at_call 16; exact Calls.regrown_of (hP ▸ pared_any _ _ _ _ _ _ _ _ _ _))))
  go_big_quiet_want
  refine eq_op rfl rfl rfl (by kernel_rfl) HQ.out ?_
  go_frame
  go_big_quiet_on
  repeat (go_big_quiet_step (fail))
  refine wpQuiet_nil ?_
  intro _ hw'
  obtain ⟨⟨dq, osq⟩, hw''⟩ := hw'
  subst hw''
  go_wp2
  go_ret
  exact ⟨rfl, next HB.out (below_regrown _ _ _)⟩

set_option maxHeartbeats 1000000 in
theorem rk_id (k : Int) (g l i a : Nat) (n : Int) (o : Bool) (s m : Nat) (d1 : decide (1 ≤ k) = true) (d2 : decide (k ≤ 4) = true) (hP : pared ⟨k, g, l, i, a, n, o, s, m⟩ = ⟨k, g, l, i, a, n, o, s, m⟩) (hi : ((i : Int) != 0) = false) (hn : named k = true) (w : World) :
    Calls Try.prog 7 #[.agg #[.int .i64 k, .int .u32 g, .int .u32 l, .int .u32 i, .int .u32 a, .int .i64 n, .bool o, .int .u32 s, .int .u16 m]] w fun e w' => e = .returned (.bool false) ∧ Below w.heap.size w w' := by
  have hq := fun wx => eql_rec k k g l i a g l i a n n o o s m s m wx
  simp only [decide_true] at hq
  have HQ := Lib.hid hq
  clear hq
  go_enter Try.func7, Try.ntmps7
  go_wp2_with fail
  have C := Blk.new w 30 #[.int .i64 k, .int .u32 g, .int .u32 l, .int .u32 i, .int .u32 a, .int .i64 n, .bool o, .int .u32 s, .int .u16 m]
  have hb0 := below_new w (.cells #[.int .i64 k, .int .u32 g, .int .u32 l, .int .u32 i, .int .u32 a, .int .i64 n, .bool o, .int .u32 s, .int .u16 m] 30)
  generalize w.alloc (.cells #[.int .i64 k, .int .u32 g, .int .u32 l, .int .u32 i, .int .u32 a, .int .i64 n, .bool o, .int .u32 s, .int .u16 m] 30) = w2 at *
  have HB := Lib.hid hb0
  clear hb0
  have c0 := C.at_ 0
  have c1 := C.at_ 1
  have c2 := C.at_ 2
  have c3 := C.at_ 3
  have c4 := C.at_ 4
  have c5 := C.at_ 5
  have c6 := C.at_ 6
  have c7 := C.at_ 7
  have c8 := C.at_ 8
  clear C
  simp at c0 c1 c2 c3 c4 c5 c6 c7 c8
  have k0 := fun d os => cell_regrown c0 d os
  have k1 := fun d os => cell_regrown c1 d os
  have k2 := fun d os => cell_regrown c2 d os
  have k3 := fun d os => cell_regrown c3 d os
  have k4 := fun d os => cell_regrown c4 d os
  have k5 := fun d os => cell_regrown c5 d os
  have k6 := fun d os => cell_regrown c6 d os
  have k7 := fun d os => cell_regrown c7 d os
  have k8 := fun d os => cell_regrown c8 d os
  refine wp_region_quiet_below (by kernel_rfl) (by kernel_rfl) ?_
  iterate 12 (go_big_quiet_step (first | (go_at_call 16; exact Calls.regrown_of (hP ▸ pared_any _ _ _ _ _ _ _ _ _ _))))
  go_big_quiet_want
  refine eq_op rfl rfl rfl (by kernel_rfl) HQ.out ?_
  go_frame
  go_big_quiet_on
  repeat (go_big_quiet_step (first | (go_at_call 17; exact Calls.regrown_of (named_eq (by assumption) _)) | (go_at_call 18; exact Calls.regrown_of (right_eq (by assumption) (by assumption) _)) | (go_at_call 19; exact Calls.regrown_of (lost_eq (by assumption) _))))
  refine wpQuiet_nil ?_
  intro _ hw'
  obtain ⟨⟨dq, osq⟩, hw''⟩ := hw'
  subst hw''
  go_wp2
  go_ret
  exact ⟨rfl, next HB.out (below_regrown _ _ _)⟩

set_option maxHeartbeats 1000000 in
theorem rk_pre_z (k : Int) (g l i a : Nat) (n : Int) (o : Bool) (s m : Nat) (ha : a < 4294967296) (d1 : decide (1 ≤ k) = true) (d2 : decide (k ≤ 4) = true) (hP : pared ⟨k, g, l, i, a, n, o, s, m⟩ = ⟨k, g, l, i, a, n, o, s, m⟩) (hi : ((i : Int) != 0) = false) (hn : named k = false) (hr : Am.right a n = false) (w : World) :
    Calls Try.prog 7 #[.agg #[.int .i64 k, .int .u32 g, .int .u32 l, .int .u32 i, .int .u32 a, .int .i64 n, .bool o, .int .u32 s, .int .u16 m]] w fun e w' => e = .returned (.bool false) ∧ Below w.heap.size w w' := by
  have hq := fun wx => eql_rec k k g l i a g l i a n n o o s m s m wx
  simp only [decide_true] at hq
  have HQ := Lib.hid hq
  clear hq
  go_enter Try.func7, Try.ntmps7
  go_wp2_with fail
  have C := Blk.new w 30 #[.int .i64 k, .int .u32 g, .int .u32 l, .int .u32 i, .int .u32 a, .int .i64 n, .bool o, .int .u32 s, .int .u16 m]
  have hb0 := below_new w (.cells #[.int .i64 k, .int .u32 g, .int .u32 l, .int .u32 i, .int .u32 a, .int .i64 n, .bool o, .int .u32 s, .int .u16 m] 30)
  generalize w.alloc (.cells #[.int .i64 k, .int .u32 g, .int .u32 l, .int .u32 i, .int .u32 a, .int .i64 n, .bool o, .int .u32 s, .int .u16 m] 30) = w2 at *
  have HB := Lib.hid hb0
  clear hb0
  have c0 := C.at_ 0
  have c1 := C.at_ 1
  have c2 := C.at_ 2
  have c3 := C.at_ 3
  have c4 := C.at_ 4
  have c5 := C.at_ 5
  have c6 := C.at_ 6
  have c7 := C.at_ 7
  have c8 := C.at_ 8
  clear C
  simp at c0 c1 c2 c3 c4 c5 c6 c7 c8
  have k0 := fun d os => cell_regrown c0 d os
  have k1 := fun d os => cell_regrown c1 d os
  have k2 := fun d os => cell_regrown c2 d os
  have k3 := fun d os => cell_regrown c3 d os
  have k4 := fun d os => cell_regrown c4 d os
  have k5 := fun d os => cell_regrown c5 d os
  have k6 := fun d os => cell_regrown c6 d os
  have k7 := fun d os => cell_regrown c7 d os
  have k8 := fun d os => cell_regrown c8 d os
  refine wp_region_quiet_below (by kernel_rfl) (by kernel_rfl) ?_
  iterate 12 (go_big_quiet_step (first | (go_at_call 16; exact Calls.regrown_of (hP ▸ pared_any _ _ _ _ _ _ _ _ _ _))))
  go_big_quiet_want
  refine eq_op rfl rfl rfl (by kernel_rfl) HQ.out ?_
  go_frame
  go_big_quiet_on
  repeat (go_big_quiet_step (first | (go_at_call 17; exact Calls.regrown_of (named_eq (by assumption) _)) | (go_at_call 18; exact Calls.regrown_of (right_eq (by assumption) (by assumption) _)) | (go_at_call 19; exact Calls.regrown_of (lost_eq (by assumption) _))))
  refine wpQuiet_nil ?_
  intro _ hw'
  obtain ⟨⟨dq, osq⟩, hw''⟩ := hw'
  subst hw''
  go_wp2
  go_ret
  exact ⟨rfl, next HB.out (below_regrown _ _ _)⟩

set_option maxHeartbeats 1000000 in
theorem rk_seq_z (k : Int) (g l i a : Nat) (n : Int) (o : Bool) (s m : Nat) (ha : a < 4294967296) (d1 : decide (1 ≤ k) = true) (d2 : decide (k ≤ 4) = true) (hP : pared ⟨k, g, l, i, a, n, o, s, m⟩ = ⟨k, g, l, i, a, n, o, s, m⟩) (hi : ((i : Int) != 0) = false) (hn : named k = false) (hr : Am.right a n = true) (hs : decide ((s : Int) ≤ 1073741824) = false) (w : World) :
    Calls Try.prog 7 #[.agg #[.int .i64 k, .int .u32 g, .int .u32 l, .int .u32 i, .int .u32 a, .int .i64 n, .bool o, .int .u32 s, .int .u16 m]] w fun e w' => e = .returned (.bool false) ∧ Below w.heap.size w w' := by
  have hq := fun wx => eql_rec k k g l i a g l i a n n o o s m s m wx
  simp only [decide_true] at hq
  have HQ := Lib.hid hq
  clear hq
  go_enter Try.func7, Try.ntmps7
  go_wp2_with fail
  have C := Blk.new w 30 #[.int .i64 k, .int .u32 g, .int .u32 l, .int .u32 i, .int .u32 a, .int .i64 n, .bool o, .int .u32 s, .int .u16 m]
  have hb0 := below_new w (.cells #[.int .i64 k, .int .u32 g, .int .u32 l, .int .u32 i, .int .u32 a, .int .i64 n, .bool o, .int .u32 s, .int .u16 m] 30)
  generalize w.alloc (.cells #[.int .i64 k, .int .u32 g, .int .u32 l, .int .u32 i, .int .u32 a, .int .i64 n, .bool o, .int .u32 s, .int .u16 m] 30) = w2 at *
  have HB := Lib.hid hb0
  clear hb0
  have c0 := C.at_ 0
  have c1 := C.at_ 1
  have c2 := C.at_ 2
  have c3 := C.at_ 3
  have c4 := C.at_ 4
  have c5 := C.at_ 5
  have c6 := C.at_ 6
  have c7 := C.at_ 7
  have c8 := C.at_ 8
  clear C
  simp at c0 c1 c2 c3 c4 c5 c6 c7 c8
  have k0 := fun d os => cell_regrown c0 d os
  have k1 := fun d os => cell_regrown c1 d os
  have k2 := fun d os => cell_regrown c2 d os
  have k3 := fun d os => cell_regrown c3 d os
  have k4 := fun d os => cell_regrown c4 d os
  have k5 := fun d os => cell_regrown c5 d os
  have k6 := fun d os => cell_regrown c6 d os
  have k7 := fun d os => cell_regrown c7 d os
  have k8 := fun d os => cell_regrown c8 d os
  refine wp_region_quiet_below (by kernel_rfl) (by kernel_rfl) ?_
  iterate 12 (go_big_quiet_step (first | (go_at_call 16; exact Calls.regrown_of (hP ▸ pared_any _ _ _ _ _ _ _ _ _ _))))
  go_big_quiet_want
  refine eq_op rfl rfl rfl (by kernel_rfl) HQ.out ?_
  go_frame
  go_big_quiet_on
  repeat (go_big_quiet_step (first | (go_at_call 17; exact Calls.regrown_of (named_eq (by assumption) _)) | (go_at_call 18; exact Calls.regrown_of (right_eq (by assumption) (by assumption) _)) | (go_at_call 19; exact Calls.regrown_of (lost_eq (by assumption) _))))
  refine wpQuiet_nil ?_
  intro _ hw'
  obtain ⟨⟨dq, osq⟩, hw''⟩ := hw'
  subst hw''
  go_wp2
  go_ret
  exact ⟨rfl, next HB.out (below_regrown _ _ _)⟩

set_option maxHeartbeats 1000000 in
theorem rk_met_z (k : Int) (g l i a : Nat) (n : Int) (o : Bool) (s m : Nat) (ha : a < 4294967296) (d1 : decide (1 ≤ k) = true) (d2 : decide (k ≤ 4) = true) (hP : pared ⟨k, g, l, i, a, n, o, s, m⟩ = ⟨k, g, l, i, a, n, o, s, m⟩) (hi : ((i : Int) != 0) = false) (hn : named k = false) (hr : Am.right a n = true) (hs : decide ((s : Int) ≤ 1073741824) = true) (hm : ((m : Int) == 65535) = true) (w : World) :
    Calls Try.prog 7 #[.agg #[.int .i64 k, .int .u32 g, .int .u32 l, .int .u32 i, .int .u32 a, .int .i64 n, .bool o, .int .u32 s, .int .u16 m]] w fun e w' => e = .returned (.bool false) ∧ Below w.heap.size w w' := by
  have hq := fun wx => eql_rec k k g l i a g l i a n n o o s m s m wx
  simp only [decide_true] at hq
  have HQ := Lib.hid hq
  clear hq
  go_enter Try.func7, Try.ntmps7
  go_wp2_with fail
  have C := Blk.new w 30 #[.int .i64 k, .int .u32 g, .int .u32 l, .int .u32 i, .int .u32 a, .int .i64 n, .bool o, .int .u32 s, .int .u16 m]
  have hb0 := below_new w (.cells #[.int .i64 k, .int .u32 g, .int .u32 l, .int .u32 i, .int .u32 a, .int .i64 n, .bool o, .int .u32 s, .int .u16 m] 30)
  generalize w.alloc (.cells #[.int .i64 k, .int .u32 g, .int .u32 l, .int .u32 i, .int .u32 a, .int .i64 n, .bool o, .int .u32 s, .int .u16 m] 30) = w2 at *
  have HB := Lib.hid hb0
  clear hb0
  have c0 := C.at_ 0
  have c1 := C.at_ 1
  have c2 := C.at_ 2
  have c3 := C.at_ 3
  have c4 := C.at_ 4
  have c5 := C.at_ 5
  have c6 := C.at_ 6
  have c7 := C.at_ 7
  have c8 := C.at_ 8
  clear C
  simp at c0 c1 c2 c3 c4 c5 c6 c7 c8
  have k0 := fun d os => cell_regrown c0 d os
  have k1 := fun d os => cell_regrown c1 d os
  have k2 := fun d os => cell_regrown c2 d os
  have k3 := fun d os => cell_regrown c3 d os
  have k4 := fun d os => cell_regrown c4 d os
  have k5 := fun d os => cell_regrown c5 d os
  have k6 := fun d os => cell_regrown c6 d os
  have k7 := fun d os => cell_regrown c7 d os
  have k8 := fun d os => cell_regrown c8 d os
  refine wp_region_quiet_below (by kernel_rfl) (by kernel_rfl) ?_
  iterate 12 (go_big_quiet_step (first | (go_at_call 16; exact Calls.regrown_of (hP ▸ pared_any _ _ _ _ _ _ _ _ _ _))))
  go_big_quiet_want
  refine eq_op rfl rfl rfl (by kernel_rfl) HQ.out ?_
  go_frame
  go_big_quiet_on
  repeat (go_big_quiet_step (first | (go_at_call 17; exact Calls.regrown_of (named_eq (by assumption) _)) | (go_at_call 18; exact Calls.regrown_of (right_eq (by assumption) (by assumption) _)) | (go_at_call 19; exact Calls.regrown_of (lost_eq (by assumption) _))))
  refine wpQuiet_nil ?_
  intro _ hw'
  obtain ⟨⟨dq, osq⟩, hw''⟩ := hw'
  subst hw''
  go_wp2
  go_ret
  exact ⟨rfl, next HB.out (below_regrown _ _ _)⟩

set_option maxHeartbeats 1000000 in
theorem rk_yes_z (k : Int) (g l i a : Nat) (n : Int) (o : Bool) (s m : Nat) (ha : a < 4294967296) (d1 : decide (1 ≤ k) = true) (d2 : decide (k ≤ 4) = true) (hP : pared ⟨k, g, l, i, a, n, o, s, m⟩ = ⟨k, g, l, i, a, n, o, s, m⟩) (hi : ((i : Int) != 0) = false) (hn : named k = false) (hr : Am.right a n = true) (hs : decide ((s : Int) ≤ 1073741824) = true) (hm : ((m : Int) == 65535) = false) (w : World) :
    Calls Try.prog 7 #[.agg #[.int .i64 k, .int .u32 g, .int .u32 l, .int .u32 i, .int .u32 a, .int .i64 n, .bool o, .int .u32 s, .int .u16 m]] w fun e w' => e = .returned (.bool true) ∧ Below w.heap.size w w' := by
  have hq := fun wx => eql_rec k k g l i a g l i a n n o o s m s m wx
  simp only [decide_true] at hq
  have HQ := Lib.hid hq
  clear hq
  go_enter Try.func7, Try.ntmps7
  go_wp2_with fail
  have C := Blk.new w 30 #[.int .i64 k, .int .u32 g, .int .u32 l, .int .u32 i, .int .u32 a, .int .i64 n, .bool o, .int .u32 s, .int .u16 m]
  have hb0 := below_new w (.cells #[.int .i64 k, .int .u32 g, .int .u32 l, .int .u32 i, .int .u32 a, .int .i64 n, .bool o, .int .u32 s, .int .u16 m] 30)
  generalize w.alloc (.cells #[.int .i64 k, .int .u32 g, .int .u32 l, .int .u32 i, .int .u32 a, .int .i64 n, .bool o, .int .u32 s, .int .u16 m] 30) = w2 at *
  have HB := Lib.hid hb0
  clear hb0
  have c0 := C.at_ 0
  have c1 := C.at_ 1
  have c2 := C.at_ 2
  have c3 := C.at_ 3
  have c4 := C.at_ 4
  have c5 := C.at_ 5
  have c6 := C.at_ 6
  have c7 := C.at_ 7
  have c8 := C.at_ 8
  clear C
  simp at c0 c1 c2 c3 c4 c5 c6 c7 c8
  have k0 := fun d os => cell_regrown c0 d os
  have k1 := fun d os => cell_regrown c1 d os
  have k2 := fun d os => cell_regrown c2 d os
  have k3 := fun d os => cell_regrown c3 d os
  have k4 := fun d os => cell_regrown c4 d os
  have k5 := fun d os => cell_regrown c5 d os
  have k6 := fun d os => cell_regrown c6 d os
  have k7 := fun d os => cell_regrown c7 d os
  have k8 := fun d os => cell_regrown c8 d os
  refine wp_region_quiet_below (by kernel_rfl) (by kernel_rfl) ?_
  iterate 12 (go_big_quiet_step (first | (go_at_call 16; exact Calls.regrown_of (hP ▸ pared_any _ _ _ _ _ _ _ _ _ _))))
  go_big_quiet_want
  refine eq_op rfl rfl rfl (by kernel_rfl) HQ.out ?_
  go_frame
  go_big_quiet_on
  repeat (go_big_quiet_step (first | (go_at_call 17; exact Calls.regrown_of (named_eq (by assumption) _)) | (go_at_call 18; exact Calls.regrown_of (right_eq (by assumption) (by assumption) _)) | (go_at_call 19; exact Calls.regrown_of (lost_eq (by assumption) _))))
  refine wpQuiet_nil ?_
  intro _ hw'
  obtain ⟨⟨dq, osq⟩, hw''⟩ := hw'
  subst hw''
  go_wp2
  go_ret
  exact ⟨rfl, next HB.out (below_regrown _ _ _)⟩

set_option maxHeartbeats 1000000 in
theorem rk_pre_n (k : Int) (g l i a : Nat) (n : Int) (o : Bool) (s m : Nat) (ha : a < 4294967296) (d1 : decide (1 ≤ k) = true) (d2 : decide (k ≤ 4) = true) (hP : pared ⟨k, g, l, i, a, n, o, s, m⟩ = ⟨k, g, l, i, a, n, o, s, m⟩) (hi : ((i : Int) != 0) = true) (hr : Am.right a n = false) (w : World) :
    Calls Try.prog 7 #[.agg #[.int .i64 k, .int .u32 g, .int .u32 l, .int .u32 i, .int .u32 a, .int .i64 n, .bool o, .int .u32 s, .int .u16 m]] w fun e w' => e = .returned (.bool false) ∧ Below w.heap.size w w' := by
  have hq := fun wx => eql_rec k k g l i a g l i a n n o o s m s m wx
  simp only [decide_true] at hq
  have HQ := Lib.hid hq
  clear hq
  go_enter Try.func7, Try.ntmps7
  go_wp2_with fail
  have C := Blk.new w 30 #[.int .i64 k, .int .u32 g, .int .u32 l, .int .u32 i, .int .u32 a, .int .i64 n, .bool o, .int .u32 s, .int .u16 m]
  have hb0 := below_new w (.cells #[.int .i64 k, .int .u32 g, .int .u32 l, .int .u32 i, .int .u32 a, .int .i64 n, .bool o, .int .u32 s, .int .u16 m] 30)
  generalize w.alloc (.cells #[.int .i64 k, .int .u32 g, .int .u32 l, .int .u32 i, .int .u32 a, .int .i64 n, .bool o, .int .u32 s, .int .u16 m] 30) = w2 at *
  have HB := Lib.hid hb0
  clear hb0
  have c0 := C.at_ 0
  have c1 := C.at_ 1
  have c2 := C.at_ 2
  have c3 := C.at_ 3
  have c4 := C.at_ 4
  have c5 := C.at_ 5
  have c6 := C.at_ 6
  have c7 := C.at_ 7
  have c8 := C.at_ 8
  clear C
  simp at c0 c1 c2 c3 c4 c5 c6 c7 c8
  have k0 := fun d os => cell_regrown c0 d os
  have k1 := fun d os => cell_regrown c1 d os
  have k2 := fun d os => cell_regrown c2 d os
  have k3 := fun d os => cell_regrown c3 d os
  have k4 := fun d os => cell_regrown c4 d os
  have k5 := fun d os => cell_regrown c5 d os
  have k6 := fun d os => cell_regrown c6 d os
  have k7 := fun d os => cell_regrown c7 d os
  have k8 := fun d os => cell_regrown c8 d os
  refine wp_region_quiet_below (by kernel_rfl) (by kernel_rfl) ?_
  iterate 12 (go_big_quiet_step (first | (go_at_call 16; exact Calls.regrown_of (hP ▸ pared_any _ _ _ _ _ _ _ _ _ _))))
  go_big_quiet_want
  refine eq_op rfl rfl rfl (by kernel_rfl) HQ.out ?_
  go_frame
  go_big_quiet_on
  repeat (go_big_quiet_step (first | (go_at_call 17; exact Calls.regrown_of (named_eq (by assumption) _)) | (go_at_call 18; exact Calls.regrown_of (right_eq (by assumption) (by assumption) _)) | (go_at_call 19; exact Calls.regrown_of (lost_eq (by assumption) _))))
  refine wpQuiet_nil ?_
  intro _ hw'
  obtain ⟨⟨dq, osq⟩, hw''⟩ := hw'
  subst hw''
  go_wp2
  go_ret
  exact ⟨rfl, next HB.out (below_regrown _ _ _)⟩

set_option maxHeartbeats 1000000 in
theorem rk_seq_n (k : Int) (g l i a : Nat) (n : Int) (o : Bool) (s m : Nat) (ha : a < 4294967296) (d1 : decide (1 ≤ k) = true) (d2 : decide (k ≤ 4) = true) (hP : pared ⟨k, g, l, i, a, n, o, s, m⟩ = ⟨k, g, l, i, a, n, o, s, m⟩) (hi : ((i : Int) != 0) = true) (hr : Am.right a n = true) (hs : decide ((s : Int) ≤ 1073741824) = false) (w : World) :
    Calls Try.prog 7 #[.agg #[.int .i64 k, .int .u32 g, .int .u32 l, .int .u32 i, .int .u32 a, .int .i64 n, .bool o, .int .u32 s, .int .u16 m]] w fun e w' => e = .returned (.bool false) ∧ Below w.heap.size w w' := by
  have hq := fun wx => eql_rec k k g l i a g l i a n n o o s m s m wx
  simp only [decide_true] at hq
  have HQ := Lib.hid hq
  clear hq
  go_enter Try.func7, Try.ntmps7
  go_wp2_with fail
  have C := Blk.new w 30 #[.int .i64 k, .int .u32 g, .int .u32 l, .int .u32 i, .int .u32 a, .int .i64 n, .bool o, .int .u32 s, .int .u16 m]
  have hb0 := below_new w (.cells #[.int .i64 k, .int .u32 g, .int .u32 l, .int .u32 i, .int .u32 a, .int .i64 n, .bool o, .int .u32 s, .int .u16 m] 30)
  generalize w.alloc (.cells #[.int .i64 k, .int .u32 g, .int .u32 l, .int .u32 i, .int .u32 a, .int .i64 n, .bool o, .int .u32 s, .int .u16 m] 30) = w2 at *
  have HB := Lib.hid hb0
  clear hb0
  have c0 := C.at_ 0
  have c1 := C.at_ 1
  have c2 := C.at_ 2
  have c3 := C.at_ 3
  have c4 := C.at_ 4
  have c5 := C.at_ 5
  have c6 := C.at_ 6
  have c7 := C.at_ 7
  have c8 := C.at_ 8
  clear C
  simp at c0 c1 c2 c3 c4 c5 c6 c7 c8
  have k0 := fun d os => cell_regrown c0 d os
  have k1 := fun d os => cell_regrown c1 d os
  have k2 := fun d os => cell_regrown c2 d os
  have k3 := fun d os => cell_regrown c3 d os
  have k4 := fun d os => cell_regrown c4 d os
  have k5 := fun d os => cell_regrown c5 d os
  have k6 := fun d os => cell_regrown c6 d os
  have k7 := fun d os => cell_regrown c7 d os
  have k8 := fun d os => cell_regrown c8 d os
  refine wp_region_quiet_below (by kernel_rfl) (by kernel_rfl) ?_
  iterate 12 (go_big_quiet_step (first | (go_at_call 16; exact Calls.regrown_of (hP ▸ pared_any _ _ _ _ _ _ _ _ _ _))))
  go_big_quiet_want
  refine eq_op rfl rfl rfl (by kernel_rfl) HQ.out ?_
  go_frame
  go_big_quiet_on
  repeat (go_big_quiet_step (first | (go_at_call 17; exact Calls.regrown_of (named_eq (by assumption) _)) | (go_at_call 18; exact Calls.regrown_of (right_eq (by assumption) (by assumption) _)) | (go_at_call 19; exact Calls.regrown_of (lost_eq (by assumption) _))))
  refine wpQuiet_nil ?_
  intro _ hw'
  obtain ⟨⟨dq, osq⟩, hw''⟩ := hw'
  subst hw''
  go_wp2
  go_ret
  exact ⟨rfl, next HB.out (below_regrown _ _ _)⟩

set_option maxHeartbeats 1000000 in
theorem rk_met_n (k : Int) (g l i a : Nat) (n : Int) (o : Bool) (s m : Nat) (ha : a < 4294967296) (d1 : decide (1 ≤ k) = true) (d2 : decide (k ≤ 4) = true) (hP : pared ⟨k, g, l, i, a, n, o, s, m⟩ = ⟨k, g, l, i, a, n, o, s, m⟩) (hi : ((i : Int) != 0) = true) (hr : Am.right a n = true) (hs : decide ((s : Int) ≤ 1073741824) = true) (hm : ((m : Int) == 65535) = true) (w : World) :
    Calls Try.prog 7 #[.agg #[.int .i64 k, .int .u32 g, .int .u32 l, .int .u32 i, .int .u32 a, .int .i64 n, .bool o, .int .u32 s, .int .u16 m]] w fun e w' => e = .returned (.bool false) ∧ Below w.heap.size w w' := by
  have hq := fun wx => eql_rec k k g l i a g l i a n n o o s m s m wx
  simp only [decide_true] at hq
  have HQ := Lib.hid hq
  clear hq
  go_enter Try.func7, Try.ntmps7
  go_wp2_with fail
  have C := Blk.new w 30 #[.int .i64 k, .int .u32 g, .int .u32 l, .int .u32 i, .int .u32 a, .int .i64 n, .bool o, .int .u32 s, .int .u16 m]
  have hb0 := below_new w (.cells #[.int .i64 k, .int .u32 g, .int .u32 l, .int .u32 i, .int .u32 a, .int .i64 n, .bool o, .int .u32 s, .int .u16 m] 30)
  generalize w.alloc (.cells #[.int .i64 k, .int .u32 g, .int .u32 l, .int .u32 i, .int .u32 a, .int .i64 n, .bool o, .int .u32 s, .int .u16 m] 30) = w2 at *
  have HB := Lib.hid hb0
  clear hb0
  have c0 := C.at_ 0
  have c1 := C.at_ 1
  have c2 := C.at_ 2
  have c3 := C.at_ 3
  have c4 := C.at_ 4
  have c5 := C.at_ 5
  have c6 := C.at_ 6
  have c7 := C.at_ 7
  have c8 := C.at_ 8
  clear C
  simp at c0 c1 c2 c3 c4 c5 c6 c7 c8
  have k0 := fun d os => cell_regrown c0 d os
  have k1 := fun d os => cell_regrown c1 d os
  have k2 := fun d os => cell_regrown c2 d os
  have k3 := fun d os => cell_regrown c3 d os
  have k4 := fun d os => cell_regrown c4 d os
  have k5 := fun d os => cell_regrown c5 d os
  have k6 := fun d os => cell_regrown c6 d os
  have k7 := fun d os => cell_regrown c7 d os
  have k8 := fun d os => cell_regrown c8 d os
  refine wp_region_quiet_below (by kernel_rfl) (by kernel_rfl) ?_
  iterate 12 (go_big_quiet_step (first | (go_at_call 16; exact Calls.regrown_of (hP ▸ pared_any _ _ _ _ _ _ _ _ _ _))))
  go_big_quiet_want
  refine eq_op rfl rfl rfl (by kernel_rfl) HQ.out ?_
  go_frame
  go_big_quiet_on
  repeat (go_big_quiet_step (first | (go_at_call 17; exact Calls.regrown_of (named_eq (by assumption) _)) | (go_at_call 18; exact Calls.regrown_of (right_eq (by assumption) (by assumption) _)) | (go_at_call 19; exact Calls.regrown_of (lost_eq (by assumption) _))))
  refine wpQuiet_nil ?_
  intro _ hw'
  obtain ⟨⟨dq, osq⟩, hw''⟩ := hw'
  subst hw''
  go_wp2
  go_ret
  exact ⟨rfl, next HB.out (below_regrown _ _ _)⟩

set_option maxHeartbeats 1000000 in
theorem rk_yes_n (k : Int) (g l i a : Nat) (n : Int) (o : Bool) (s m : Nat) (ha : a < 4294967296) (d1 : decide (1 ≤ k) = true) (d2 : decide (k ≤ 4) = true) (hP : pared ⟨k, g, l, i, a, n, o, s, m⟩ = ⟨k, g, l, i, a, n, o, s, m⟩) (hi : ((i : Int) != 0) = true) (hr : Am.right a n = true) (hs : decide ((s : Int) ≤ 1073741824) = true) (hm : ((m : Int) == 65535) = false) (w : World) :
    Calls Try.prog 7 #[.agg #[.int .i64 k, .int .u32 g, .int .u32 l, .int .u32 i, .int .u32 a, .int .i64 n, .bool o, .int .u32 s, .int .u16 m]] w fun e w' => e = .returned (.bool true) ∧ Below w.heap.size w w' := by
  have hq := fun wx => eql_rec k k g l i a g l i a n n o o s m s m wx
  simp only [decide_true] at hq
  have HQ := Lib.hid hq
  clear hq
  go_enter Try.func7, Try.ntmps7
  go_wp2_with fail
  have C := Blk.new w 30 #[.int .i64 k, .int .u32 g, .int .u32 l, .int .u32 i, .int .u32 a, .int .i64 n, .bool o, .int .u32 s, .int .u16 m]
  have hb0 := below_new w (.cells #[.int .i64 k, .int .u32 g, .int .u32 l, .int .u32 i, .int .u32 a, .int .i64 n, .bool o, .int .u32 s, .int .u16 m] 30)
  generalize w.alloc (.cells #[.int .i64 k, .int .u32 g, .int .u32 l, .int .u32 i, .int .u32 a, .int .i64 n, .bool o, .int .u32 s, .int .u16 m] 30) = w2 at *
  have HB := Lib.hid hb0
  clear hb0
  have c0 := C.at_ 0
  have c1 := C.at_ 1
  have c2 := C.at_ 2
  have c3 := C.at_ 3
  have c4 := C.at_ 4
  have c5 := C.at_ 5
  have c6 := C.at_ 6
  have c7 := C.at_ 7
  have c8 := C.at_ 8
  clear C
  simp at c0 c1 c2 c3 c4 c5 c6 c7 c8
  have k0 := fun d os => cell_regrown c0 d os
  have k1 := fun d os => cell_regrown c1 d os
  have k2 := fun d os => cell_regrown c2 d os
  have k3 := fun d os => cell_regrown c3 d os
  have k4 := fun d os => cell_regrown c4 d os
  have k5 := fun d os => cell_regrown c5 d os
  have k6 := fun d os => cell_regrown c6 d os
  have k7 := fun d os => cell_regrown c7 d os
  have k8 := fun d os => cell_regrown c8 d os
  refine wp_region_quiet_below (by kernel_rfl) (by kernel_rfl) ?_
  iterate 12 (go_big_quiet_step (first | (go_at_call 16; exact Calls.regrown_of (hP ▸ pared_any _ _ _ _ _ _ _ _ _ _))))
  go_big_quiet_want
  refine eq_op rfl rfl rfl (by kernel_rfl) HQ.out ?_
  go_frame
  go_big_quiet_on
  repeat (go_big_quiet_step (first | (go_at_call 17; exact Calls.regrown_of (named_eq (by assumption) _)) | (go_at_call 18; exact Calls.regrown_of (right_eq (by assumption) (by assumption) _)) | (go_at_call 19; exact Calls.regrown_of (lost_eq (by assumption) _))))
  refine wpQuiet_nil ?_
  intro _ hw'
  obtain ⟨⟨dq, osq⟩, hw''⟩ := hw'
  subst hw''
  go_wp2
  go_ret
  exact ⟨rfl, next HB.out (below_regrown _ _ _)⟩

theorem prright_any (k : Int) (g l i a : Nat) (n : Int) (o : Bool) (s m : Nat) (ha : a < 4294967296) (w : World) :
    Calls Try.prog 7 #[.agg #[.int .i64 k, .int .u32 g, .int .u32 l, .int .u32 i, .int .u32 a, .int .i64 n, .bool o, .int .u32 s, .int .u16 m]] w fun e w' => e = .returned (.bool (right ⟨k, g, l, i, a, n, o, s, m⟩)) ∧ Below w.heap.size w w' := by
  by_cases h1 : 1 ≤ k
  case neg =>
    rw [show right ⟨k, g, l, i, a, n, o, s, m⟩ = false by simp [right, h1]]
    exact rk_low k g l i a n o s m (decide_eq_false h1) w
  by_cases h2 : k ≤ 4
  case neg =>
    rw [show right ⟨k, g, l, i, a, n, o, s, m⟩ = false by simp [right, h2]]
    exact rk_high k g l i a n o s m (decide_eq_true h1) (decide_eq_false h2) w
  have d1 := decide_eq_true h1
  have d2 := decide_eq_true h2
  by_cases hP : (⟨k, g, l, i, a, n, o, s, m⟩ : Rc) = pared ⟨k, g, l, i, a, n, o, s, m⟩
  case neg =>
    rw [show right ⟨k, g, l, i, a, n, o, s, m⟩ = false by simp only [right, decide_eq_false hP]; simp]
    exact rk_ne k g l i a n o s m d1 d2 _ rfl hP w
  have e1 : ∀ b1 b2 b3 b4 : Bool, (i != 0 || !named k) = b1 → Am.right a n = b2 → decide (s ≤ 1073741824) = b3 → (m == 65535) = b4 → right ⟨k, g, l, i, a, n, o, s, m⟩ = (b1 && b2 && b3 && !b4) := by
    intro b1 b2 b3 b4 e1 e2 e3 e4
    simp only [right, d1, d2, decide_eq_true hP, e1, e2, e3, e4, Bool.true_and]
  replace hP := hP.symm
  have es : decide ((s : Int) ≤ 1073741824) = decide (s ≤ 1073741824) := by rw [decide_eq_decide]; omega
  have em : ((m : Int) == 65535) = (m == 65535) := by rw [Bool.eq_iff_iff]; simp; omega
  cases hi : (i == 0)
  · have hi' : (i != 0 || !named k) = true := by simp [bne, hi]
    have ei : ((i : Int) != 0) = true := by have := beq_eq_false_iff_ne.1 hi; simp; omega
    cases hr : Am.right a n
    · rw [e1 _ _ _ _ hi' hr rfl rfl]; exact rk_pre_n k g l i a n o s m ha d1 d2 hP ei hr w
    cases hs : decide (s ≤ 1073741824)
    · rw [e1 _ _ _ _ hi' hr hs rfl]; exact rk_seq_n k g l i a n o s m ha d1 d2 hP ei hr (es.trans hs) w
    cases hm : (m == 65535)
    · rw [e1 _ _ _ _ hi' hr hs hm]; exact rk_yes_n k g l i a n o s m ha d1 d2 hP ei hr (es.trans hs) (em.trans hm) w
    · rw [e1 _ _ _ _ hi' hr hs hm]; exact rk_met_n k g l i a n o s m ha d1 d2 hP ei hr (es.trans hs) (em.trans hm) w
  · have ei : ((i : Int) != 0) = false := by have := beq_iff_eq.1 hi; simp; omega
    cases hn : named k
    · have hi' : (i != 0 || !named k) = true := by simp [hn]
      cases hr : Am.right a n
      · rw [e1 _ _ _ _ hi' hr rfl rfl]; exact rk_pre_z k g l i a n o s m ha d1 d2 hP ei hn hr w
      cases hs : decide (s ≤ 1073741824)
      · rw [e1 _ _ _ _ hi' hr hs rfl]; exact rk_seq_z k g l i a n o s m ha d1 d2 hP ei hn hr (es.trans hs) w
      cases hm : (m == 65535)
      · rw [e1 _ _ _ _ hi' hr hs hm]; exact rk_yes_z k g l i a n o s m ha d1 d2 hP ei hn hr (es.trans hs) (em.trans hm) w
      · rw [e1 _ _ _ _ hi' hr hs hm]; exact rk_met_z k g l i a n o s m ha d1 d2 hP ei hn hr (es.trans hs) (em.trans hm) w
    · have hi' : (i != 0 || !named k) = false := by simp [bne, hi, hn]
      rw [e1 _ _ _ _ hi' rfl rfl rfl]; exact rk_id k g l i a n o s m d1 d2 hP ei hn w
end Go.Proofs.Ytbjminjcccflcaa
