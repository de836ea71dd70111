/-
  RecSectors' walk.
-/
import Derived.Test.YtbjminjcccflcaaRecHd
namespace Go.Proofs.Ytbjminjcccflcaa
open Go.RowKit Rm

theorem prright_eq {k : Int} {g l i a : Nat} {n : Int} {o : Bool} {s m : Nat} {r : Bool} (ha : a < 4294967296) (h : right ⟨k, g, l, i, a, n, o, s, m⟩ = r) (w : World) :
    Calls Try.prog 7 #[.agg (rcells k g l i a n o s m)] w fun e w' => e = .returned (.bool r) ∧ Below w.heap.size w w' := h ▸ prright_any k g l i a n o s m ha w
theorem rright_eq {k : Int} {g l i a : Nat} {n : Int} {o : Bool} {s m : Nat} {r : Bool} (ha : a < 4294967296) (h : right ⟨k, g, l, i, a, n, o, s, m⟩ = r) (w : World) :
    Calls Try.prog 8 #[.agg (rcells k g l i a n o s m)] w fun e w' => e = .returned (.bool r) ∧ Below w.heap.size w w' := by
  have k := rright_any k g l i a n o s m ha w
  rw [right_two, h] at k
  exact k
theorem rec_cells {w : World} {b : Nat} {t : TypeId} {k : Int} {g l i a : Nat} {n : Int} {o : Bool} {s m : Nat} (h : Blk t w b (rcells k g l i a n o s m)) :
    w.cell? ⟨b, 0, none⟩ = some (.int .i64 k) ∧ w.cell? ⟨b, 1, none⟩ = some (.int .u32 g) ∧ w.cell? ⟨b, 2, none⟩ = some (.int .u32 l) ∧ w.cell? ⟨b, 3, none⟩ = some (.int .u32 i) ∧ w.cell? ⟨b, 4, none⟩ = some (.int .u32 a) ∧
    w.cell? ⟨b, 5, none⟩ = some (.int .i64 n) ∧ w.cell? ⟨b, 6, none⟩ = some (.bool o) ∧ w.cell? ⟨b, 7, none⟩ = some (.int .u32 s) ∧ w.cell? ⟨b, 8, none⟩ = some (.int .u16 m) :=
  ⟨h.at_ 0, h.at_ 1, h.at_ 2, h.at_ 3, h.at_ 4, h.at_ 5, h.at_ 6, h.at_ 7, h.at_ 8⟩
set_option maxHeartbeats 2000000 in
theorem sectors_no (k : Int) (g l i a : Nat) (n : Int) (o : Bool) (s m : Nat) (ha : a < 4294967296) (hr : right ⟨k, g, l, i, a, n, o, s, m⟩ = false) (w : World) :
    Calls Try.prog 3 #[.agg (rcells k g l i a n o s m)] w fun e w' => e = .returned (.bool true) ∧ Below w.heap.size w w' := by
  have N := Lib.hid (sector_no k g l i a n o s m ha hr)
  have R := Lib.hid hr
  clear hr
  have hX0 := Blk.new w 30 (rcells k g l i a n o s m)
  have hb0 := below_new w (.cells (rcells k g l i a n o s m) 30)
  go_enter Try.func3, Try.ntmps3
  go_wp2_with fail
  generalize w.alloc (.cells (rcells k g l i a n o s m) 30) = w2 at *
  refine (rec_head _).mono ?_
  rintro e x1 ⟨rfl, hb⟩
  have T1 := Lib.hid (And.intro (hX0.held hb) (next hb0 hb))
  clear hX0 hb0 hb
  obtain ⟨D, hD1, hD2⟩ := rec_under
  have U := Lib.hid (And.intro hD1 hD2)
  clear hD1 hD2
  go_wp2_with (refine wpList_load_mid (P := Try.prog) rfl 30 (.tmp 1) rfl _ _ rfl _ _ T1.out.1.rec_range U.out.1 U.out.2 (rec_info k g l i a n o s m) ?_)
  refine (N.out _).mono ?_
  rintro e x2 ⟨rfl, hb⟩
  have hX2 := T1.out.1.held hb
  have T2 := Lib.hid (And.intro hX2 (next T1.out.2 hb))
  clear hb T1 N
  go_wp2_with fail
  obtain ⟨k0, k1, k2, k3, k4, k5, k6, k7, k8⟩ := rec_cells hX2
  clear hX2
  have c0 := fun d os => cell_regrown k0 d os
  have c1 := fun d os => cell_regrown k1 d os
  have c2 := fun d os => cell_regrown k2 d os
  have c3 := fun d os => cell_regrown k3 d os
  have c4 := fun d os => cell_regrown k4 d os
  have c5 := fun d os => cell_regrown k5 d os
  have c6 := fun d os => cell_regrown k6 d os
  have c7 := fun d os => cell_regrown k7 d os
  have c8 := fun d os => cell_regrown k8 d os
  clear k0 k1 k2 k3 k4 k5 k6 k7 k8
  refine wp_region_quiet_below (by kernel_rfl) (by kernel_rfl) ?_
  repeat (go_big_quiet_step (first | (go_at_call 7; exact Calls.regrown_of (prright_eq ha R.out _)) | (go_at_call 8; exact Calls.regrown_of (rright_eq ha R.out _))))
  refine wpQuiet_nil ?_
  intro _ hw'
  obtain ⟨⟨dq, osq⟩, hw''⟩ := hw'
  subst hw''
  have T3 := Lib.hid (And.intro (T2.out.1.held (below_regrown x2 dq osq)) (next T2.out.2 (below_regrown x2 dq osq)))
  clear c0 c1 c2 c3 c4 c5 c6 c7 c8 T2
  generalize «Sort».grow (redrawn x2 dq) osq = x3 at *
  go_wp2_with (refine wpList_load_mid (P := Try.prog) rfl 30 (.tmp 1) rfl _ _ rfl _ _ T3.out.1.rec_range U.out.1 U.out.2 (rec_info k g l i a n o s m) ?_)
  refine (rright_eq ha R.out _).mono ?_
  rintro e x4 ⟨rfl, hb⟩
  have T4 := Lib.hid (next T3.out.2 hb)
  clear hb
  go_wp2_with fail
  go_ret
  exact ⟨rfl, T4.out⟩
set_option maxHeartbeats 2000000 in
theorem sectors_yes (k : Int) (g l i a : Nat) (n : Int) (o : Bool) (s m : Nat) (hf : (⟨k, g, l, i, a, n, o, s, m⟩ : Rc).Fits) (hr : right ⟨k, g, l, i, a, n, o, s, m⟩ = true) (w : World) :
    Calls Try.prog 3 #[.agg (rcells k g l i a n o s m)] w fun e w' => e = .returned (.bool true) ∧ Below w.heap.size w w' := by
  have N := Lib.hid (sector_yes k g l i a n o s m hf hr)
  have O := Lib.hid (of_bytes hr hf)
  obtain ⟨-, -, hg, hl, hi, ha, -, -, hs, hm⟩ := hf
  simp only at hg hl hi ha hs hm
  have R := Lib.hid hr
  clear hr
  have hX0 := Blk.new w 30 (rcells k g l i a n o s m)
  have hb0 := below_new w (.cells (rcells k g l i a n o s m) 30)
  go_enter Try.func3, Try.ntmps3
  go_wp2_with fail
  generalize w.alloc (.cells (rcells k g l i a n o s m) 30) = w2 at *
  refine (rec_head _).mono ?_
  rintro e x1 ⟨rfl, hb⟩
  have T1 := Lib.hid (And.intro (hX0.held hb) (next hb0 hb))
  clear hX0 hb0 hb
  obtain ⟨D, hD1, hD2⟩ := rec_under
  have U := Lib.hid (And.intro hD1 hD2)
  clear hD1 hD2
  go_wp2_with (refine wpList_load_mid (P := Try.prog) rfl 30 (.tmp 1) rfl _ _ rfl _ _ T1.out.1.rec_range U.out.1 U.out.2 (rec_info k g l i a n o s m) ?_)
  refine (N.out _).mono ?_
  rintro e x2 ⟨b2, rfl, -, hB2, hb⟩
  have hX2 := T1.out.1.held hb
  have hS2 : BytesAt x2 (some ⟨b2, 0, none⟩) 48 (Rm.bytes ⟨k, g, l, i, a, n, o, s, m⟩) := BytesAt.cls hB2 (bytes_lt _) (by rw [bytes_length]; omega)
  have T2 := Lib.hid (And.intro hX2 (And.intro (next T1.out.2 hb) hS2))
  clear hb T1 N hB2 hS2
  go_wp2_with fail
  obtain ⟨k0, k1, k2, k3, k4, k5, k6, k7, k8⟩ := rec_cells hX2
  clear hX2
  have c0 := fun d os => cell_regrown k0 d os
  have c1 := fun d os => cell_regrown k1 d os
  have c2 := fun d os => cell_regrown k2 d os
  have c3 := fun d os => cell_regrown k3 d os
  have c4 := fun d os => cell_regrown k4 d os
  have c5 := fun d os => cell_regrown k5 d os
  have c6 := fun d os => cell_regrown k6 d os
  have c7 := fun d os => cell_regrown k7 d os
  have c8 := fun d os => cell_regrown k8 d os
  clear k0 k1 k2 k3 k4 k5 k6 k7 k8
  refine wp_region_quiet_below (by kernel_rfl) (by kernel_rfl) ?_
  repeat (go_big_quiet_step (first | (go_at_call 7; exact Calls.regrown_of (prright_eq ha R.out _)) | (go_at_call 8; exact Calls.regrown_of (rright_eq ha R.out _))))
  refine wpQuiet_nil ?_
  intro _ hw'
  obtain ⟨⟨dq, osq⟩, hw''⟩ := hw'
  subst hw''
  have T3 := Lib.hid (And.intro (T2.out.1.held (below_regrown x2 dq osq)) (And.intro (next T2.out.2.1 (below_regrown x2 dq osq)) (T2.out.2.2.held (below_regrown x2 dq osq))))
  clear c0 c1 c2 c3 c4 c5 c6 c7 c8 T2
  generalize «Sort».grow (redrawn x2 dq) osq = x3 at *
  go_wp2_with (refine wpList_load_mid (P := Try.prog) rfl 30 (.tmp 1) rfl _ _ rfl _ _ T3.out.1.rec_range U.out.1 U.out.2 (rec_info k g l i a n o s m) ?_)
  refine (rright_eq ha R.out _).mono ?_
  rintro e x4 ⟨rfl, hb⟩
  have T4 := Lib.hid (And.intro (T3.out.1.held hb) (And.intro (next T3.out.2.1 hb) (T3.out.2.2.held hb)))
  clear hb T3
  go_wp2_with fail
  refine (of_ans (x := ⟨k, g, l, i, a, n, o, s, m⟩) (y := true) (by omega) T4.out.2.2 (by rw [O.out]; rfl) (by rw [O.out]; rfl)).mono ?_
  rintro e x5 ⟨rfl, hb⟩
  have hX5 := T4.out.1.held hb
  have hb5 := next T4.out.2.1 hb
  have hS5 := T4.out.2.2.held hb
  clear hb T4 O R
  dsimp only
  go_wp2_with fail
  have hY6 := Blk.new x5 30 (rcells k g l i a n o s m)
  have hX6 := hX5.more (.cells (rcells k g l i a n o s m) 30)
  have hb6 := next hb5 (below_new x5 (.cells (rcells k g l i a n o s m) 30))
  have hS6 := hS5.held (below_new x5 (.cells (rcells k g l i a n o s m) 30))
  clear hX5 hb5 hS5
  generalize x5.alloc _ = x6 at *
  generalize x5.heap.size = b5 at *
  obtain ⟨c0, c1, c2, c3, c4, c5, c6, c7, c8⟩ := rec_cells hX6
  obtain ⟨d0, d1, d2, d3, d4, d5, d6, d7, d8⟩ := rec_cells hY6
  have cv := conv_str (cap := 48) (show BytesAt x6.drew _ _ _ from hS6)
  have T6 := Lib.hid (And.intro hX6.drew (And.intro hY6.drew (And.intro (show BytesAt x6.drew _ _ _ from hS6) hb6.drew)))
  clear hX6 hY6 hS6 hb6
  go_region_with (go_at_call 10; refine (bytes_any k g l i a n o s m hg hl hi ha hs hm _).mono ?_; rintro e x7 ⟨b7, cap7, rfl, hO, -, hb7⟩; have cv7 := conv_str (cap := cap7) (show BytesAt x7 (some ⟨b7, 0, none⟩) 48 _ from hO.bytes (bytes_lt _) (by rw [bytes_length]; omega)); have cv8 := conv_str (cap := 48) (T6.out.2.2.1.held hb7); obtain ⟨e0, e1, e2, e3, e4, e5, e6, e7, e8⟩ := rec_cells (T6.out.1.held hb7); obtain ⟨f0, f1, f2, f3, f4, f5, f6, f7, f8⟩ := rec_cells (T6.out.2.1.held hb7); have T7 := Lib.hid (next T6.out.2.2.2 hb7); clear hb7 hO)
  all_goals
    go_wp2_with fail
    go_ret
    exact ⟨rfl, T7.out⟩
end Go.Proofs.Ytbjminjcccflcaa
