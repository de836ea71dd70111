/-
  DistLinks: the walk: over any link a distance is worse, and lost at some time; of two the better one stays no worse.
-/
import Derived.Test.YtclfchdgagpahaaDistH
import Derived.Test.YtclfchdgagpahaaDistOrd
namespace Go.Proofs.Ytclfchdgagpahaa
open Go.RowKit

theorem beyond_eq {s m c r : Int} (hm : 0 ≤ m) (hm2 : m ≤ 65535) (h : far m c = r) (w : World) :
    Calls Try.prog 13 #[.agg #[.int .u32 s, .int .u16 m], .int .i64 c] w fun e w' => e = .returned (.agg #[.int .u32 s, .int .u16 r]) ∧ Below w.heap.size w w' := h ▸ beyond_any s m c hm hm2 w
theorem refBeyond_eq {s m c r : Int} (hm : 0 ≤ m) (hm2 : m ≤ 65535) (h : far m c = r) (w : World) :
    Calls Try.prog 14 #[.agg #[.int .u32 s, .int .u16 m], .int .i64 c] w fun e w' => e = .returned (.agg #[.int .u32 s, .int .u16 r]) ∧ Below w.heap.size w w' := h ▸ refBeyond_any s m c hm hm2 w
theorem two_new2 (w : World) (t t' : TypeId) (x y x' y' : Value) :
    Two ((w.alloc (.cells #[x, y] t)).alloc (.cells #[x', y'] t')) w.heap.size x y ∧ Two ((w.alloc (.cells #[x, y] t)).alloc (.cells #[x', y'] t')) (w.heap.size + 1) x' y' ∧
    Below w.heap.size w ((w.alloc (.cells #[x, y] t)).alloc (.cells #[x', y'] t')) := by
  refine ⟨(two_new w t x y).held (below_new _ _), ?_, next (below_new _ _) (below_new _ _)⟩
  have h := two_new (w.alloc (.cells #[x, y] t)) t' x' y'
  rwa [size_new] at h
theorem keep4 {w w' w'' : World} {p0 p1 q0 q1 : Addr} {v0 v1 u0 u1 : Value} (h : w'.cell? p0 = some v0 ∧ w'.cell? p1 = some v1 ∧ w'.cell? q0 = some u0 ∧ w'.cell? q1 = some u1 ∧ Below w.heap.size w w') (hb : Below w'.heap.size w' w'') :
    w''.cell? p0 = some v0 ∧ w''.cell? p1 = some v1 ∧ w''.cell? q0 = some u0 ∧ w''.cell? q1 = some u1 ∧ Below w.heap.size w w'' :=
  ⟨held hb h.1, held hb h.2.1, held hb h.2.2.1, held hb h.2.2.2.1, next h.2.2.2.2 hb⟩
theorem keep4d {w w' : World} {p0 p1 q0 q1 : Addr} {v0 v1 u0 u1 : Value} (h : w'.cell? p0 = some v0 ∧ w'.cell? p1 = some v1 ∧ w'.cell? q0 = some u0 ∧ w'.cell? q1 = some u1 ∧ Below w.heap.size w w') :
    w'.drew.cell? p0 = some v0 ∧ w'.drew.cell? p1 = some v1 ∧ w'.drew.cell? q0 = some u0 ∧ w'.drew.cell? q1 = some u1 ∧ Below w.heap.size w w'.drew :=
  ⟨h.1, h.2.1, h.2.2.1, h.2.2.2.1, h.2.2.2.2.drew⟩

/-! ### plain arithmetic -/
theorem far_lost (c : Int) : far 65535 c = 65535 := by unfold far clampCost; (repeat' split) <;> omega
theorem far_more {m : Int} (c : Int) (_h : 0 ≤ m) (h2 : m < 65535) : m < far m c ∧ far m c ≤ 65535 := by unfold far clampCost; (repeat' split) <;> omega
theorem far_mono {m m' : Int} (c : Int) (h : m ≤ m') : far m c ≤ far m' c := by unfold far clampCost; (repeat' split) <;> omega
theorem links_keep {s m s' m' : Int} (c : Int) (h : ¬ dcmp s m s' m' < 0) : 0 ≤ dcmp s (far m c) s' (far m' c) := by
  rcases dcmp_cases s m s' m' with ⟨a, e⟩ | ⟨a, a', e⟩ | ⟨a, e⟩
  · omega
  · subst a a'; rw [dcmp_self]; omega
  · rcases dcmp_cases s (far m c) s' (far m' c) with ⟨b, e'⟩ | ⟨b, b', e'⟩ | ⟨b, e'⟩
    · exfalso
      rcases a with a | ⟨rfl, a⟩
      · omega
      · have := far_mono c (m := m) (m' := m') (by omega)
        omega
    · omega
    · omega

set_option maxHeartbeats 1000000 in
theorem links_lost (s s' m' c : Int) (h1' : 0 ≤ m') (h2' : m' ≤ 65535) (w : World) :
    Calls Try.prog 5 #[.agg #[.int .u32 s, .int .u16 65535], .agg #[.int .u32 s', .int .u16 m'], .int .i64 c] w fun e w' => e = .returned (.bool true) ∧ Below w.heap.size w w' := by
  have F1 := Lib.hid (far_lost c)
  obtain ⟨f2, hf2'⟩ : ∃ r, far m' c = r := ⟨_, rfl⟩
  have F2 := Lib.hid hf2'
  clear hf2'
  have E3 : Hid (((65535 : Int) == 65535) = true) := Lib.hid rfl
  have E4 := E3
  go_enter Try.func5, Try.ntmps5
  go_wp2_with fail
  obtain ⟨⟨a0, a1⟩, ⟨b0, b1⟩, hB⟩ := two_new2 w 29 29 (.int .u32 s) (.int .u16 65535) (.int .u32 s') (.int .u16 m')
  generalize ((w.alloc (.cells #[.int .u32 s, .int .u16 65535] 29)).alloc (.cells #[.int .u32 s', .int .u16 m'] 29)) = v at *
  have HB := Lib.hid hB
  clear hB
  have hz : w.heap.size + 1 < _ := cell_lt b0
  refine (dist_head _).mono ?_
  rintro e w1 ⟨rfl, hb⟩
  replace a0 := held hb a0; replace a1 := held hb a1; replace b0 := held hb b0; replace b1 := held hb b1
  replace hz : w.heap.size + 1 < _ := cell_lt b0
  replace HB := Lib.hid (next HB.out hb); clear hb
  go_wp2_with fail
  refine (beyond_eq (by omega) (by omega) F1.out _).mono ?_
  rintro e w2 ⟨rfl, hb⟩
  replace a0 := held hb a0; replace a1 := held hb a1; replace b0 := held hb b0; replace b1 := held hb b1
  replace hz : w.heap.size + 1 < _ := cell_lt b0
  replace HB := Lib.hid (next HB.out hb); clear hb
  go_wp2_with fail
  obtain ⟨x0, x1⟩ := two_new w2 29 (.int .u32 s) (.int .u16 65535)
  have hb := below_new w2 (.cells #[.int .u32 s, .int .u16 65535] 29)
  generalize w2.alloc (.cells #[.int .u32 s, .int .u16 65535] 29) = w3 at *
  replace a0 := held hb a0; replace a1 := held hb a1; replace b0 := held hb b0; replace b1 := held hb b1
  replace hz : w.heap.size + 1 < _ := cell_lt b0
  replace HB := Lib.hid (next HB.out hb); clear hb
  generalize w2.heap.size = g at *
  have hx : g < _ := cell_lt x0
  refine (beyond_eq h1' h2' F2.out _).mono ?_
  rintro e w4 ⟨rfl, hb⟩
  replace a0 := held hb a0; replace a1 := held hb a1; replace b0 := held hb b0; replace b1 := held hb b1; replace x0 := held hb x0; replace x1 := held hb x1
  replace hz : w.heap.size + 1 < _ := cell_lt b0
  replace hx : g < _ := cell_lt x0
  replace HB := Lib.hid (next HB.out hb); clear hb
  go_wp2_with fail
  obtain ⟨y0, y1⟩ := two_new w4 29 (.int .u32 s') (.int .u16 f2)
  have hb := below_new w4 (.cells #[.int .u32 s', .int .u16 f2] 29)
  generalize w4.alloc (.cells #[.int .u32 s', .int .u16 f2] 29) = w5 at *
  replace a0 := held hb a0; replace a1 := held hb a1; replace b0 := held hb b0; replace b1 := held hb b1; replace x0 := held hb x0; replace x1 := held hb x1
  replace hz : w.heap.size + 1 < _ := cell_lt b0
  replace hx : g < _ := cell_lt x0
  replace HB := Lib.hid (next HB.out hb); clear hb
  generalize w4.heap.size = g2 at *
  have hy : g2 < _ := cell_lt y0

  go_region_held3 (fun w' => w'.cell? ⟨w.heap.size, 0, none⟩ = some (.int .u32 s) ∧ w'.cell? ⟨w.heap.size, 1, none⟩ = some (.int .u16 65535) ∧ w'.cell? ⟨g, 0, none⟩ = some (.int .u32 s) ∧ w'.cell? ⟨g, 1, none⟩ = some (.int .u16 65535) ∧ Below w5.heap.size w5 w')
    (first | exact ⟨a0, a1, x0, x1, (Below.refl _ _).drew⟩ | exact keep4 (by assumption) (by assumption) | exact keep4d (by assumption) | go_keep)
    (first | (go_at_call 14; refine (refBeyond_eq (by omega) (by omega) F1.out _).mono ?_; rintro e w' ⟨rfl, hb⟩) | (go_at_call 15; refine (lost_eq E3.out _).mono ?_; rintro e w' ⟨rfl, hb⟩))
  rename_i hH
  obtain ⟨-, -, -, -, hk⟩ := hH
  clear hb
  have hb := hk
  clear hk
  replace a0 := held hb a0; replace a1 := held hb a1; replace b0 := held hb b0; replace b1 := held hb b1; replace x0 := held hb x0; replace x1 := held hb x1; replace y0 := held hb y0; replace y1 := held hb y1
  replace hz : w.heap.size + 1 < _ := cell_lt b0
  replace hx : g < _ := cell_lt x0
  replace hy : g2 < _ := cell_lt y0
  replace HB := Lib.hid (next HB.out hb); clear hb
  go_wp2_with fail
  refine (lost_eq E4.out _).mono ?_
  rintro e w6 ⟨rfl, hb⟩
  replace a0 := held hb a0; replace a1 := held hb a1; replace b0 := held hb b0; replace b1 := held hb b1; replace x0 := held hb x0; replace x1 := held hb x1; replace y0 := held hb y0; replace y1 := held hb y1
  replace hz : w.heap.size + 1 < _ := cell_lt b0
  replace hx : g < _ := cell_lt x0
  replace hy : g2 < _ := cell_lt y0
  replace HB := Lib.hid (next HB.out hb); clear hb
  go_wp2_with fail
  go_ret
  exact ⟨ret_bool (by first | rfl | (simp; done) | (simp; omega)), HB.out⟩

set_option maxHeartbeats 1000000 in
theorem links_n1b (s m s' m' c : Int) (hm : 0 ≤ m) (hm2 : m < 65535) (hf : far m c = 65535) (hr : dcmp s m s' m' < 0) (h1' : 0 ≤ m') (h2' : m' ≤ 65535) (w : World) :
    Calls Try.prog 5 #[.agg #[.int .u32 s, .int .u16 m], .agg #[.int .u32 s', .int .u16 m'], .int .i64 c] w fun e w' => e = .returned (.bool true) ∧ Below w.heap.size w w' := by
  have F1 := Lib.hid hf
  clear hf
  obtain ⟨f2, hf2'⟩ : ∃ r, far m' c = r := ⟨_, rfl⟩
  have F2 := Lib.hid hf2'
  clear hf2'
  obtain ⟨r, er⟩ : ∃ r, dcmp s m s' m' = r := ⟨_, rfl⟩
  rw [er] at hr
  have E1 := Lib.hid er
  clear er
  have E0 : Hid (dcmp s m s 65535 = 1) := Lib.hid (dcmp_pos (.inr ⟨rfl, by omega⟩))
  have E3 : Hid (((65535 : Int) == 65535) = true) := Lib.hid rfl
  have E4 : Hid ((m == 65535) = false) := Lib.hid (beq_eq_false_iff_ne.2 (by omega))
  go_enter Try.func5, Try.ntmps5
  go_wp2_with fail
  obtain ⟨⟨a0, a1⟩, ⟨b0, b1⟩, hB⟩ := two_new2 w 29 29 (.int .u32 s) (.int .u16 m) (.int .u32 s') (.int .u16 m')
  generalize ((w.alloc (.cells #[.int .u32 s, .int .u16 m] 29)).alloc (.cells #[.int .u32 s', .int .u16 m'] 29)) = v at *
  have HB := Lib.hid hB
  clear hB
  have hz : w.heap.size + 1 < _ := cell_lt b0
  refine (dist_head _).mono ?_
  rintro e w1 ⟨rfl, hb⟩
  replace a0 := held hb a0; replace a1 := held hb a1; replace b0 := held hb b0; replace b1 := held hb b1
  replace hz : w.heap.size + 1 < _ := cell_lt b0
  replace HB := Lib.hid (next HB.out hb); clear hb
  go_wp2_with fail
  refine (beyond_eq (by omega) (by omega) F1.out _).mono ?_
  rintro e w2 ⟨rfl, hb⟩
  replace a0 := held hb a0; replace a1 := held hb a1; replace b0 := held hb b0; replace b1 := held hb b1
  replace hz : w.heap.size + 1 < _ := cell_lt b0
  replace HB := Lib.hid (next HB.out hb); clear hb
  go_wp2_with fail
  obtain ⟨x0, x1⟩ := two_new w2 29 (.int .u32 s) (.int .u16 65535)
  have hb := below_new w2 (.cells #[.int .u32 s, .int .u16 65535] 29)
  generalize w2.alloc (.cells #[.int .u32 s, .int .u16 65535] 29) = w3 at *
  replace a0 := held hb a0; replace a1 := held hb a1; replace b0 := held hb b0; replace b1 := held hb b1
  replace hz : w.heap.size + 1 < _ := cell_lt b0
  replace HB := Lib.hid (next HB.out hb); clear hb
  generalize w2.heap.size = g at *
  have hx : g < _ := cell_lt x0
  refine (beyond_eq h1' h2' F2.out _).mono ?_
  rintro e w4 ⟨rfl, hb⟩
  replace a0 := held hb a0; replace a1 := held hb a1; replace b0 := held hb b0; replace b1 := held hb b1; replace x0 := held hb x0; replace x1 := held hb x1
  replace hz : w.heap.size + 1 < _ := cell_lt b0
  replace hx : g < _ := cell_lt x0
  replace HB := Lib.hid (next HB.out hb); clear hb
  go_wp2_with fail
  obtain ⟨y0, y1⟩ := two_new w4 29 (.int .u32 s') (.int .u16 f2)
  have hb := below_new w4 (.cells #[.int .u32 s', .int .u16 f2] 29)
  generalize w4.alloc (.cells #[.int .u32 s', .int .u16 f2] 29) = w5 at *
  replace a0 := held hb a0; replace a1 := held hb a1; replace b0 := held hb b0; replace b1 := held hb b1; replace x0 := held hb x0; replace x1 := held hb x1
  replace hz : w.heap.size + 1 < _ := cell_lt b0
  replace hx : g < _ := cell_lt x0
  replace HB := Lib.hid (next HB.out hb); clear hb
  generalize w4.heap.size = g2 at *
  have hy : g2 < _ := cell_lt y0

  go_region_held3 (fun w' => w'.cell? ⟨w.heap.size, 0, none⟩ = some (.int .u32 s) ∧ w'.cell? ⟨w.heap.size, 1, none⟩ = some (.int .u16 m) ∧ w'.cell? ⟨g, 0, none⟩ = some (.int .u32 s) ∧ w'.cell? ⟨g, 1, none⟩ = some (.int .u16 65535) ∧ Below w5.heap.size w5 w')
    (first | exact ⟨a0, a1, x0, x1, (Below.refl _ _).drew⟩ | exact keep4 (by assumption) (by assumption) | exact keep4d (by assumption) | go_keep)
    (first | (go_at_call 14; refine (refBeyond_eq (by omega) (by omega) F1.out _).mono ?_; rintro e w' ⟨rfl, hb⟩) | (go_at_call 15; refine (lost_eq E3.out _).mono ?_; rintro e w' ⟨rfl, hb⟩))
  rename_i hH
  obtain ⟨-, -, -, -, hk⟩ := hH
  clear hb
  have hb := hk
  clear hk
  replace a0 := held hb a0; replace a1 := held hb a1; replace b0 := held hb b0; replace b1 := held hb b1; replace x0 := held hb x0; replace x1 := held hb x1; replace y0 := held hb y0; replace y1 := held hb y1
  replace hz : w.heap.size + 1 < _ := cell_lt b0
  replace hx : g < _ := cell_lt x0
  replace hy : g2 < _ := cell_lt y0
  replace HB := Lib.hid (next HB.out hb); clear hb
  go_wp2_with fail
  refine (lost_eq E4.out _).mono ?_
  rintro e w6 ⟨rfl, hb⟩
  replace a0 := held hb a0; replace a1 := held hb a1; replace b0 := held hb b0; replace b1 := held hb b1; replace x0 := held hb x0; replace x1 := held hb x1; replace y0 := held hb y0; replace y1 := held hb y1
  replace hz : w.heap.size + 1 < _ := cell_lt b0
  replace hx : g < _ := cell_lt x0
  replace hy : g2 < _ := cell_lt y0
  replace HB := Lib.hid (next HB.out hb); clear hb
  go_wp2_with fail
  refine (dist_cmp_eq E0.out _).mono ?_
  rintro e w7 ⟨rfl, hb⟩
  replace a0 := held hb a0; replace a1 := held hb a1; replace b0 := held hb b0; replace b1 := held hb b1; replace x0 := held hb x0; replace x1 := held hb x1; replace y0 := held hb y0; replace y1 := held hb y1
  replace hz : w.heap.size + 1 < _ := cell_lt b0
  replace hx : g < _ := cell_lt x0
  replace hy : g2 < _ := cell_lt y0
  replace HB := Lib.hid (next HB.out hb); clear hb
  go_wp2_with fail
  refine (dist_cmp_eq E1.out _).mono ?_
  rintro e w8 ⟨rfl, hb⟩
  replace a0 := held hb a0; replace a1 := held hb a1; replace b0 := held hb b0; replace b1 := held hb b1; replace x0 := held hb x0; replace x1 := held hb x1; replace y0 := held hb y0; replace y1 := held hb y1
  replace hz : w.heap.size + 1 < _ := cell_lt b0
  replace hx : g < _ := cell_lt x0
  replace hy : g2 < _ := cell_lt y0
  replace HB := Lib.hid (next HB.out hb); clear hb
  go_wp2_with fail
  go_ret
  exact ⟨ret_bool (by first | rfl | (simp; done) | (simp; omega)), HB.out⟩

set_option maxHeartbeats 1000000 in
theorem links_n1c (s m s' m' c : Int) (hm : 0 ≤ m) (hm2 : m < 65535) (hf : far m c = 65535) (hr : 0 ≤ dcmp s m s' m') (hr2 : 0 ≤ dcmp s (far m c) s' (far m' c)) (h1' : 0 ≤ m') (h2' : m' ≤ 65535) (w : World) :
    Calls Try.prog 5 #[.agg #[.int .u32 s, .int .u16 m], .agg #[.int .u32 s', .int .u16 m'], .int .i64 c] w fun e w' => e = .returned (.bool true) ∧ Below w.heap.size w w' := by
  have F1 := Lib.hid hf
  rw [hf] at hr2
  clear hf
  obtain ⟨f2, hf2'⟩ : ∃ r, far m' c = r := ⟨_, rfl⟩
  rw [hf2'] at hr2
  have F2 := Lib.hid hf2'
  clear hf2'
  obtain ⟨r, er⟩ : ∃ r, dcmp s m s' m' = r := ⟨_, rfl⟩
  rw [er] at hr
  have E1 := Lib.hid er
  clear er
  have E0 : Hid (dcmp s m s 65535 = 1) := Lib.hid (dcmp_pos (.inr ⟨rfl, by omega⟩))
  obtain ⟨r2, er⟩ : ∃ r, dcmp s 65535 s' f2 = r := ⟨_, rfl⟩
  rw [er] at hr2
  have E2 := Lib.hid er
  clear er
  have E3 : Hid (((65535 : Int) == 65535) = true) := Lib.hid rfl
  have E4 : Hid ((m == 65535) = false) := Lib.hid (beq_eq_false_iff_ne.2 (by omega))
  go_enter Try.func5, Try.ntmps5
  go_wp2_with fail
  obtain ⟨⟨a0, a1⟩, ⟨b0, b1⟩, hB⟩ := two_new2 w 29 29 (.int .u32 s) (.int .u16 m) (.int .u32 s') (.int .u16 m')
  generalize ((w.alloc (.cells #[.int .u32 s, .int .u16 m] 29)).alloc (.cells #[.int .u32 s', .int .u16 m'] 29)) = v at *
  have HB := Lib.hid hB
  clear hB
  have hz : w.heap.size + 1 < _ := cell_lt b0
  refine (dist_head _).mono ?_
  rintro e w1 ⟨rfl, hb⟩
  replace a0 := held hb a0; replace a1 := held hb a1; replace b0 := held hb b0; replace b1 := held hb b1
  replace hz : w.heap.size + 1 < _ := cell_lt b0
  replace HB := Lib.hid (next HB.out hb); clear hb
  go_wp2_with fail
  refine (beyond_eq (by omega) (by omega) F1.out _).mono ?_
  rintro e w2 ⟨rfl, hb⟩
  replace a0 := held hb a0; replace a1 := held hb a1; replace b0 := held hb b0; replace b1 := held hb b1
  replace hz : w.heap.size + 1 < _ := cell_lt b0
  replace HB := Lib.hid (next HB.out hb); clear hb
  go_wp2_with fail
  obtain ⟨x0, x1⟩ := two_new w2 29 (.int .u32 s) (.int .u16 65535)
  have hb := below_new w2 (.cells #[.int .u32 s, .int .u16 65535] 29)
  generalize w2.alloc (.cells #[.int .u32 s, .int .u16 65535] 29) = w3 at *
  replace a0 := held hb a0; replace a1 := held hb a1; replace b0 := held hb b0; replace b1 := held hb b1
  replace hz : w.heap.size + 1 < _ := cell_lt b0
  replace HB := Lib.hid (next HB.out hb); clear hb
  generalize w2.heap.size = g at *
  have hx : g < _ := cell_lt x0
  refine (beyond_eq h1' h2' F2.out _).mono ?_
  rintro e w4 ⟨rfl, hb⟩
  replace a0 := held hb a0; replace a1 := held hb a1; replace b0 := held hb b0; replace b1 := held hb b1; replace x0 := held hb x0; replace x1 := held hb x1
  replace hz : w.heap.size + 1 < _ := cell_lt b0
  replace hx : g < _ := cell_lt x0
  replace HB := Lib.hid (next HB.out hb); clear hb
  go_wp2_with fail
  obtain ⟨y0, y1⟩ := two_new w4 29 (.int .u32 s') (.int .u16 f2)
  have hb := below_new w4 (.cells #[.int .u32 s', .int .u16 f2] 29)
  generalize w4.alloc (.cells #[.int .u32 s', .int .u16 f2] 29) = w5 at *
  replace a0 := held hb a0; replace a1 := held hb a1; replace b0 := held hb b0; replace b1 := held hb b1; replace x0 := held hb x0; replace x1 := held hb x1
  replace hz : w.heap.size + 1 < _ := cell_lt b0
  replace hx : g < _ := cell_lt x0
  replace HB := Lib.hid (next HB.out hb); clear hb
  generalize w4.heap.size = g2 at *
  have hy : g2 < _ := cell_lt y0

  go_region_held3 (fun w' => w'.cell? ⟨w.heap.size, 0, none⟩ = some (.int .u32 s) ∧ w'.cell? ⟨w.heap.size, 1, none⟩ = some (.int .u16 m) ∧ w'.cell? ⟨g, 0, none⟩ = some (.int .u32 s) ∧ w'.cell? ⟨g, 1, none⟩ = some (.int .u16 65535) ∧ Below w5.heap.size w5 w')
    (first | exact ⟨a0, a1, x0, x1, (Below.refl _ _).drew⟩ | exact keep4 (by assumption) (by assumption) | exact keep4d (by assumption) | go_keep)
    (first | (go_at_call 14; refine (refBeyond_eq (by omega) (by omega) F1.out _).mono ?_; rintro e w' ⟨rfl, hb⟩) | (go_at_call 15; refine (lost_eq E3.out _).mono ?_; rintro e w' ⟨rfl, hb⟩))
  rename_i hH
  obtain ⟨-, -, -, -, hk⟩ := hH
  clear hb
  have hb := hk
  clear hk
  replace a0 := held hb a0; replace a1 := held hb a1; replace b0 := held hb b0; replace b1 := held hb b1; replace x0 := held hb x0; replace x1 := held hb x1; replace y0 := held hb y0; replace y1 := held hb y1
  replace hz : w.heap.size + 1 < _ := cell_lt b0
  replace hx : g < _ := cell_lt x0
  replace hy : g2 < _ := cell_lt y0
  replace HB := Lib.hid (next HB.out hb); clear hb
  go_wp2_with fail
  refine (lost_eq E4.out _).mono ?_
  rintro e w6 ⟨rfl, hb⟩
  replace a0 := held hb a0; replace a1 := held hb a1; replace b0 := held hb b0; replace b1 := held hb b1; replace x0 := held hb x0; replace x1 := held hb x1; replace y0 := held hb y0; replace y1 := held hb y1
  replace hz : w.heap.size + 1 < _ := cell_lt b0
  replace hx : g < _ := cell_lt x0
  replace hy : g2 < _ := cell_lt y0
  replace HB := Lib.hid (next HB.out hb); clear hb
  go_wp2_with fail
  refine (dist_cmp_eq E0.out _).mono ?_
  rintro e w7 ⟨rfl, hb⟩
  replace a0 := held hb a0; replace a1 := held hb a1; replace b0 := held hb b0; replace b1 := held hb b1; replace x0 := held hb x0; replace x1 := held hb x1; replace y0 := held hb y0; replace y1 := held hb y1
  replace hz : w.heap.size + 1 < _ := cell_lt b0
  replace hx : g < _ := cell_lt x0
  replace hy : g2 < _ := cell_lt y0
  replace HB := Lib.hid (next HB.out hb); clear hb
  go_wp2_with fail
  refine (dist_cmp_eq E1.out _).mono ?_
  rintro e w8 ⟨rfl, hb⟩
  replace a0 := held hb a0; replace a1 := held hb a1; replace b0 := held hb b0; replace b1 := held hb b1; replace x0 := held hb x0; replace x1 := held hb x1; replace y0 := held hb y0; replace y1 := held hb y1
  replace hz : w.heap.size + 1 < _ := cell_lt b0
  replace hx : g < _ := cell_lt x0
  replace hy : g2 < _ := cell_lt y0
  replace HB := Lib.hid (next HB.out hb); clear hb
  go_wp2_with fail
  refine (dist_cmp_eq E2.out _).mono ?_
  rintro e w9 ⟨rfl, hb⟩
  replace a0 := held hb a0; replace a1 := held hb a1; replace b0 := held hb b0; replace b1 := held hb b1; replace x0 := held hb x0; replace x1 := held hb x1; replace y0 := held hb y0; replace y1 := held hb y1
  replace hz : w.heap.size + 1 < _ := cell_lt b0
  replace hx : g < _ := cell_lt x0
  replace hy : g2 < _ := cell_lt y0
  replace HB := Lib.hid (next HB.out hb); clear hb
  go_wp2_with fail
  go_ret
  exact ⟨ret_bool (by first | rfl | (simp; done) | (simp; omega)), HB.out⟩

set_option maxHeartbeats 1000000 in
theorem links_n2b (s m s' m' c : Int) (hm : 0 ≤ m) (hm2 : m < 65535) (f : Int) (hf : far m c = f) (hf1 : m < f) (hf2 : f < 65535) (hr : dcmp s m s' m' < 0) (h1' : 0 ≤ m') (h2' : m' ≤ 65535) (w : World) :
    Calls Try.prog 5 #[.agg #[.int .u32 s, .int .u16 m], .agg #[.int .u32 s', .int .u16 m'], .int .i64 c] w fun e w' => e = .returned (.bool true) ∧ Below w.heap.size w w' := by
  have F1 := Lib.hid hf
  clear hf
  obtain ⟨f2, hf2'⟩ : ∃ r, far m' c = r := ⟨_, rfl⟩
  have F2 := Lib.hid hf2'
  clear hf2'
  obtain ⟨r, er⟩ : ∃ r, dcmp s m s' m' = r := ⟨_, rfl⟩
  rw [er] at hr
  have E1 := Lib.hid er
  clear er
  have E0 : Hid (dcmp s m s f = 1) := Lib.hid (dcmp_pos (.inr ⟨rfl, by omega⟩))
  have e3 : (f == 65535) = false := beq_eq_false_iff_ne.2 (by omega)
  have E3 : Hid ((f == 65535) = false) := Lib.hid (beq_eq_false_iff_ne.2 (by omega))
  have E4 : Hid ((m == 65535) = false) := Lib.hid (beq_eq_false_iff_ne.2 (by omega))
  go_enter Try.func5, Try.ntmps5
  go_wp2_with fail
  obtain ⟨⟨a0, a1⟩, ⟨b0, b1⟩, hB⟩ := two_new2 w 29 29 (.int .u32 s) (.int .u16 m) (.int .u32 s') (.int .u16 m')
  generalize ((w.alloc (.cells #[.int .u32 s, .int .u16 m] 29)).alloc (.cells #[.int .u32 s', .int .u16 m'] 29)) = v at *
  have HB := Lib.hid hB
  clear hB
  have hz : w.heap.size + 1 < _ := cell_lt b0
  refine (dist_head _).mono ?_
  rintro e w1 ⟨rfl, hb⟩
  replace a0 := held hb a0; replace a1 := held hb a1; replace b0 := held hb b0; replace b1 := held hb b1
  replace hz : w.heap.size + 1 < _ := cell_lt b0
  replace HB := Lib.hid (next HB.out hb); clear hb
  go_wp2_with fail
  refine (beyond_eq (by omega) (by omega) F1.out _).mono ?_
  rintro e w2 ⟨rfl, hb⟩
  replace a0 := held hb a0; replace a1 := held hb a1; replace b0 := held hb b0; replace b1 := held hb b1
  replace hz : w.heap.size + 1 < _ := cell_lt b0
  replace HB := Lib.hid (next HB.out hb); clear hb
  go_wp2_with fail
  obtain ⟨x0, x1⟩ := two_new w2 29 (.int .u32 s) (.int .u16 f)
  have hb := below_new w2 (.cells #[.int .u32 s, .int .u16 f] 29)
  generalize w2.alloc (.cells #[.int .u32 s, .int .u16 f] 29) = w3 at *
  replace a0 := held hb a0; replace a1 := held hb a1; replace b0 := held hb b0; replace b1 := held hb b1
  replace hz : w.heap.size + 1 < _ := cell_lt b0
  replace HB := Lib.hid (next HB.out hb); clear hb
  generalize w2.heap.size = g at *
  have hx : g < _ := cell_lt x0
  refine (beyond_eq h1' h2' F2.out _).mono ?_
  rintro e w4 ⟨rfl, hb⟩
  replace a0 := held hb a0; replace a1 := held hb a1; replace b0 := held hb b0; replace b1 := held hb b1; replace x0 := held hb x0; replace x1 := held hb x1
  replace hz : w.heap.size + 1 < _ := cell_lt b0
  replace hx : g < _ := cell_lt x0
  replace HB := Lib.hid (next HB.out hb); clear hb
  go_wp2_with fail
  obtain ⟨y0, y1⟩ := two_new w4 29 (.int .u32 s') (.int .u16 f2)
  have hb := below_new w4 (.cells #[.int .u32 s', .int .u16 f2] 29)
  generalize w4.alloc (.cells #[.int .u32 s', .int .u16 f2] 29) = w5 at *
  replace a0 := held hb a0; replace a1 := held hb a1; replace b0 := held hb b0; replace b1 := held hb b1; replace x0 := held hb x0; replace x1 := held hb x1
  replace hz : w.heap.size + 1 < _ := cell_lt b0
  replace hx : g < _ := cell_lt x0
  replace HB := Lib.hid (next HB.out hb); clear hb
  generalize w4.heap.size = g2 at *
  have hy : g2 < _ := cell_lt y0

  go_region_held3 (fun w' => w'.cell? ⟨w.heap.size, 0, none⟩ = some (.int .u32 s) ∧ w'.cell? ⟨w.heap.size, 1, none⟩ = some (.int .u16 m) ∧ w'.cell? ⟨g, 0, none⟩ = some (.int .u32 s) ∧ w'.cell? ⟨g, 1, none⟩ = some (.int .u16 f) ∧ Below w5.heap.size w5 w')
    (first | exact ⟨a0, a1, x0, x1, (Below.refl _ _).drew⟩ | exact keep4 (by assumption) (by assumption) | exact keep4d (by assumption) | go_keep)
    (first | (go_at_call 14; refine (refBeyond_eq (by omega) (by omega) F1.out _).mono ?_; rintro e w' ⟨rfl, hb⟩) | (go_at_call 15; refine (lost_eq E3.out _).mono ?_; rintro e w' ⟨rfl, hb⟩))
  rename_i hH
  obtain ⟨-, -, -, -, hk⟩ := hH
  clear hb
  have hb := hk
  clear hk
  replace a0 := held hb a0; replace a1 := held hb a1; replace b0 := held hb b0; replace b1 := held hb b1; replace x0 := held hb x0; replace x1 := held hb x1; replace y0 := held hb y0; replace y1 := held hb y1
  replace hz : w.heap.size + 1 < _ := cell_lt b0
  replace hx : g < _ := cell_lt x0
  replace hy : g2 < _ := cell_lt y0
  replace HB := Lib.hid (next HB.out hb); clear hb
  go_wp2_with fail
  refine (lost_eq E4.out _).mono ?_
  rintro e w6 ⟨rfl, hb⟩
  replace a0 := held hb a0; replace a1 := held hb a1; replace b0 := held hb b0; replace b1 := held hb b1; replace x0 := held hb x0; replace x1 := held hb x1; replace y0 := held hb y0; replace y1 := held hb y1
  replace hz : w.heap.size + 1 < _ := cell_lt b0
  replace hx : g < _ := cell_lt x0
  replace hy : g2 < _ := cell_lt y0
  replace HB := Lib.hid (next HB.out hb); clear hb
  go_wp2_with fail
  refine (dist_cmp_eq E0.out _).mono ?_
  rintro e w7 ⟨rfl, hb⟩
  replace a0 := held hb a0; replace a1 := held hb a1; replace b0 := held hb b0; replace b1 := held hb b1; replace x0 := held hb x0; replace x1 := held hb x1; replace y0 := held hb y0; replace y1 := held hb y1
  replace hz : w.heap.size + 1 < _ := cell_lt b0
  replace hx : g < _ := cell_lt x0
  replace hy : g2 < _ := cell_lt y0
  replace HB := Lib.hid (next HB.out hb); clear hb
  go_wp2_with fail
  refine (dist_cmp_eq E1.out _).mono ?_
  rintro e w8 ⟨rfl, hb⟩
  replace a0 := held hb a0; replace a1 := held hb a1; replace b0 := held hb b0; replace b1 := held hb b1; replace x0 := held hb x0; replace x1 := held hb x1; replace y0 := held hb y0; replace y1 := held hb y1
  replace hz : w.heap.size + 1 < _ := cell_lt b0
  replace hx : g < _ := cell_lt x0
  replace hy : g2 < _ := cell_lt y0
  replace HB := Lib.hid (next HB.out hb); clear hb
  go_wp2_with fail
  go_ret
  exact ⟨ret_bool (by first | rfl | (simp; done) | (simp; omega)), HB.out⟩

set_option maxHeartbeats 1000000 in
theorem links_n2c (s m s' m' c : Int) (hm : 0 ≤ m) (hm2 : m < 65535) (f : Int) (hf : far m c = f) (hf1 : m < f) (hf2 : f < 65535) (hr : 0 ≤ dcmp s m s' m') (hr2 : 0 ≤ dcmp s (far m c) s' (far m' c)) (h1' : 0 ≤ m') (h2' : m' ≤ 65535) (w : World) :
    Calls Try.prog 5 #[.agg #[.int .u32 s, .int .u16 m], .agg #[.int .u32 s', .int .u16 m'], .int .i64 c] w fun e w' => e = .returned (.bool true) ∧ Below w.heap.size w w' := by
  have F1 := Lib.hid hf
  rw [hf] at hr2
  clear hf
  obtain ⟨f2, hf2'⟩ : ∃ r, far m' c = r := ⟨_, rfl⟩
  rw [hf2'] at hr2
  have F2 := Lib.hid hf2'
  clear hf2'
  obtain ⟨r, er⟩ : ∃ r, dcmp s m s' m' = r := ⟨_, rfl⟩
  rw [er] at hr
  have E1 := Lib.hid er
  clear er
  have E0 : Hid (dcmp s m s f = 1) := Lib.hid (dcmp_pos (.inr ⟨rfl, by omega⟩))
  obtain ⟨r2, er⟩ : ∃ r, dcmp s f s' f2 = r := ⟨_, rfl⟩
  rw [er] at hr2
  have E2 := Lib.hid er
  clear er
  have e3 : (f == 65535) = false := beq_eq_false_iff_ne.2 (by omega)
  have E3 : Hid ((f == 65535) = false) := Lib.hid (beq_eq_false_iff_ne.2 (by omega))
  have E4 : Hid ((m == 65535) = false) := Lib.hid (beq_eq_false_iff_ne.2 (by omega))
  go_enter Try.func5, Try.ntmps5
  go_wp2_with fail
  obtain ⟨⟨a0, a1⟩, ⟨b0, b1⟩, hB⟩ := two_new2 w 29 29 (.int .u32 s) (.int .u16 m) (.int .u32 s') (.int .u16 m')
  generalize ((w.alloc (.cells #[.int .u32 s, .int .u16 m] 29)).alloc (.cells #[.int .u32 s', .int .u16 m'] 29)) = v at *
  have HB := Lib.hid hB
  clear hB
  have hz : w.heap.size + 1 < _ := cell_lt b0
  refine (dist_head _).mono ?_
  rintro e w1 ⟨rfl, hb⟩
  replace a0 := held hb a0; replace a1 := held hb a1; replace b0 := held hb b0; replace b1 := held hb b1
  replace hz : w.heap.size + 1 < _ := cell_lt b0
  replace HB := Lib.hid (next HB.out hb); clear hb
  go_wp2_with fail
  refine (beyond_eq (by omega) (by omega) F1.out _).mono ?_
  rintro e w2 ⟨rfl, hb⟩
  replace a0 := held hb a0; replace a1 := held hb a1; replace b0 := held hb b0; replace b1 := held hb b1
  replace hz : w.heap.size + 1 < _ := cell_lt b0
  replace HB := Lib.hid (next HB.out hb); clear hb
  go_wp2_with fail
  obtain ⟨x0, x1⟩ := two_new w2 29 (.int .u32 s) (.int .u16 f)
  have hb := below_new w2 (.cells #[.int .u32 s, .int .u16 f] 29)
  generalize w2.alloc (.cells #[.int .u32 s, .int .u16 f] 29) = w3 at *
  replace a0 := held hb a0; replace a1 := held hb a1; replace b0 := held hb b0; replace b1 := held hb b1
  replace hz : w.heap.size + 1 < _ := cell_lt b0
  replace HB := Lib.hid (next HB.out hb); clear hb
  generalize w2.heap.size = g at *
  have hx : g < _ := cell_lt x0
  refine (beyond_eq h1' h2' F2.out _).mono ?_
  rintro e w4 ⟨rfl, hb⟩
  replace a0 := held hb a0; replace a1 := held hb a1; replace b0 := held hb b0; replace b1 := held hb b1; replace x0 := held hb x0; replace x1 := held hb x1
  replace hz : w.heap.size + 1 < _ := cell_lt b0
  replace hx : g < _ := cell_lt x0
  replace HB := Lib.hid (next HB.out hb); clear hb
  go_wp2_with fail
  obtain ⟨y0, y1⟩ := two_new w4 29 (.int .u32 s') (.int .u16 f2)
  have hb := below_new w4 (.cells #[.int .u32 s', .int .u16 f2] 29)
  generalize w4.alloc (.cells #[.int .u32 s', .int .u16 f2] 29) = w5 at *
  replace a0 := held hb a0; replace a1 := held hb a1; replace b0 := held hb b0; replace b1 := held hb b1; replace x0 := held hb x0; replace x1 := held hb x1
  replace hz : w.heap.size + 1 < _ := cell_lt b0
  replace hx : g < _ := cell_lt x0
  replace HB := Lib.hid (next HB.out hb); clear hb
  generalize w4.heap.size = g2 at *
  have hy : g2 < _ := cell_lt y0

  go_region_held3 (fun w' => w'.cell? ⟨w.heap.size, 0, none⟩ = some (.int .u32 s) ∧ w'.cell? ⟨w.heap.size, 1, none⟩ = some (.int .u16 m) ∧ w'.cell? ⟨g, 0, none⟩ = some (.int .u32 s) ∧ w'.cell? ⟨g, 1, none⟩ = some (.int .u16 f) ∧ Below w5.heap.size w5 w')
    (first | exact ⟨a0, a1, x0, x1, (Below.refl _ _).drew⟩ | exact keep4 (by assumption) (by assumption) | exact keep4d (by assumption) | go_keep)
    (first | (go_at_call 14; refine (refBeyond_eq (by omega) (by omega) F1.out _).mono ?_; rintro e w' ⟨rfl, hb⟩) | (go_at_call 15; refine (lost_eq E3.out _).mono ?_; rintro e w' ⟨rfl, hb⟩))
  rename_i hH
  obtain ⟨-, -, -, -, hk⟩ := hH
  clear hb
  have hb := hk
  clear hk
  replace a0 := held hb a0; replace a1 := held hb a1; replace b0 := held hb b0; replace b1 := held hb b1; replace x0 := held hb x0; replace x1 := held hb x1; replace y0 := held hb y0; replace y1 := held hb y1
  replace hz : w.heap.size + 1 < _ := cell_lt b0
  replace hx : g < _ := cell_lt x0
  replace hy : g2 < _ := cell_lt y0
  replace HB := Lib.hid (next HB.out hb); clear hb
  go_wp2_with fail
  refine (lost_eq E4.out _).mono ?_
  rintro e w6 ⟨rfl, hb⟩
  replace a0 := held hb a0; replace a1 := held hb a1; replace b0 := held hb b0; replace b1 := held hb b1; replace x0 := held hb x0; replace x1 := held hb x1; replace y0 := held hb y0; replace y1 := held hb y1
  replace hz : w.heap.size + 1 < _ := cell_lt b0
  replace hx : g < _ := cell_lt x0
  replace hy : g2 < _ := cell_lt y0
  replace HB := Lib.hid (next HB.out hb); clear hb
  go_wp2_with fail
  refine (dist_cmp_eq E0.out _).mono ?_
  rintro e w7 ⟨rfl, hb⟩
  replace a0 := held hb a0; replace a1 := held hb a1; replace b0 := held hb b0; replace b1 := held hb b1; replace x0 := held hb x0; replace x1 := held hb x1; replace y0 := held hb y0; replace y1 := held hb y1
  replace hz : w.heap.size + 1 < _ := cell_lt b0
  replace hx : g < _ := cell_lt x0
  replace hy : g2 < _ := cell_lt y0
  replace HB := Lib.hid (next HB.out hb); clear hb
  go_wp2_with fail
  refine (dist_cmp_eq E1.out _).mono ?_
  rintro e w8 ⟨rfl, hb⟩
  replace a0 := held hb a0; replace a1 := held hb a1; replace b0 := held hb b0; replace b1 := held hb b1; replace x0 := held hb x0; replace x1 := held hb x1; replace y0 := held hb y0; replace y1 := held hb y1
  replace hz : w.heap.size + 1 < _ := cell_lt b0
  replace hx : g < _ := cell_lt x0
  replace hy : g2 < _ := cell_lt y0
  replace HB := Lib.hid (next HB.out hb); clear hb
  go_wp2_with fail
  refine (dist_cmp_eq E2.out _).mono ?_
  rintro e w9 ⟨rfl, hb⟩
  replace a0 := held hb a0; replace a1 := held hb a1; replace b0 := held hb b0; replace b1 := held hb b1; replace x0 := held hb x0; replace x1 := held hb x1; replace y0 := held hb y0; replace y1 := held hb y1
  replace hz : w.heap.size + 1 < _ := cell_lt b0
  replace hx : g < _ := cell_lt x0
  replace hy : g2 < _ := cell_lt y0
  replace HB := Lib.hid (next HB.out hb); clear hb
  go_wp2_with fail
  go_ret
  exact ⟨ret_bool (by first | rfl | (simp; done) | (simp; omega)), HB.out⟩

theorem links_any (s m s' m' c : Int) (h1 : 0 ≤ m) (h2 : m ≤ 65535) (h1' : 0 ≤ m') (h2' : m' ≤ 65535) (w : World) :
    Calls Try.prog 5 #[.agg #[.int .u32 s, .int .u16 m], .agg #[.int .u32 s', .int .u16 m'], .int .i64 c] w fun e w' => e = .returned (.bool true) ∧ Below w.heap.size w w' := by
  by_cases hl : m = 65535
  · subst hl
    exact links_lost s s' m' c h1' h2' w
  · have hf := far_more c h1 (by omega)
    by_cases hf2 : far m c = 65535 <;> by_cases hr : dcmp s m s' m' < 0
    · exact links_n1b s m s' m' c h1 (by omega) hf2 hr h1' h2' w
    · exact links_n1c s m s' m' c h1 (by omega) hf2 (by omega) (links_keep c hr) h1' h2' w
    · exact links_n2b s m s' m' c h1 (by omega) _ rfl hf.1 (by omega) hr h1' h2' w
    · exact links_n2c s m s' m' c h1 (by omega) _ rfl hf.1 (by omega) (by omega) (links_keep c hr) h1' h2' w
end Go.Proofs.Ytclfchdgagpahaa
