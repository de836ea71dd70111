/-
  DistOrders: whatever three distances: Compare is the order that the statement spells out, and it goes through. No condition.
-/
import Derived.Test.YtclfchdgagpahaaRows
import Derived.Test.YtclfchdgagpahaaLaw
import Derived.Test.YtclfchdgagpahaaDistH
namespace Go.Proofs.Ytclfchdgagpahaa
open Go.ChangeShapes Go.WideShapes Go.ChangeAt Go.RowKit

theorem dcmp_cases (s m s' m' : Int) : ((s < s' ∨ s = s' ∧ m' < m) ∧ dcmp s m s' m' = -1) ∨ (s = s' ∧ m = m' ∧ dcmp s m s' m' = 0) ∨ ((s' < s ∨ s = s' ∧ m < m') ∧ dcmp s m s' m' = 1) := by
  by_cases h : s < s' ∨ s = s' ∧ m' < m
  · exact .inl ⟨h, dcmp_neg h⟩
  · by_cases h' : s' < s ∨ s = s' ∧ m < m'
    · exact .inr (.inr ⟨h', dcmp_pos h'⟩)
    · obtain rfl : s = s' := by omega
      obtain rfl : m = m' := by omega
      exact .inr (.inl ⟨rfl, rfl, dcmp_self s m⟩)
theorem dcmp_through {s m s' m' s'' m'' : Int} (h1 : ¬ dcmp s m s' m' < 0) (h2 : ¬ dcmp s' m' s'' m'' < 0) : 0 ≤ dcmp s m s'' m'' := by
  rcases dcmp_cases s m s' m' with ⟨a, e⟩ | ⟨a, a', e⟩ | ⟨a, e⟩ <;> rcases dcmp_cases s' m' s'' m'' with ⟨b, e'⟩ | ⟨b, b', e'⟩ | ⟨b, e'⟩ <;> rcases dcmp_cases s m s'' m'' with ⟨c, e''⟩ | ⟨c, c', e''⟩ | ⟨c, e''⟩ <;> omega
theorem wrap_neg1 : IntKind.i64.wrap (-1) = -1 := by decide

set_option maxHeartbeats 1000000 in
theorem orders_gt1b (s m s' m' s'' m'' : Int) (h : s' < s) (h2 : dcmp s' m' s'' m'' < 0) (w : World) :
    Calls Try.prog 4 #[.agg #[.int .u32 s, .int .u16 m], .agg #[.int .u32 s', .int .u16 m'], .agg #[.int .u32 s'', .int .u16 m'']] w fun e w' => e = .returned (.bool true) ∧ Below w.heap.size w w' := by
  have e1 := Lib.hid (better_yes (s := s) (m := m) (s' := s') (m' := m') (by omega))
  have e2 := Lib.hid (better_no (s := s') (m := m') (s' := s) (m' := m) (by omega))
  have e3 := Lib.hid (dcmp_pos (s := s) (m := m) (s' := s') (m' := m') (by omega))
  have e4 := Lib.hid (dcmp_neg (s := s') (m := m') (s' := s) (m' := m) (by omega))
  obtain ⟨r2, e5⟩ : ∃ r, dcmp s' m' s'' m'' = r := ⟨_, rfl⟩
  rw [e5] at h2
  replace e5 := Lib.hid e5
  go_enter Try.func4, Try.ntmps4
  go_wp2_with fail
  obtain ⟨⟨a0, a1⟩, ⟨b0, b1⟩, ⟨c0, c1⟩, hB⟩ := three_new w 29 29 29 (.int .u32 s) (.int .u16 m) (.int .u32 s') (.int .u16 m') (.int .u32 s'') (.int .u16 m'')
  generalize ((w.alloc (.cells #[.int .u32 s, .int .u16 m] 29)).alloc (.cells #[.int .u32 s', .int .u16 m'] 29)).alloc (.cells #[.int .u32 s'', .int .u16 m''] 29) = v at *
  have HB := Lib.hid hB
  clear hB
  refine (dist_head _).mono ?_
  rintro e w1 ⟨rfl, hb⟩
  replace a0 := held hb a0; replace a1 := held hb a1; replace b0 := held hb b0; replace b1 := held hb b1; replace c0 := held hb c0; replace c1 := held hb c1
  replace HB := Lib.hid (next HB.out hb); clear hb
  go_wp2_with fail
  refine (better_eq e1.out _).mono ?_
  rintro e w2 ⟨rfl, hb⟩
  replace a0 := held hb a0; replace a1 := held hb a1; replace b0 := held hb b0; replace b1 := held hb b1; replace c0 := held hb c0; replace c1 := held hb c1
  replace HB := Lib.hid (next HB.out hb); clear hb
  go_wp2_with fail
  refine (better_eq e2.out _).mono ?_
  rintro e w3 ⟨rfl, hb⟩
  replace a0 := held hb a0; replace a1 := held hb a1; replace b0 := held hb b0; replace b1 := held hb b1; replace c0 := held hb c0; replace c1 := held hb c1
  replace HB := Lib.hid (next HB.out hb); clear hb
  go_wp2_with fail
  refine (dist_cmp_eq e3.out _).mono ?_
  rintro e w4 ⟨rfl, hb⟩
  replace a0 := held hb a0; replace a1 := held hb a1; replace b0 := held hb b0; replace b1 := held hb b1; replace c0 := held hb c0; replace c1 := held hb c1
  replace HB := Lib.hid (next HB.out hb); clear hb
  go_wp2_with fail
  refine (dist_cmp_eq e4.out _).mono ?_
  rintro e w5 ⟨rfl, hb⟩
  replace a0 := held hb a0; replace a1 := held hb a1; replace b0 := held hb b0; replace b1 := held hb b1; replace c0 := held hb c0; replace c1 := held hb c1
  replace HB := Lib.hid (next HB.out hb); clear hb
  go_wp2_with fail
  refine (dist_cmp_eq e3.out _).mono ?_
  rintro e w6 ⟨rfl, hb⟩
  replace a0 := held hb a0; replace a1 := held hb a1; replace b0 := held hb b0; replace b1 := held hb b1; replace c0 := held hb c0; replace c1 := held hb c1
  replace HB := Lib.hid (next HB.out hb); clear hb
  go_wp2_with fail
  refine (dist_cmp_eq e5.out _).mono ?_
  rintro e w7 ⟨rfl, hb⟩
  replace a0 := held hb a0; replace a1 := held hb a1; replace b0 := held hb b0; replace b1 := held hb b1; replace c0 := held hb c0; replace c1 := held hb c1
  replace HB := Lib.hid (next HB.out hb); clear hb
  go_wp2_with fail
  go_ret
  exact ⟨ret_bool (by first | rfl | (simp; done) | (simp; omega)), HB.out⟩

set_option maxHeartbeats 1000000 in
theorem orders_gt1c (s m s' m' s'' m'' : Int) (h : s' < s) (h2 : 0 ≤ dcmp s' m' s'' m'') (h3 : 0 ≤ dcmp s m s'' m'') (w : World) :
    Calls Try.prog 4 #[.agg #[.int .u32 s, .int .u16 m], .agg #[.int .u32 s', .int .u16 m'], .agg #[.int .u32 s'', .int .u16 m'']] w fun e w' => e = .returned (.bool true) ∧ Below w.heap.size w w' := by
  have e1 := Lib.hid (better_yes (s := s) (m := m) (s' := s') (m' := m') (by omega))
  have e2 := Lib.hid (better_no (s := s') (m := m') (s' := s) (m' := m) (by omega))
  have e3 := Lib.hid (dcmp_pos (s := s) (m := m) (s' := s') (m' := m') (by omega))
  have e4 := Lib.hid (dcmp_neg (s := s') (m := m') (s' := s) (m' := m) (by omega))
  obtain ⟨r2, e5⟩ : ∃ r, dcmp s' m' s'' m'' = r := ⟨_, rfl⟩
  obtain ⟨r3, e6⟩ : ∃ r, dcmp s m s'' m'' = r := ⟨_, rfl⟩
  rw [e5] at h2
  rw [e6] at h3
  replace e5 := Lib.hid e5
  replace e6 := Lib.hid e6
  go_enter Try.func4, Try.ntmps4
  go_wp2_with fail
  obtain ⟨⟨a0, a1⟩, ⟨b0, b1⟩, ⟨c0, c1⟩, hB⟩ := three_new w 29 29 29 (.int .u32 s) (.int .u16 m) (.int .u32 s') (.int .u16 m') (.int .u32 s'') (.int .u16 m'')
  generalize ((w.alloc (.cells #[.int .u32 s, .int .u16 m] 29)).alloc (.cells #[.int .u32 s', .int .u16 m'] 29)).alloc (.cells #[.int .u32 s'', .int .u16 m''] 29) = v at *
  have HB := Lib.hid hB
  clear hB
  refine (dist_head _).mono ?_
  rintro e w1 ⟨rfl, hb⟩
  replace a0 := held hb a0; replace a1 := held hb a1; replace b0 := held hb b0; replace b1 := held hb b1; replace c0 := held hb c0; replace c1 := held hb c1
  replace HB := Lib.hid (next HB.out hb); clear hb
  go_wp2_with fail
  refine (better_eq e1.out _).mono ?_
  rintro e w2 ⟨rfl, hb⟩
  replace a0 := held hb a0; replace a1 := held hb a1; replace b0 := held hb b0; replace b1 := held hb b1; replace c0 := held hb c0; replace c1 := held hb c1
  replace HB := Lib.hid (next HB.out hb); clear hb
  go_wp2_with fail
  refine (better_eq e2.out _).mono ?_
  rintro e w3 ⟨rfl, hb⟩
  replace a0 := held hb a0; replace a1 := held hb a1; replace b0 := held hb b0; replace b1 := held hb b1; replace c0 := held hb c0; replace c1 := held hb c1
  replace HB := Lib.hid (next HB.out hb); clear hb
  go_wp2_with fail
  refine (dist_cmp_eq e3.out _).mono ?_
  rintro e w4 ⟨rfl, hb⟩
  replace a0 := held hb a0; replace a1 := held hb a1; replace b0 := held hb b0; replace b1 := held hb b1; replace c0 := held hb c0; replace c1 := held hb c1
  replace HB := Lib.hid (next HB.out hb); clear hb
  go_wp2_with fail
  refine (dist_cmp_eq e4.out _).mono ?_
  rintro e w5 ⟨rfl, hb⟩
  replace a0 := held hb a0; replace a1 := held hb a1; replace b0 := held hb b0; replace b1 := held hb b1; replace c0 := held hb c0; replace c1 := held hb c1
  replace HB := Lib.hid (next HB.out hb); clear hb
  go_wp2_with fail
  refine (dist_cmp_eq e3.out _).mono ?_
  rintro e w6 ⟨rfl, hb⟩
  replace a0 := held hb a0; replace a1 := held hb a1; replace b0 := held hb b0; replace b1 := held hb b1; replace c0 := held hb c0; replace c1 := held hb c1
  replace HB := Lib.hid (next HB.out hb); clear hb
  go_wp2_with fail
  refine (dist_cmp_eq e5.out _).mono ?_
  rintro e w7 ⟨rfl, hb⟩
  replace a0 := held hb a0; replace a1 := held hb a1; replace b0 := held hb b0; replace b1 := held hb b1; replace c0 := held hb c0; replace c1 := held hb c1
  replace HB := Lib.hid (next HB.out hb); clear hb
  go_wp2_with fail
  refine (dist_cmp_eq e6.out _).mono ?_
  rintro e w8 ⟨rfl, hb⟩
  replace a0 := held hb a0; replace a1 := held hb a1; replace b0 := held hb b0; replace b1 := held hb b1; replace c0 := held hb c0; replace c1 := held hb c1
  replace HB := Lib.hid (next HB.out hb); clear hb
  go_wp2_with fail
  go_ret
  exact ⟨ret_bool (by first | rfl | (simp; done) | (simp; omega)), HB.out⟩

set_option maxHeartbeats 1000000 in
theorem orders_gt2b (s m m' s'' m'' : Int) (h : m < m') (h2 : dcmp s m' s'' m'' < 0) (w : World) :
    Calls Try.prog 4 #[.agg #[.int .u32 s, .int .u16 m], .agg #[.int .u32 s, .int .u16 m'], .agg #[.int .u32 s'', .int .u16 m'']] w fun e w' => e = .returned (.bool true) ∧ Below w.heap.size w w' := by
  have e1 := Lib.hid (better_yes (s := s) (m := m) (s' := s) (m' := m') (by omega))
  have e2 := Lib.hid (better_no (s := s) (m := m') (s' := s) (m' := m) (by omega))
  have e3 := Lib.hid (dcmp_pos (s := s) (m := m) (s' := s) (m' := m') (by omega))
  have e4 := Lib.hid (dcmp_neg (s := s) (m := m') (s' := s) (m' := m) (by omega))
  obtain ⟨r2, e5⟩ : ∃ r, dcmp s m' s'' m'' = r := ⟨_, rfl⟩
  rw [e5] at h2
  replace e5 := Lib.hid e5
  go_enter Try.func4, Try.ntmps4
  go_wp2_with fail
  obtain ⟨⟨a0, a1⟩, ⟨b0, b1⟩, ⟨c0, c1⟩, hB⟩ := three_new w 29 29 29 (.int .u32 s) (.int .u16 m) (.int .u32 s) (.int .u16 m') (.int .u32 s'') (.int .u16 m'')
  generalize ((w.alloc (.cells #[.int .u32 s, .int .u16 m] 29)).alloc (.cells #[.int .u32 s, .int .u16 m'] 29)).alloc (.cells #[.int .u32 s'', .int .u16 m''] 29) = v at *
  have HB := Lib.hid hB
  clear hB
  refine (dist_head _).mono ?_
  rintro e w1 ⟨rfl, hb⟩
  replace a0 := held hb a0; replace a1 := held hb a1; replace b0 := held hb b0; replace b1 := held hb b1; replace c0 := held hb c0; replace c1 := held hb c1
  replace HB := Lib.hid (next HB.out hb); clear hb
  go_wp2_with fail
  refine (better_eq e1.out _).mono ?_
  rintro e w2 ⟨rfl, hb⟩
  replace a0 := held hb a0; replace a1 := held hb a1; replace b0 := held hb b0; replace b1 := held hb b1; replace c0 := held hb c0; replace c1 := held hb c1
  replace HB := Lib.hid (next HB.out hb); clear hb
  go_wp2_with fail
  refine (better_eq e2.out _).mono ?_
  rintro e w3 ⟨rfl, hb⟩
  replace a0 := held hb a0; replace a1 := held hb a1; replace b0 := held hb b0; replace b1 := held hb b1; replace c0 := held hb c0; replace c1 := held hb c1
  replace HB := Lib.hid (next HB.out hb); clear hb
  go_wp2_with fail
  refine (dist_cmp_eq e3.out _).mono ?_
  rintro e w4 ⟨rfl, hb⟩
  replace a0 := held hb a0; replace a1 := held hb a1; replace b0 := held hb b0; replace b1 := held hb b1; replace c0 := held hb c0; replace c1 := held hb c1
  replace HB := Lib.hid (next HB.out hb); clear hb
  go_wp2_with fail
  refine (dist_cmp_eq e4.out _).mono ?_
  rintro e w5 ⟨rfl, hb⟩
  replace a0 := held hb a0; replace a1 := held hb a1; replace b0 := held hb b0; replace b1 := held hb b1; replace c0 := held hb c0; replace c1 := held hb c1
  replace HB := Lib.hid (next HB.out hb); clear hb
  go_wp2_with fail
  refine (dist_cmp_eq e3.out _).mono ?_
  rintro e w6 ⟨rfl, hb⟩
  replace a0 := held hb a0; replace a1 := held hb a1; replace b0 := held hb b0; replace b1 := held hb b1; replace c0 := held hb c0; replace c1 := held hb c1
  replace HB := Lib.hid (next HB.out hb); clear hb
  go_wp2_with fail
  refine (dist_cmp_eq e5.out _).mono ?_
  rintro e w7 ⟨rfl, hb⟩
  replace a0 := held hb a0; replace a1 := held hb a1; replace b0 := held hb b0; replace b1 := held hb b1; replace c0 := held hb c0; replace c1 := held hb c1
  replace HB := Lib.hid (next HB.out hb); clear hb
  go_wp2_with fail
  go_ret
  exact ⟨ret_bool (by first | rfl | (simp; done) | (simp; omega)), HB.out⟩

set_option maxHeartbeats 1000000 in
theorem orders_gt2c (s m m' s'' m'' : Int) (h : m < m') (h2 : 0 ≤ dcmp s m' s'' m'') (h3 : 0 ≤ dcmp s m s'' m'') (w : World) :
    Calls Try.prog 4 #[.agg #[.int .u32 s, .int .u16 m], .agg #[.int .u32 s, .int .u16 m'], .agg #[.int .u32 s'', .int .u16 m'']] w fun e w' => e = .returned (.bool true) ∧ Below w.heap.size w w' := by
  have e1 := Lib.hid (better_yes (s := s) (m := m) (s' := s) (m' := m') (by omega))
  have e2 := Lib.hid (better_no (s := s) (m := m') (s' := s) (m' := m) (by omega))
  have e3 := Lib.hid (dcmp_pos (s := s) (m := m) (s' := s) (m' := m') (by omega))
  have e4 := Lib.hid (dcmp_neg (s := s) (m := m') (s' := s) (m' := m) (by omega))
  obtain ⟨r2, e5⟩ : ∃ r, dcmp s m' s'' m'' = r := ⟨_, rfl⟩
  obtain ⟨r3, e6⟩ : ∃ r, dcmp s m s'' m'' = r := ⟨_, rfl⟩
  rw [e5] at h2
  rw [e6] at h3
  replace e5 := Lib.hid e5
  replace e6 := Lib.hid e6
  go_enter Try.func4, Try.ntmps4
  go_wp2_with fail
  obtain ⟨⟨a0, a1⟩, ⟨b0, b1⟩, ⟨c0, c1⟩, hB⟩ := three_new w 29 29 29 (.int .u32 s) (.int .u16 m) (.int .u32 s) (.int .u16 m') (.int .u32 s'') (.int .u16 m'')
  generalize ((w.alloc (.cells #[.int .u32 s, .int .u16 m] 29)).alloc (.cells #[.int .u32 s, .int .u16 m'] 29)).alloc (.cells #[.int .u32 s'', .int .u16 m''] 29) = v at *
  have HB := Lib.hid hB
  clear hB
  refine (dist_head _).mono ?_
  rintro e w1 ⟨rfl, hb⟩
  replace a0 := held hb a0; replace a1 := held hb a1; replace b0 := held hb b0; replace b1 := held hb b1; replace c0 := held hb c0; replace c1 := held hb c1
  replace HB := Lib.hid (next HB.out hb); clear hb
  go_wp2_with fail
  refine (better_eq e1.out _).mono ?_
  rintro e w2 ⟨rfl, hb⟩
  replace a0 := held hb a0; replace a1 := held hb a1; replace b0 := held hb b0; replace b1 := held hb b1; replace c0 := held hb c0; replace c1 := held hb c1
  replace HB := Lib.hid (next HB.out hb); clear hb
  go_wp2_with fail
  refine (better_eq e2.out _).mono ?_
  rintro e w3 ⟨rfl, hb⟩
  replace a0 := held hb a0; replace a1 := held hb a1; replace b0 := held hb b0; replace b1 := held hb b1; replace c0 := held hb c0; replace c1 := held hb c1
  replace HB := Lib.hid (next HB.out hb); clear hb
  go_wp2_with fail
  refine (dist_cmp_eq e3.out _).mono ?_
  rintro e w4 ⟨rfl, hb⟩
  replace a0 := held hb a0; replace a1 := held hb a1; replace b0 := held hb b0; replace b1 := held hb b1; replace c0 := held hb c0; replace c1 := held hb c1
  replace HB := Lib.hid (next HB.out hb); clear hb
  go_wp2_with fail
  refine (dist_cmp_eq e4.out _).mono ?_
  rintro e w5 ⟨rfl, hb⟩
  replace a0 := held hb a0; replace a1 := held hb a1; replace b0 := held hb b0; replace b1 := held hb b1; replace c0 := held hb c0; replace c1 := held hb c1
  replace HB := Lib.hid (next HB.out hb); clear hb
  go_wp2_with fail
  refine (dist_cmp_eq e3.out _).mono ?_
  rintro e w6 ⟨rfl, hb⟩
  replace a0 := held hb a0; replace a1 := held hb a1; replace b0 := held hb b0; replace b1 := held hb b1; replace c0 := held hb c0; replace c1 := held hb c1
  replace HB := Lib.hid (next HB.out hb); clear hb
  go_wp2_with fail
  refine (dist_cmp_eq e5.out _).mono ?_
  rintro e w7 ⟨rfl, hb⟩
  replace a0 := held hb a0; replace a1 := held hb a1; replace b0 := held hb b0; replace b1 := held hb b1; replace c0 := held hb c0; replace c1 := held hb c1
  replace HB := Lib.hid (next HB.out hb); clear hb
  go_wp2_with fail
  refine (dist_cmp_eq e6.out _).mono ?_
  rintro e w8 ⟨rfl, hb⟩
  replace a0 := held hb a0; replace a1 := held hb a1; replace b0 := held hb b0; replace b1 := held hb b1; replace c0 := held hb c0; replace c1 := held hb c1
  replace HB := Lib.hid (next HB.out hb); clear hb
  go_wp2_with fail
  go_ret
  exact ⟨ret_bool (by first | rfl | (simp; done) | (simp; omega)), HB.out⟩

set_option maxHeartbeats 1000000 in
theorem orders_eqb (s m  s'' m'' : Int)  (h2 : dcmp s m s'' m'' < 0) (w : World) :
    Calls Try.prog 4 #[.agg #[.int .u32 s, .int .u16 m], .agg #[.int .u32 s, .int .u16 m], .agg #[.int .u32 s'', .int .u16 m'']] w fun e w' => e = .returned (.bool true) ∧ Below w.heap.size w w' := by
  have e1 := Lib.hid (better_no (s := s) (m := m) (s' := s) (m' := m) (by omega))
  have e2 := Lib.hid (better_no (s := s) (m := m) (s' := s) (m' := m) (by omega))
  have e3 := Lib.hid (dcmp_self s m)
  have e4 := Lib.hid (dcmp_self s m)
  obtain ⟨r2, e5⟩ : ∃ r, dcmp s m s'' m'' = r := ⟨_, rfl⟩
  rw [e5] at h2
  replace e5 := Lib.hid e5
  go_enter Try.func4, Try.ntmps4
  go_wp2_with fail
  obtain ⟨⟨a0, a1⟩, ⟨b0, b1⟩, ⟨c0, c1⟩, hB⟩ := three_new w 29 29 29 (.int .u32 s) (.int .u16 m) (.int .u32 s) (.int .u16 m) (.int .u32 s'') (.int .u16 m'')
  generalize ((w.alloc (.cells #[.int .u32 s, .int .u16 m] 29)).alloc (.cells #[.int .u32 s, .int .u16 m] 29)).alloc (.cells #[.int .u32 s'', .int .u16 m''] 29) = v at *
  have HB := Lib.hid hB
  clear hB
  refine (dist_head _).mono ?_
  rintro e w1 ⟨rfl, hb⟩
  replace a0 := held hb a0; replace a1 := held hb a1; replace b0 := held hb b0; replace b1 := held hb b1; replace c0 := held hb c0; replace c1 := held hb c1
  replace HB := Lib.hid (next HB.out hb); clear hb
  go_wp2_with fail
  refine (better_eq e1.out _).mono ?_
  rintro e w2 ⟨rfl, hb⟩
  replace a0 := held hb a0; replace a1 := held hb a1; replace b0 := held hb b0; replace b1 := held hb b1; replace c0 := held hb c0; replace c1 := held hb c1
  replace HB := Lib.hid (next HB.out hb); clear hb
  go_wp2_with fail
  refine (better_eq e2.out _).mono ?_
  rintro e w3 ⟨rfl, hb⟩
  replace a0 := held hb a0; replace a1 := held hb a1; replace b0 := held hb b0; replace b1 := held hb b1; replace c0 := held hb c0; replace c1 := held hb c1
  replace HB := Lib.hid (next HB.out hb); clear hb
  go_wp2_with fail
  refine (dist_cmp_eq e3.out _).mono ?_
  rintro e w4 ⟨rfl, hb⟩
  replace a0 := held hb a0; replace a1 := held hb a1; replace b0 := held hb b0; replace b1 := held hb b1; replace c0 := held hb c0; replace c1 := held hb c1
  replace HB := Lib.hid (next HB.out hb); clear hb
  go_wp2_with fail
  refine (dist_cmp_eq e4.out _).mono ?_
  rintro e w5 ⟨rfl, hb⟩
  replace a0 := held hb a0; replace a1 := held hb a1; replace b0 := held hb b0; replace b1 := held hb b1; replace c0 := held hb c0; replace c1 := held hb c1
  replace HB := Lib.hid (next HB.out hb); clear hb
  go_wp2_with fail
  refine (dist_cmp_eq e3.out _).mono ?_
  rintro e w6 ⟨rfl, hb⟩
  replace a0 := held hb a0; replace a1 := held hb a1; replace b0 := held hb b0; replace b1 := held hb b1; replace c0 := held hb c0; replace c1 := held hb c1
  replace HB := Lib.hid (next HB.out hb); clear hb
  go_wp2_with fail
  refine (dist_cmp_eq e5.out _).mono ?_
  rintro e w7 ⟨rfl, hb⟩
  replace a0 := held hb a0; replace a1 := held hb a1; replace b0 := held hb b0; replace b1 := held hb b1; replace c0 := held hb c0; replace c1 := held hb c1
  replace HB := Lib.hid (next HB.out hb); clear hb
  go_wp2_with fail
  go_ret
  exact ⟨ret_bool (by first | rfl | (simp; done) | (simp; omega)), HB.out⟩

set_option maxHeartbeats 1000000 in
theorem orders_eqc (s m  s'' m'' : Int)  (h2 : 0 ≤ dcmp s m s'' m'') (h3 : 0 ≤ dcmp s m s'' m'') (w : World) :
    Calls Try.prog 4 #[.agg #[.int .u32 s, .int .u16 m], .agg #[.int .u32 s, .int .u16 m], .agg #[.int .u32 s'', .int .u16 m'']] w fun e w' => e = .returned (.bool true) ∧ Below w.heap.size w w' := by
  have e1 := Lib.hid (better_no (s := s) (m := m) (s' := s) (m' := m) (by omega))
  have e2 := Lib.hid (better_no (s := s) (m := m) (s' := s) (m' := m) (by omega))
  have e3 := Lib.hid (dcmp_self s m)
  have e4 := Lib.hid (dcmp_self s m)
  obtain ⟨r2, e5⟩ : ∃ r, dcmp s m s'' m'' = r := ⟨_, rfl⟩
  obtain ⟨r3, e6⟩ : ∃ r, dcmp s m s'' m'' = r := ⟨_, rfl⟩
  rw [e5] at h2
  rw [e6] at h3
  replace e5 := Lib.hid e5
  replace e6 := Lib.hid e6
  go_enter Try.func4, Try.ntmps4
  go_wp2_with fail
  obtain ⟨⟨a0, a1⟩, ⟨b0, b1⟩, ⟨c0, c1⟩, hB⟩ := three_new w 29 29 29 (.int .u32 s) (.int .u16 m) (.int .u32 s) (.int .u16 m) (.int .u32 s'') (.int .u16 m'')
  generalize ((w.alloc (.cells #[.int .u32 s, .int .u16 m] 29)).alloc (.cells #[.int .u32 s, .int .u16 m] 29)).alloc (.cells #[.int .u32 s'', .int .u16 m''] 29) = v at *
  have HB := Lib.hid hB
  clear hB
  refine (dist_head _).mono ?_
  rintro e w1 ⟨rfl, hb⟩
  replace a0 := held hb a0; replace a1 := held hb a1; replace b0 := held hb b0; replace b1 := held hb b1; replace c0 := held hb c0; replace c1 := held hb c1
  replace HB := Lib.hid (next HB.out hb); clear hb
  go_wp2_with fail
  refine (better_eq e1.out _).mono ?_
  rintro e w2 ⟨rfl, hb⟩
  replace a0 := held hb a0; replace a1 := held hb a1; replace b0 := held hb b0; replace b1 := held hb b1; replace c0 := held hb c0; replace c1 := held hb c1
  replace HB := Lib.hid (next HB.out hb); clear hb
  go_wp2_with fail
  refine (better_eq e2.out _).mono ?_
  rintro e w3 ⟨rfl, hb⟩
  replace a0 := held hb a0; replace a1 := held hb a1; replace b0 := held hb b0; replace b1 := held hb b1; replace c0 := held hb c0; replace c1 := held hb c1
  replace HB := Lib.hid (next HB.out hb); clear hb
  go_wp2_with fail
  refine (dist_cmp_eq e3.out _).mono ?_
  rintro e w4 ⟨rfl, hb⟩
  replace a0 := held hb a0; replace a1 := held hb a1; replace b0 := held hb b0; replace b1 := held hb b1; replace c0 := held hb c0; replace c1 := held hb c1
  replace HB := Lib.hid (next HB.out hb); clear hb
  go_wp2_with fail
  refine (dist_cmp_eq e4.out _).mono ?_
  rintro e w5 ⟨rfl, hb⟩
  replace a0 := held hb a0; replace a1 := held hb a1; replace b0 := held hb b0; replace b1 := held hb b1; replace c0 := held hb c0; replace c1 := held hb c1
  replace HB := Lib.hid (next HB.out hb); clear hb
  go_wp2_with fail
  refine (dist_cmp_eq e3.out _).mono ?_
  rintro e w6 ⟨rfl, hb⟩
  replace a0 := held hb a0; replace a1 := held hb a1; replace b0 := held hb b0; replace b1 := held hb b1; replace c0 := held hb c0; replace c1 := held hb c1
  replace HB := Lib.hid (next HB.out hb); clear hb
  go_wp2_with fail
  refine (dist_cmp_eq e5.out _).mono ?_
  rintro e w7 ⟨rfl, hb⟩
  replace a0 := held hb a0; replace a1 := held hb a1; replace b0 := held hb b0; replace b1 := held hb b1; replace c0 := held hb c0; replace c1 := held hb c1
  replace HB := Lib.hid (next HB.out hb); clear hb
  go_wp2_with fail
  refine (dist_cmp_eq e6.out _).mono ?_
  rintro e w8 ⟨rfl, hb⟩
  replace a0 := held hb a0; replace a1 := held hb a1; replace b0 := held hb b0; replace b1 := held hb b1; replace c0 := held hb c0; replace c1 := held hb c1
  replace HB := Lib.hid (next HB.out hb); clear hb
  go_wp2_with fail
  go_ret
  exact ⟨ret_bool (by first | rfl | (simp; done) | (simp; omega)), HB.out⟩

set_option maxHeartbeats 1000000 in
theorem orders_lt1lt (s m s' m' s'' m'' : Int) (h : s < s') (w : World) :
    Calls Try.prog 4 #[.agg #[.int .u32 s, .int .u16 m], .agg #[.int .u32 s', .int .u16 m'], .agg #[.int .u32 s'', .int .u16 m'']] w fun e w' => e = .returned (.bool true) ∧ Below w.heap.size w w' := by
  have e1 := Lib.hid (better_no (s := s) (m := m) (s' := s') (m' := m') (by omega))
  have e2 := Lib.hid (better_yes (s := s') (m := m') (s' := s) (m' := m) (by omega))
  have e3 := Lib.hid (dcmp_neg (s := s) (m := m) (s' := s') (m' := m') (by omega))
  have e4 := Lib.hid (dcmp_pos (s := s') (m := m') (s' := s) (m' := m) (by omega))
  go_enter Try.func4, Try.ntmps4
  go_wp2_with fail
  obtain ⟨⟨a0, a1⟩, ⟨b0, b1⟩, ⟨c0, c1⟩, hB⟩ := three_new w 29 29 29 (.int .u32 s) (.int .u16 m) (.int .u32 s') (.int .u16 m') (.int .u32 s'') (.int .u16 m'')
  generalize ((w.alloc (.cells #[.int .u32 s, .int .u16 m] 29)).alloc (.cells #[.int .u32 s', .int .u16 m'] 29)).alloc (.cells #[.int .u32 s'', .int .u16 m''] 29) = v at *
  have HB := Lib.hid hB
  clear hB
  refine (dist_head _).mono ?_
  rintro e w1 ⟨rfl, hb⟩
  replace a0 := held hb a0; replace a1 := held hb a1; replace b0 := held hb b0; replace b1 := held hb b1; replace c0 := held hb c0; replace c1 := held hb c1
  replace HB := Lib.hid (next HB.out hb); clear hb
  go_wp2_with fail
  refine (better_eq e1.out _).mono ?_
  rintro e w2 ⟨rfl, hb⟩
  replace a0 := held hb a0; replace a1 := held hb a1; replace b0 := held hb b0; replace b1 := held hb b1; replace c0 := held hb c0; replace c1 := held hb c1
  replace HB := Lib.hid (next HB.out hb); clear hb
  go_wp2_with fail
  refine (better_eq e2.out _).mono ?_
  rintro e w3 ⟨rfl, hb⟩
  replace a0 := held hb a0; replace a1 := held hb a1; replace b0 := held hb b0; replace b1 := held hb b1; replace c0 := held hb c0; replace c1 := held hb c1
  replace HB := Lib.hid (next HB.out hb); clear hb
  go_wp2_with fail
  refine (dist_cmp_eq e3.out _).mono ?_
  rintro e w4 ⟨rfl, hb⟩
  replace a0 := held hb a0; replace a1 := held hb a1; replace b0 := held hb b0; replace b1 := held hb b1; replace c0 := held hb c0; replace c1 := held hb c1
  replace HB := Lib.hid (next HB.out hb); clear hb
  go_wp2_with fail
  refine (dist_cmp_eq e4.out _).mono ?_
  rintro e w5 ⟨rfl, hb⟩
  replace a0 := held hb a0; replace a1 := held hb a1; replace b0 := held hb b0; replace b1 := held hb b1; replace c0 := held hb c0; replace c1 := held hb c1
  replace HB := Lib.hid (next HB.out hb); clear hb
  go_wp2_with fail
  refine (dist_cmp_eq e3.out _).mono ?_
  rintro e w6 ⟨rfl, hb⟩
  replace a0 := held hb a0; replace a1 := held hb a1; replace b0 := held hb b0; replace b1 := held hb b1; replace c0 := held hb c0; replace c1 := held hb c1
  replace HB := Lib.hid (next HB.out hb); clear hb
  go_wp2_with fail
  go_ret
  exact ⟨ret_bool (by first | rfl | (simp; done) | (simp; omega)), HB.out⟩

set_option maxHeartbeats 1000000 in
theorem orders_lt2lt (s m m' s'' m'' : Int) (h : m' < m) (w : World) :
    Calls Try.prog 4 #[.agg #[.int .u32 s, .int .u16 m], .agg #[.int .u32 s, .int .u16 m'], .agg #[.int .u32 s'', .int .u16 m'']] w fun e w' => e = .returned (.bool true) ∧ Below w.heap.size w w' := by
  have e1 := Lib.hid (better_no (s := s) (m := m) (s' := s) (m' := m') (by omega))
  have e2 := Lib.hid (better_yes (s := s) (m := m') (s' := s) (m' := m) (by omega))
  have e3 := Lib.hid (dcmp_neg (s := s) (m := m) (s' := s) (m' := m') (by omega))
  have e4 := Lib.hid (dcmp_pos (s := s) (m := m') (s' := s) (m' := m) (by omega))
  go_enter Try.func4, Try.ntmps4
  go_wp2_with fail
  obtain ⟨⟨a0, a1⟩, ⟨b0, b1⟩, ⟨c0, c1⟩, hB⟩ := three_new w 29 29 29 (.int .u32 s) (.int .u16 m) (.int .u32 s) (.int .u16 m') (.int .u32 s'') (.int .u16 m'')
  generalize ((w.alloc (.cells #[.int .u32 s, .int .u16 m] 29)).alloc (.cells #[.int .u32 s, .int .u16 m'] 29)).alloc (.cells #[.int .u32 s'', .int .u16 m''] 29) = v at *
  have HB := Lib.hid hB
  clear hB
  refine (dist_head _).mono ?_
  rintro e w1 ⟨rfl, hb⟩
  replace a0 := held hb a0; replace a1 := held hb a1; replace b0 := held hb b0; replace b1 := held hb b1; replace c0 := held hb c0; replace c1 := held hb c1
  replace HB := Lib.hid (next HB.out hb); clear hb
  go_wp2_with fail
  refine (better_eq e1.out _).mono ?_
  rintro e w2 ⟨rfl, hb⟩
  replace a0 := held hb a0; replace a1 := held hb a1; replace b0 := held hb b0; replace b1 := held hb b1; replace c0 := held hb c0; replace c1 := held hb c1
  replace HB := Lib.hid (next HB.out hb); clear hb
  go_wp2_with fail
  refine (better_eq e2.out _).mono ?_
  rintro e w3 ⟨rfl, hb⟩
  replace a0 := held hb a0; replace a1 := held hb a1; replace b0 := held hb b0; replace b1 := held hb b1; replace c0 := held hb c0; replace c1 := held hb c1
  replace HB := Lib.hid (next HB.out hb); clear hb
  go_wp2_with fail
  refine (dist_cmp_eq e3.out _).mono ?_
  rintro e w4 ⟨rfl, hb⟩
  replace a0 := held hb a0; replace a1 := held hb a1; replace b0 := held hb b0; replace b1 := held hb b1; replace c0 := held hb c0; replace c1 := held hb c1
  replace HB := Lib.hid (next HB.out hb); clear hb
  go_wp2_with fail
  refine (dist_cmp_eq e4.out _).mono ?_
  rintro e w5 ⟨rfl, hb⟩
  replace a0 := held hb a0; replace a1 := held hb a1; replace b0 := held hb b0; replace b1 := held hb b1; replace c0 := held hb c0; replace c1 := held hb c1
  replace HB := Lib.hid (next HB.out hb); clear hb
  go_wp2_with fail
  refine (dist_cmp_eq e3.out _).mono ?_
  rintro e w6 ⟨rfl, hb⟩
  replace a0 := held hb a0; replace a1 := held hb a1; replace b0 := held hb b0; replace b1 := held hb b1; replace c0 := held hb c0; replace c1 := held hb c1
  replace HB := Lib.hid (next HB.out hb); clear hb
  go_wp2_with fail
  go_ret
  exact ⟨ret_bool (by first | rfl | (simp; done) | (simp; omega)), HB.out⟩

theorem orders_any (s m s' m' s'' m'' : Int) (w : World) :
    Calls Try.prog 4 #[.agg #[.int .u32 s, .int .u16 m], .agg #[.int .u32 s', .int .u16 m'], .agg #[.int .u32 s'', .int .u16 m'']] w fun e w' => e = .returned (.bool true) ∧ Below w.heap.size w w' := by
  by_cases h2 : dcmp s' m' s'' m'' < 0
  · have cases5 : s' < s ∨ (s = s' ∧ m < m') ∨ (s = s' ∧ m = m') ∨ s < s' ∨ (s = s' ∧ m' < m) := by omega
    rcases cases5 with h | ⟨rfl, h⟩ | ⟨rfl, rfl⟩ | h | ⟨rfl, h⟩
    · exact orders_gt1b s m s' m' s'' m'' h h2 w
    · exact orders_gt2b s m m' s'' m'' h h2 w
    · exact orders_eqb s m s'' m'' h2 w
    · exact orders_lt1lt s m s' m' s'' m'' h w
    · exact orders_lt2lt s m m' s'' m'' h w
  · have h2' : 0 ≤ dcmp s' m' s'' m'' := by omega
    have cases5 : s' < s ∨ (s = s' ∧ m < m') ∨ (s = s' ∧ m = m') ∨ s < s' ∨ (s = s' ∧ m' < m) := by omega
    rcases cases5 with h | ⟨rfl, h⟩ | ⟨rfl, rfl⟩ | h | ⟨rfl, h⟩
    · exact orders_gt1c s m s' m' s'' m'' h h2' (dcmp_through (by rw [dcmp_pos (.inl h)]; omega) h2) w
    · exact orders_gt2c s m m' s'' m'' h h2' (dcmp_through (by rw [dcmp_pos (.inr ⟨rfl, h⟩)]; omega) h2) w
    · exact orders_eqc s m s'' m'' h2' h2' w
    · exact orders_lt1lt s m s' m' s'' m'' h w
    · exact orders_lt2lt s m m' s'' m'' h w
end Go.Proofs.Ytclfchdgagpahaa
