/-
  AddrOrders: the walk: the order of any two, and that of what one has in the other.
-/
import Derived.Test.YtclfchdgagpahaaDoorAddrOrdW
namespace Go.Proofs.YtclfchdgagpahaaDoor
open Go.RowKit

theorem or_last (b m : Nat) (hb : b < 4294967296) : bits .or .u32 (b : Int) (4294967295 / 2 ^ m) = ((b ||| (4294967295 / 2 ^ m) : Nat) : Int) := by
  rw [behind_int, u32_or_nat b _ hb (behind_lt m)]
theorem last_lt (b m : Nat) (hb : b < 4294967296) : b ||| (4294967295 / 2 ^ m) < 4294967296 := Nat.or_lt_two_pow (n := 32) hb (behind_lt m)

set_option maxHeartbeats 1000000 in
theorem aord_gt1_s1 (a b : Nat) (n m : Int) (ha : a < 4294967296) (_hb0 : b < 4294967296) (ho : (b : Int) < (a : Int)) (r1 : Am.right a n = false) (w : World) (ht : Tab w) :
    Calls Tryd.prog 6 #[.agg #[.int .u32 a, .int .i64 n], .agg #[.int .u32 b, .int .i64 m]] w fun e w' => e = .returned (.bool true) ∧ Below w.heap.size w w' := by
  have HT := Lib.hid ht
  have R1 := Lib.hid r1
  clear ht r1
  have e1 := Lib.hid (Om.pcmp_gt (a := (a : Int)) (n := n) (b := (b : Int)) (m := m) (by omega))
  have e2 := Lib.hid (Om.less_no (a := (a : Int)) (n := n) (b := (b : Int)) (m := m) (by omega))
  have e3 := Lib.hid (Om.less_yes (a := (b : Int)) (n := m) (b := (a : Int)) (m := n) (by omega))
  go_enter Tryd.func6, Tryd.ntmps6
  go_wp2_with fail
  obtain ⟨⟨a0, a1⟩, ⟨b0, b1⟩, hB⟩ := two_pre w 24 24 a n b m
  generalize (w.alloc (.cells #[.int .u32 a, .int .i64 n] 24)).alloc (.cells #[.int .u32 b, .int .i64 m] 24) = v at *
  have HB := Lib.hid hB
  clear hB
  refine (addr_head _ (HT.out.held HB.out)).mono ?_
  rintro e w1 ⟨rfl, hb⟩
  replace a0 := held hb a0; replace a1 := held hb a1; replace b0 := held hb b0; replace b1 := held hb b1
  replace HB := Lib.hid (next HB.out hb); clear hb
  go_wp2_with fail
  refine (pre_cmp_eq e1.out _).mono ?_
  rintro e w2 ⟨rfl, hb⟩
  replace a0 := held hb a0; replace a1 := held hb a1; replace b0 := held hb b0; replace b1 := held hb b1
  replace HB := Lib.hid (next HB.out hb); clear hb
  go_wp2_with fail
  refine (less_eq e2.out _).mono ?_
  rintro e w3 ⟨rfl, hb⟩
  replace a0 := held hb a0; replace a1 := held hb a1; replace b0 := held hb b0; replace b1 := held hb b1
  replace HB := Lib.hid (next HB.out hb); clear hb
  go_wp2_with fail
  refine (less_eq e3.out _).mono ?_
  rintro e w4 ⟨rfl, hb⟩
  replace a0 := held hb a0; replace a1 := held hb a1; replace b0 := held hb b0; replace b1 := held hb b1
  replace HB := Lib.hid (next HB.out hb); clear hb
  go_wp2_with fail
  refine (refRight_eq ha R1.out _).mono ?_
  rintro e w5 ⟨rfl, hb⟩
  replace a0 := held hb a0; replace a1 := held hb a1; replace b0 := held hb b0; replace b1 := held hb b1
  replace HB := Lib.hid (next HB.out hb); clear hb
  go_wp2_with fail
  go_ret
  exact ⟨ret_bool (by first | rfl | decide | simp), HB.out⟩

set_option maxHeartbeats 1000000 in
theorem aord_gt1_s2 (a b : Nat) (n m : Int) (ha : a < 4294967296) (hb0 : b < 4294967296) (ho : (b : Int) < (a : Int)) (r1 : Am.right a n = true) (r2 : Am.right b m = false) (w : World) (ht : Tab w) :
    Calls Tryd.prog 6 #[.agg #[.int .u32 a, .int .i64 n], .agg #[.int .u32 b, .int .i64 m]] w fun e w' => e = .returned (.bool true) ∧ Below w.heap.size w w' := by
  have HT := Lib.hid ht
  have R1 := Lib.hid r1
  have R2 := Lib.hid r2
  clear ht r1 r2
  have e1 := Lib.hid (Om.pcmp_gt (a := (a : Int)) (n := n) (b := (b : Int)) (m := m) (by omega))
  have e2 := Lib.hid (Om.less_no (a := (a : Int)) (n := n) (b := (b : Int)) (m := m) (by omega))
  have e3 := Lib.hid (Om.less_yes (a := (b : Int)) (n := m) (b := (a : Int)) (m := n) (by omega))
  go_enter Tryd.func6, Tryd.ntmps6
  go_wp2_with fail
  obtain ⟨⟨a0, a1⟩, ⟨b0, b1⟩, hB⟩ := two_pre w 24 24 a n b m
  generalize (w.alloc (.cells #[.int .u32 a, .int .i64 n] 24)).alloc (.cells #[.int .u32 b, .int .i64 m] 24) = v at *
  have HB := Lib.hid hB
  clear hB
  refine (addr_head _ (HT.out.held HB.out)).mono ?_
  rintro e w1 ⟨rfl, hb⟩
  replace a0 := held hb a0; replace a1 := held hb a1; replace b0 := held hb b0; replace b1 := held hb b1
  replace HB := Lib.hid (next HB.out hb); clear hb
  go_wp2_with fail
  refine (pre_cmp_eq e1.out _).mono ?_
  rintro e w2 ⟨rfl, hb⟩
  replace a0 := held hb a0; replace a1 := held hb a1; replace b0 := held hb b0; replace b1 := held hb b1
  replace HB := Lib.hid (next HB.out hb); clear hb
  go_wp2_with fail
  refine (less_eq e2.out _).mono ?_
  rintro e w3 ⟨rfl, hb⟩
  replace a0 := held hb a0; replace a1 := held hb a1; replace b0 := held hb b0; replace b1 := held hb b1
  replace HB := Lib.hid (next HB.out hb); clear hb
  go_wp2_with fail
  refine (less_eq e3.out _).mono ?_
  rintro e w4 ⟨rfl, hb⟩
  replace a0 := held hb a0; replace a1 := held hb a1; replace b0 := held hb b0; replace b1 := held hb b1
  replace HB := Lib.hid (next HB.out hb); clear hb
  go_wp2_with fail
  refine (refRight_eq ha R1.out _).mono ?_
  rintro e w5 ⟨rfl, hb⟩
  replace a0 := held hb a0; replace a1 := held hb a1; replace b0 := held hb b0; replace b1 := held hb b1
  replace HB := Lib.hid (next HB.out hb); clear hb
  go_wp2_with fail
  refine (refRight_eq hb0 R2.out _).mono ?_
  rintro e w6 ⟨rfl, hb⟩
  replace a0 := held hb a0; replace a1 := held hb a1; replace b0 := held hb b0; replace b1 := held hb b1
  replace HB := Lib.hid (next HB.out hb); clear hb
  go_wp2_with fail
  go_ret
  exact ⟨ret_bool (by first | rfl | decide | simp), HB.out⟩

set_option maxHeartbeats 1000000 in
theorem aord_gt1_s3 (a b : Nat) (n m : Int) (ha : a < 4294967296) (hb0 : b < 4294967296) (ho : (b : Int) < (a : Int)) (r1 : Am.right a n = true) (r2 : Am.right b m = true) (hl : m < n) (w : World) (ht : Tab w) :
    Calls Tryd.prog 6 #[.agg #[.int .u32 a, .int .i64 n], .agg #[.int .u32 b, .int .i64 m]] w fun e w' => e = .returned (.bool true) ∧ Below w.heap.size w w' := by
  have HT := Lib.hid ht
  have R1 := Lib.hid r1
  have R2 := Lib.hid r2
  clear ht r1 r2
  have e1 := Lib.hid (Om.pcmp_gt (a := (a : Int)) (n := n) (b := (b : Int)) (m := m) (by omega))
  have e2 := Lib.hid (Om.less_no (a := (a : Int)) (n := n) (b := (b : Int)) (m := m) (by omega))
  have e3 := Lib.hid (Om.less_yes (a := (b : Int)) (n := m) (b := (a : Int)) (m := n) (by omega))
  go_enter Tryd.func6, Tryd.ntmps6
  go_wp2_with fail
  obtain ⟨⟨a0, a1⟩, ⟨b0, b1⟩, hB⟩ := two_pre w 24 24 a n b m
  generalize (w.alloc (.cells #[.int .u32 a, .int .i64 n] 24)).alloc (.cells #[.int .u32 b, .int .i64 m] 24) = v at *
  have HB := Lib.hid hB
  clear hB
  refine (addr_head _ (HT.out.held HB.out)).mono ?_
  rintro e w1 ⟨rfl, hb⟩
  replace a0 := held hb a0; replace a1 := held hb a1; replace b0 := held hb b0; replace b1 := held hb b1
  replace HB := Lib.hid (next HB.out hb); clear hb
  go_wp2_with fail
  refine (pre_cmp_eq e1.out _).mono ?_
  rintro e w2 ⟨rfl, hb⟩
  replace a0 := held hb a0; replace a1 := held hb a1; replace b0 := held hb b0; replace b1 := held hb b1
  replace HB := Lib.hid (next HB.out hb); clear hb
  go_wp2_with fail
  refine (less_eq e2.out _).mono ?_
  rintro e w3 ⟨rfl, hb⟩
  replace a0 := held hb a0; replace a1 := held hb a1; replace b0 := held hb b0; replace b1 := held hb b1
  replace HB := Lib.hid (next HB.out hb); clear hb
  go_wp2_with fail
  refine (less_eq e3.out _).mono ?_
  rintro e w4 ⟨rfl, hb⟩
  replace a0 := held hb a0; replace a1 := held hb a1; replace b0 := held hb b0; replace b1 := held hb b1
  replace HB := Lib.hid (next HB.out hb); clear hb
  go_wp2_with fail
  refine (refRight_eq ha R1.out _).mono ?_
  rintro e w5 ⟨rfl, hb⟩
  replace a0 := held hb a0; replace a1 := held hb a1; replace b0 := held hb b0; replace b1 := held hb b1
  replace HB := Lib.hid (next HB.out hb); clear hb
  go_wp2_with fail
  refine (refRight_eq hb0 R2.out _).mono ?_
  rintro e w6 ⟨rfl, hb⟩
  replace a0 := held hb a0; replace a1 := held hb a1; replace b0 := held hb b0; replace b1 := held hb b1
  replace HB := Lib.hid (next HB.out hb); clear hb
  go_wp2_with fail
  go_ret
  exact ⟨ret_bool (by first | rfl | decide | simp), HB.out⟩

set_option maxHeartbeats 1000000 in
theorem aord_gt1_s4 (a b : Nat) (n m : Nat) (ha : a < 4294967296) (hb0 : b < 4294967296) (ho : (b : Int) < (a : Int)) (r1 : Am.right a (n : Int) = true) (r2 : Am.right b (m : Int) = true) (hl : (n : Int) ≤ (m : Int)) (_hm32 : m ≤ 32) (r3 : Am.has a (n : Int) b = false) (w : World) (ht : Tab w) :
    Calls Tryd.prog 6 #[.agg #[.int .u32 a, .int .i64 (n : Int)], .agg #[.int .u32 b, .int .i64 (m : Int)]] w fun e w' => e = .returned (.bool true) ∧ Below w.heap.size w w' := by
  have HT := Lib.hid ht
  have R1 := Lib.hid r1
  have R2 := Lib.hid r2
  have R3 := Lib.hid r3
  clear ht r1 r2 r3
  have e1 := Lib.hid (Om.pcmp_gt (a := (a : Int)) (n := (n : Int)) (b := (b : Int)) (m := (m : Int)) (by omega))
  have e2 := Lib.hid (Om.less_no (a := (a : Int)) (n := (n : Int)) (b := (b : Int)) (m := (m : Int)) (by omega))
  have e3 := Lib.hid (Om.less_yes (a := (b : Int)) (n := (m : Int)) (b := (a : Int)) (m := (n : Int)) (by omega))
  go_enter Tryd.func6, Tryd.ntmps6
  go_wp2_with fail
  obtain ⟨⟨a0, a1⟩, ⟨b0, b1⟩, hB⟩ := two_pre w 24 24 a (n : Int) b (m : Int)
  generalize (w.alloc (.cells #[.int .u32 a, .int .i64 (n : Int)] 24)).alloc (.cells #[.int .u32 b, .int .i64 (m : Int)] 24) = v at *
  have HB := Lib.hid hB
  clear hB
  refine (addr_head _ (HT.out.held HB.out)).mono ?_
  rintro e w1 ⟨rfl, hb⟩
  replace a0 := held hb a0; replace a1 := held hb a1; replace b0 := held hb b0; replace b1 := held hb b1
  replace HB := Lib.hid (next HB.out hb); clear hb
  go_wp2_with fail
  refine (pre_cmp_eq e1.out _).mono ?_
  rintro e w2 ⟨rfl, hb⟩
  replace a0 := held hb a0; replace a1 := held hb a1; replace b0 := held hb b0; replace b1 := held hb b1
  replace HB := Lib.hid (next HB.out hb); clear hb
  go_wp2_with fail
  refine (less_eq e2.out _).mono ?_
  rintro e w3 ⟨rfl, hb⟩
  replace a0 := held hb a0; replace a1 := held hb a1; replace b0 := held hb b0; replace b1 := held hb b1
  replace HB := Lib.hid (next HB.out hb); clear hb
  go_wp2_with fail
  refine (less_eq e3.out _).mono ?_
  rintro e w4 ⟨rfl, hb⟩
  replace a0 := held hb a0; replace a1 := held hb a1; replace b0 := held hb b0; replace b1 := held hb b1
  replace HB := Lib.hid (next HB.out hb); clear hb
  go_wp2_with fail
  refine (refRight_eq ha R1.out _).mono ?_
  rintro e w5 ⟨rfl, hb⟩
  replace a0 := held hb a0; replace a1 := held hb a1; replace b0 := held hb b0; replace b1 := held hb b1
  replace HB := Lib.hid (next HB.out hb); clear hb
  go_wp2_with fail
  refine (refRight_eq hb0 R2.out _).mono ?_
  rintro e w6 ⟨rfl, hb⟩
  replace a0 := held hb a0; replace a1 := held hb a1; replace b0 := held hb b0; replace b1 := held hb b1
  replace HB := Lib.hid (next HB.out hb); clear hb
  go_wp2_with fail
  refine (has_eq ha hb0 R3.out _).mono ?_
  rintro e w7 ⟨rfl, hb⟩
  replace a0 := held hb a0; replace a1 := held hb a1; replace b0 := held hb b0; replace b1 := held hb b1
  replace HB := Lib.hid (next HB.out hb); clear hb
  go_wp2_with fail
  go_ret
  exact ⟨ret_bool (by first | rfl | decide | simp), HB.out⟩

set_option maxHeartbeats 1000000 in
theorem aord_gt2_s1 (a : Nat) (n m : Int) (ha : a < 4294967296) (ho : m < n) (r1 : Am.right a n = false) (w : World) (ht : Tab w) :
    Calls Tryd.prog 6 #[.agg #[.int .u32 a, .int .i64 n], .agg #[.int .u32 a, .int .i64 m]] w fun e w' => e = .returned (.bool true) ∧ Below w.heap.size w w' := by
  have HT := Lib.hid ht
  have R1 := Lib.hid r1
  clear ht r1
  have e1 := Lib.hid (Om.pcmp_gt (a := (a : Int)) (n := n) (b := (a : Int)) (m := m) (by omega))
  have e2 := Lib.hid (Om.less_no (a := (a : Int)) (n := n) (b := (a : Int)) (m := m) (by omega))
  have e3 := Lib.hid (Om.less_yes (a := (a : Int)) (n := m) (b := (a : Int)) (m := n) (by omega))
  go_enter Tryd.func6, Tryd.ntmps6
  go_wp2_with fail
  obtain ⟨⟨a0, a1⟩, ⟨b0, b1⟩, hB⟩ := two_pre w 24 24 a n a m
  generalize (w.alloc (.cells #[.int .u32 a, .int .i64 n] 24)).alloc (.cells #[.int .u32 a, .int .i64 m] 24) = v at *
  have HB := Lib.hid hB
  clear hB
  refine (addr_head _ (HT.out.held HB.out)).mono ?_
  rintro e w1 ⟨rfl, hb⟩
  replace a0 := held hb a0; replace a1 := held hb a1; replace b0 := held hb b0; replace b1 := held hb b1
  replace HB := Lib.hid (next HB.out hb); clear hb
  go_wp2_with fail
  refine (pre_cmp_eq e1.out _).mono ?_
  rintro e w2 ⟨rfl, hb⟩
  replace a0 := held hb a0; replace a1 := held hb a1; replace b0 := held hb b0; replace b1 := held hb b1
  replace HB := Lib.hid (next HB.out hb); clear hb
  go_wp2_with fail
  refine (less_eq e2.out _).mono ?_
  rintro e w3 ⟨rfl, hb⟩
  replace a0 := held hb a0; replace a1 := held hb a1; replace b0 := held hb b0; replace b1 := held hb b1
  replace HB := Lib.hid (next HB.out hb); clear hb
  go_wp2_with fail
  refine (less_eq e3.out _).mono ?_
  rintro e w4 ⟨rfl, hb⟩
  replace a0 := held hb a0; replace a1 := held hb a1; replace b0 := held hb b0; replace b1 := held hb b1
  replace HB := Lib.hid (next HB.out hb); clear hb
  go_wp2_with fail
  refine (refRight_eq ha R1.out _).mono ?_
  rintro e w5 ⟨rfl, hb⟩
  replace a0 := held hb a0; replace a1 := held hb a1; replace b0 := held hb b0; replace b1 := held hb b1
  replace HB := Lib.hid (next HB.out hb); clear hb
  go_wp2_with fail
  go_ret
  exact ⟨ret_bool (by first | rfl | decide | simp), HB.out⟩

set_option maxHeartbeats 1000000 in
theorem aord_gt2_s2 (a : Nat) (n m : Int) (ha : a < 4294967296) (ho : m < n) (r1 : Am.right a n = true) (r2 : Am.right a m = false) (w : World) (ht : Tab w) :
    Calls Tryd.prog 6 #[.agg #[.int .u32 a, .int .i64 n], .agg #[.int .u32 a, .int .i64 m]] w fun e w' => e = .returned (.bool true) ∧ Below w.heap.size w w' := by
  have HT := Lib.hid ht
  have R1 := Lib.hid r1
  have R2 := Lib.hid r2
  clear ht r1 r2
  have e1 := Lib.hid (Om.pcmp_gt (a := (a : Int)) (n := n) (b := (a : Int)) (m := m) (by omega))
  have e2 := Lib.hid (Om.less_no (a := (a : Int)) (n := n) (b := (a : Int)) (m := m) (by omega))
  have e3 := Lib.hid (Om.less_yes (a := (a : Int)) (n := m) (b := (a : Int)) (m := n) (by omega))
  go_enter Tryd.func6, Tryd.ntmps6
  go_wp2_with fail
  obtain ⟨⟨a0, a1⟩, ⟨b0, b1⟩, hB⟩ := two_pre w 24 24 a n a m
  generalize (w.alloc (.cells #[.int .u32 a, .int .i64 n] 24)).alloc (.cells #[.int .u32 a, .int .i64 m] 24) = v at *
  have HB := Lib.hid hB
  clear hB
  refine (addr_head _ (HT.out.held HB.out)).mono ?_
  rintro e w1 ⟨rfl, hb⟩
  replace a0 := held hb a0; replace a1 := held hb a1; replace b0 := held hb b0; replace b1 := held hb b1
  replace HB := Lib.hid (next HB.out hb); clear hb
  go_wp2_with fail
  refine (pre_cmp_eq e1.out _).mono ?_
  rintro e w2 ⟨rfl, hb⟩
  replace a0 := held hb a0; replace a1 := held hb a1; replace b0 := held hb b0; replace b1 := held hb b1
  replace HB := Lib.hid (next HB.out hb); clear hb
  go_wp2_with fail
  refine (less_eq e2.out _).mono ?_
  rintro e w3 ⟨rfl, hb⟩
  replace a0 := held hb a0; replace a1 := held hb a1; replace b0 := held hb b0; replace b1 := held hb b1
  replace HB := Lib.hid (next HB.out hb); clear hb
  go_wp2_with fail
  refine (less_eq e3.out _).mono ?_
  rintro e w4 ⟨rfl, hb⟩
  replace a0 := held hb a0; replace a1 := held hb a1; replace b0 := held hb b0; replace b1 := held hb b1
  replace HB := Lib.hid (next HB.out hb); clear hb
  go_wp2_with fail
  refine (refRight_eq ha R1.out _).mono ?_
  rintro e w5 ⟨rfl, hb⟩
  replace a0 := held hb a0; replace a1 := held hb a1; replace b0 := held hb b0; replace b1 := held hb b1
  replace HB := Lib.hid (next HB.out hb); clear hb
  go_wp2_with fail
  refine (refRight_eq ha R2.out _).mono ?_
  rintro e w6 ⟨rfl, hb⟩
  replace a0 := held hb a0; replace a1 := held hb a1; replace b0 := held hb b0; replace b1 := held hb b1
  replace HB := Lib.hid (next HB.out hb); clear hb
  go_wp2_with fail
  go_ret
  exact ⟨ret_bool (by first | rfl | decide | simp), HB.out⟩

set_option maxHeartbeats 1000000 in
theorem aord_gt2_s3 (a : Nat) (n m : Int) (ha : a < 4294967296) (ho : m < n) (r1 : Am.right a n = true) (r2 : Am.right a m = true) (_hl : m < n) (w : World) (ht : Tab w) :
    Calls Tryd.prog 6 #[.agg #[.int .u32 a, .int .i64 n], .agg #[.int .u32 a, .int .i64 m]] w fun e w' => e = .returned (.bool true) ∧ Below w.heap.size w w' := by
  have HT := Lib.hid ht
  have R1 := Lib.hid r1
  have R2 := Lib.hid r2
  clear ht r1 r2
  have e1 := Lib.hid (Om.pcmp_gt (a := (a : Int)) (n := n) (b := (a : Int)) (m := m) (by omega))
  have e2 := Lib.hid (Om.less_no (a := (a : Int)) (n := n) (b := (a : Int)) (m := m) (by omega))
  have e3 := Lib.hid (Om.less_yes (a := (a : Int)) (n := m) (b := (a : Int)) (m := n) (by omega))
  go_enter Tryd.func6, Tryd.ntmps6
  go_wp2_with fail
  obtain ⟨⟨a0, a1⟩, ⟨b0, b1⟩, hB⟩ := two_pre w 24 24 a n a m
  generalize (w.alloc (.cells #[.int .u32 a, .int .i64 n] 24)).alloc (.cells #[.int .u32 a, .int .i64 m] 24) = v at *
  have HB := Lib.hid hB
  clear hB
  refine (addr_head _ (HT.out.held HB.out)).mono ?_
  rintro e w1 ⟨rfl, hb⟩
  replace a0 := held hb a0; replace a1 := held hb a1; replace b0 := held hb b0; replace b1 := held hb b1
  replace HB := Lib.hid (next HB.out hb); clear hb
  go_wp2_with fail
  refine (pre_cmp_eq e1.out _).mono ?_
  rintro e w2 ⟨rfl, hb⟩
  replace a0 := held hb a0; replace a1 := held hb a1; replace b0 := held hb b0; replace b1 := held hb b1
  replace HB := Lib.hid (next HB.out hb); clear hb
  go_wp2_with fail
  refine (less_eq e2.out _).mono ?_
  rintro e w3 ⟨rfl, hb⟩
  replace a0 := held hb a0; replace a1 := held hb a1; replace b0 := held hb b0; replace b1 := held hb b1
  replace HB := Lib.hid (next HB.out hb); clear hb
  go_wp2_with fail
  refine (less_eq e3.out _).mono ?_
  rintro e w4 ⟨rfl, hb⟩
  replace a0 := held hb a0; replace a1 := held hb a1; replace b0 := held hb b0; replace b1 := held hb b1
  replace HB := Lib.hid (next HB.out hb); clear hb
  go_wp2_with fail
  refine (refRight_eq ha R1.out _).mono ?_
  rintro e w5 ⟨rfl, hb⟩
  replace a0 := held hb a0; replace a1 := held hb a1; replace b0 := held hb b0; replace b1 := held hb b1
  replace HB := Lib.hid (next HB.out hb); clear hb
  go_wp2_with fail
  refine (refRight_eq ha R2.out _).mono ?_
  rintro e w6 ⟨rfl, hb⟩
  replace a0 := held hb a0; replace a1 := held hb a1; replace b0 := held hb b0; replace b1 := held hb b1
  replace HB := Lib.hid (next HB.out hb); clear hb
  go_wp2_with fail
  go_ret
  exact ⟨ret_bool (by first | rfl | decide | simp), HB.out⟩

set_option maxHeartbeats 1000000 in
theorem aord_eq_s1 (a : Nat) (n : Int) (ha : a < 4294967296)  (r1 : Am.right a n = false) (w : World) (ht : Tab w) :
    Calls Tryd.prog 6 #[.agg #[.int .u32 a, .int .i64 n], .agg #[.int .u32 a, .int .i64 n]] w fun e w' => e = .returned (.bool true) ∧ Below w.heap.size w w' := by
  have HT := Lib.hid ht
  have R1 := Lib.hid r1
  clear ht r1
  have e1 := Lib.hid (Om.pcmp_self (a : Int) n)
  have e2 := Lib.hid (Om.less_no (a := (a : Int)) (n := n) (b := (a : Int)) (m := n) (by omega))
  have e3 := Lib.hid (Om.less_no (a := (a : Int)) (n := n) (b := (a : Int)) (m := n) (by omega))
  go_enter Tryd.func6, Tryd.ntmps6
  go_wp2_with fail
  obtain ⟨⟨a0, a1⟩, ⟨b0, b1⟩, hB⟩ := two_pre w 24 24 a n a n
  generalize (w.alloc (.cells #[.int .u32 a, .int .i64 n] 24)).alloc (.cells #[.int .u32 a, .int .i64 n] 24) = v at *
  have HB := Lib.hid hB
  clear hB
  refine (addr_head _ (HT.out.held HB.out)).mono ?_
  rintro e w1 ⟨rfl, hb⟩
  replace a0 := held hb a0; replace a1 := held hb a1; replace b0 := held hb b0; replace b1 := held hb b1
  replace HB := Lib.hid (next HB.out hb); clear hb
  go_wp2_with fail
  refine (pre_cmp_eq e1.out _).mono ?_
  rintro e w2 ⟨rfl, hb⟩
  replace a0 := held hb a0; replace a1 := held hb a1; replace b0 := held hb b0; replace b1 := held hb b1
  replace HB := Lib.hid (next HB.out hb); clear hb
  go_wp2_with fail
  refine (less_eq e2.out _).mono ?_
  rintro e w3 ⟨rfl, hb⟩
  replace a0 := held hb a0; replace a1 := held hb a1; replace b0 := held hb b0; replace b1 := held hb b1
  replace HB := Lib.hid (next HB.out hb); clear hb
  go_wp2_with fail
  refine (less_eq e3.out _).mono ?_
  rintro e w4 ⟨rfl, hb⟩
  replace a0 := held hb a0; replace a1 := held hb a1; replace b0 := held hb b0; replace b1 := held hb b1
  replace HB := Lib.hid (next HB.out hb); clear hb
  go_wp2_with fail
  refine (refRight_eq ha R1.out _).mono ?_
  rintro e w5 ⟨rfl, hb⟩
  replace a0 := held hb a0; replace a1 := held hb a1; replace b0 := held hb b0; replace b1 := held hb b1
  replace HB := Lib.hid (next HB.out hb); clear hb
  go_wp2_with fail
  go_ret
  exact ⟨ret_bool (by first | rfl | decide | simp), HB.out⟩

set_option maxHeartbeats 1000000 in
theorem aord_eq_s2 (a : Nat) (n : Int) (ha : a < 4294967296)  (r1 : Am.right a n = true) (r2 : Am.right a n = false) (w : World) (ht : Tab w) :
    Calls Tryd.prog 6 #[.agg #[.int .u32 a, .int .i64 n], .agg #[.int .u32 a, .int .i64 n]] w fun e w' => e = .returned (.bool true) ∧ Below w.heap.size w w' := by
  have HT := Lib.hid ht
  have R1 := Lib.hid r1
  have R2 := Lib.hid r2
  clear ht r1 r2
  have e1 := Lib.hid (Om.pcmp_self (a : Int) n)
  have e2 := Lib.hid (Om.less_no (a := (a : Int)) (n := n) (b := (a : Int)) (m := n) (by omega))
  have e3 := Lib.hid (Om.less_no (a := (a : Int)) (n := n) (b := (a : Int)) (m := n) (by omega))
  go_enter Tryd.func6, Tryd.ntmps6
  go_wp2_with fail
  obtain ⟨⟨a0, a1⟩, ⟨b0, b1⟩, hB⟩ := two_pre w 24 24 a n a n
  generalize (w.alloc (.cells #[.int .u32 a, .int .i64 n] 24)).alloc (.cells #[.int .u32 a, .int .i64 n] 24) = v at *
  have HB := Lib.hid hB
  clear hB
  refine (addr_head _ (HT.out.held HB.out)).mono ?_
  rintro e w1 ⟨rfl, hb⟩
  replace a0 := held hb a0; replace a1 := held hb a1; replace b0 := held hb b0; replace b1 := held hb b1
  replace HB := Lib.hid (next HB.out hb); clear hb
  go_wp2_with fail
  refine (pre_cmp_eq e1.out _).mono ?_
  rintro e w2 ⟨rfl, hb⟩
  replace a0 := held hb a0; replace a1 := held hb a1; replace b0 := held hb b0; replace b1 := held hb b1
  replace HB := Lib.hid (next HB.out hb); clear hb
  go_wp2_with fail
  refine (less_eq e2.out _).mono ?_
  rintro e w3 ⟨rfl, hb⟩
  replace a0 := held hb a0; replace a1 := held hb a1; replace b0 := held hb b0; replace b1 := held hb b1
  replace HB := Lib.hid (next HB.out hb); clear hb
  go_wp2_with fail
  refine (less_eq e3.out _).mono ?_
  rintro e w4 ⟨rfl, hb⟩
  replace a0 := held hb a0; replace a1 := held hb a1; replace b0 := held hb b0; replace b1 := held hb b1
  replace HB := Lib.hid (next HB.out hb); clear hb
  go_wp2_with fail
  refine (refRight_eq ha R1.out _).mono ?_
  rintro e w5 ⟨rfl, hb⟩
  replace a0 := held hb a0; replace a1 := held hb a1; replace b0 := held hb b0; replace b1 := held hb b1
  replace HB := Lib.hid (next HB.out hb); clear hb
  go_wp2_with fail
  refine (refRight_eq ha R2.out _).mono ?_
  rintro e w6 ⟨rfl, hb⟩
  replace a0 := held hb a0; replace a1 := held hb a1; replace b0 := held hb b0; replace b1 := held hb b1
  replace HB := Lib.hid (next HB.out hb); clear hb
  go_wp2_with fail
  go_ret
  exact ⟨ret_bool (by first | rfl | decide | simp), HB.out⟩

set_option maxHeartbeats 1000000 in
theorem aord_eq_s4 (a : Nat) (n : Nat) (ha : a < 4294967296)  (r1 : Am.right a (n : Int) = true) (r2 : Am.right a (n : Int) = true) (_hm32 : n ≤ 32) (r3 : Am.has a (n : Int) a = false) (w : World) (ht : Tab w) :
    Calls Tryd.prog 6 #[.agg #[.int .u32 a, .int .i64 (n : Int)], .agg #[.int .u32 a, .int .i64 (n : Int)]] w fun e w' => e = .returned (.bool true) ∧ Below w.heap.size w w' := by
  have HT := Lib.hid ht
  have R1 := Lib.hid r1
  have R2 := Lib.hid r2
  have R3 := Lib.hid r3
  clear ht r1 r2 r3
  have e1 := Lib.hid (Om.pcmp_self (a : Int) (n : Int))
  have e2 := Lib.hid (Om.less_no (a := (a : Int)) (n := (n : Int)) (b := (a : Int)) (m := (n : Int)) (by omega))
  have e3 := Lib.hid (Om.less_no (a := (a : Int)) (n := (n : Int)) (b := (a : Int)) (m := (n : Int)) (by omega))
  go_enter Tryd.func6, Tryd.ntmps6
  go_wp2_with fail
  obtain ⟨⟨a0, a1⟩, ⟨b0, b1⟩, hB⟩ := two_pre w 24 24 a (n : Int) a (n : Int)
  generalize (w.alloc (.cells #[.int .u32 a, .int .i64 (n : Int)] 24)).alloc (.cells #[.int .u32 a, .int .i64 (n : Int)] 24) = v at *
  have HB := Lib.hid hB
  clear hB
  refine (addr_head _ (HT.out.held HB.out)).mono ?_
  rintro e w1 ⟨rfl, hb⟩
  replace a0 := held hb a0; replace a1 := held hb a1; replace b0 := held hb b0; replace b1 := held hb b1
  replace HB := Lib.hid (next HB.out hb); clear hb
  go_wp2_with fail
  refine (pre_cmp_eq e1.out _).mono ?_
  rintro e w2 ⟨rfl, hb⟩
  replace a0 := held hb a0; replace a1 := held hb a1; replace b0 := held hb b0; replace b1 := held hb b1
  replace HB := Lib.hid (next HB.out hb); clear hb
  go_wp2_with fail
  refine (less_eq e2.out _).mono ?_
  rintro e w3 ⟨rfl, hb⟩
  replace a0 := held hb a0; replace a1 := held hb a1; replace b0 := held hb b0; replace b1 := held hb b1
  replace HB := Lib.hid (next HB.out hb); clear hb
  go_wp2_with fail
  refine (less_eq e3.out _).mono ?_
  rintro e w4 ⟨rfl, hb⟩
  replace a0 := held hb a0; replace a1 := held hb a1; replace b0 := held hb b0; replace b1 := held hb b1
  replace HB := Lib.hid (next HB.out hb); clear hb
  go_wp2_with fail
  refine (refRight_eq ha R1.out _).mono ?_
  rintro e w5 ⟨rfl, hb⟩
  replace a0 := held hb a0; replace a1 := held hb a1; replace b0 := held hb b0; replace b1 := held hb b1
  replace HB := Lib.hid (next HB.out hb); clear hb
  go_wp2_with fail
  refine (refRight_eq ha R2.out _).mono ?_
  rintro e w6 ⟨rfl, hb⟩
  replace a0 := held hb a0; replace a1 := held hb a1; replace b0 := held hb b0; replace b1 := held hb b1
  replace HB := Lib.hid (next HB.out hb); clear hb
  go_wp2_with fail
  refine (has_eq ha ha R3.out _).mono ?_
  rintro e w7 ⟨rfl, hb⟩
  replace a0 := held hb a0; replace a1 := held hb a1; replace b0 := held hb b0; replace b1 := held hb b1
  replace HB := Lib.hid (next HB.out hb); clear hb
  go_wp2_with fail
  go_ret
  exact ⟨ret_bool (by first | rfl | decide | simp), HB.out⟩

set_option maxHeartbeats 1000000 in
theorem aord_eq_s5 (a : Nat) (n : Nat) (ha : a < 4294967296)  (r1 : Am.right a (n : Int) = true) (r2 : Am.right a (n : Int) = true) (hm32 : n ≤ 32) (r3 : Am.has a (n : Int) a = true) (r4 : Am.has a (n : Int) (a ||| (4294967295 / 2 ^ n)) = true) (w : World) (ht : Tab w) :
    Calls Tryd.prog 6 #[.agg #[.int .u32 a, .int .i64 (n : Int)], .agg #[.int .u32 a, .int .i64 (n : Int)]] w fun e w' => e = .returned (.bool true) ∧ Below w.heap.size w w' := by
  have HT := Lib.hid ht
  have R1 := Lib.hid r1
  have R2 := Lib.hid r2
  have R3 := Lib.hid r3
  have R4 := Lib.hid r4
  have OR := Lib.hid (or_last a n ha)
  clear ht r1 r2 r3 r4
  have e1 := Lib.hid (Om.pcmp_self (a : Int) (n : Int))
  have e2 := Lib.hid (Om.less_no (a := (a : Int)) (n := (n : Int)) (b := (a : Int)) (m := (n : Int)) (by omega))
  have e3 := Lib.hid (Om.less_no (a := (a : Int)) (n := (n : Int)) (b := (a : Int)) (m := (n : Int)) (by omega))
  go_enter Tryd.func6, Tryd.ntmps6
  go_wp2_with fail
  obtain ⟨⟨a0, a1⟩, ⟨b0, b1⟩, hB⟩ := two_pre w 24 24 a (n : Int) a (n : Int)
  generalize (w.alloc (.cells #[.int .u32 a, .int .i64 (n : Int)] 24)).alloc (.cells #[.int .u32 a, .int .i64 (n : Int)] 24) = v at *
  have HB := Lib.hid hB
  clear hB
  refine (addr_head _ (HT.out.held HB.out)).mono ?_
  rintro e w1 ⟨rfl, hb⟩
  replace a0 := held hb a0; replace a1 := held hb a1; replace b0 := held hb b0; replace b1 := held hb b1
  replace HB := Lib.hid (next HB.out hb); clear hb
  go_wp2_with fail
  refine (pre_cmp_eq e1.out _).mono ?_
  rintro e w2 ⟨rfl, hb⟩
  replace a0 := held hb a0; replace a1 := held hb a1; replace b0 := held hb b0; replace b1 := held hb b1
  replace HB := Lib.hid (next HB.out hb); clear hb
  go_wp2_with fail
  refine (less_eq e2.out _).mono ?_
  rintro e w3 ⟨rfl, hb⟩
  replace a0 := held hb a0; replace a1 := held hb a1; replace b0 := held hb b0; replace b1 := held hb b1
  replace HB := Lib.hid (next HB.out hb); clear hb
  go_wp2_with fail
  refine (less_eq e3.out _).mono ?_
  rintro e w4 ⟨rfl, hb⟩
  replace a0 := held hb a0; replace a1 := held hb a1; replace b0 := held hb b0; replace b1 := held hb b1
  replace HB := Lib.hid (next HB.out hb); clear hb
  go_wp2_with fail
  refine (refRight_eq ha R1.out _).mono ?_
  rintro e w5 ⟨rfl, hb⟩
  replace a0 := held hb a0; replace a1 := held hb a1; replace b0 := held hb b0; replace b1 := held hb b1
  replace HB := Lib.hid (next HB.out hb); clear hb
  go_wp2_with fail
  refine (refRight_eq ha R2.out _).mono ?_
  rintro e w6 ⟨rfl, hb⟩
  replace a0 := held hb a0; replace a1 := held hb a1; replace b0 := held hb b0; replace b1 := held hb b1
  replace HB := Lib.hid (next HB.out hb); clear hb
  go_wp2_with fail
  refine (has_eq ha ha R3.out _).mono ?_
  rintro e w7 ⟨rfl, hb⟩
  replace a0 := held hb a0; replace a1 := held hb a1; replace b0 := held hb b0; replace b1 := held hb b1
  replace HB := Lib.hid (next HB.out hb); clear hb
  go_wp2_with fail
  rw [OR.out]
  refine (has_eq ha (last_lt a n ha) R4.out _).mono ?_
  rintro e w8 ⟨rfl, hb⟩
  replace a0 := held hb a0; replace a1 := held hb a1; replace b0 := held hb b0; replace b1 := held hb b1
  replace HB := Lib.hid (next HB.out hb); clear hb
  go_wp2_with fail
  refine (pre_cmp_eq e1.out _).mono ?_
  rintro e w9 ⟨rfl, hb⟩
  replace a0 := held hb a0; replace a1 := held hb a1; replace b0 := held hb b0; replace b1 := held hb b1
  replace HB := Lib.hid (next HB.out hb); clear hb
  go_wp2_with fail
  go_ret
  exact ⟨ret_bool (by first | rfl | decide | simp), HB.out⟩

set_option maxHeartbeats 1000000 in
theorem aord_lt1_s1 (a b : Nat) (n m : Int) (ha : a < 4294967296) (_hb0 : b < 4294967296) (ho : (a : Int) < (b : Int)) (r1 : Am.right a n = false) (w : World) (ht : Tab w) :
    Calls Tryd.prog 6 #[.agg #[.int .u32 a, .int .i64 n], .agg #[.int .u32 b, .int .i64 m]] w fun e w' => e = .returned (.bool true) ∧ Below w.heap.size w w' := by
  have HT := Lib.hid ht
  have R1 := Lib.hid r1
  clear ht r1
  have e1 := Lib.hid (Om.pcmp_lt (a := (a : Int)) (n := n) (b := (b : Int)) (m := m) (by omega))
  have e2 := Lib.hid (Om.less_yes (a := (a : Int)) (n := n) (b := (b : Int)) (m := m) (by omega))
  have e3 := Lib.hid (Om.less_no (a := (b : Int)) (n := m) (b := (a : Int)) (m := n) (by omega))
  go_enter Tryd.func6, Tryd.ntmps6
  go_wp2_with fail
  obtain ⟨⟨a0, a1⟩, ⟨b0, b1⟩, hB⟩ := two_pre w 24 24 a n b m
  generalize (w.alloc (.cells #[.int .u32 a, .int .i64 n] 24)).alloc (.cells #[.int .u32 b, .int .i64 m] 24) = v at *
  have HB := Lib.hid hB
  clear hB
  refine (addr_head _ (HT.out.held HB.out)).mono ?_
  rintro e w1 ⟨rfl, hb⟩
  replace a0 := held hb a0; replace a1 := held hb a1; replace b0 := held hb b0; replace b1 := held hb b1
  replace HB := Lib.hid (next HB.out hb); clear hb
  go_wp2_with fail
  refine (pre_cmp_eq e1.out _).mono ?_
  rintro e w2 ⟨rfl, hb⟩
  replace a0 := held hb a0; replace a1 := held hb a1; replace b0 := held hb b0; replace b1 := held hb b1
  replace HB := Lib.hid (next HB.out hb); clear hb
  go_wp2_with fail
  refine (less_eq e2.out _).mono ?_
  rintro e w3 ⟨rfl, hb⟩
  replace a0 := held hb a0; replace a1 := held hb a1; replace b0 := held hb b0; replace b1 := held hb b1
  replace HB := Lib.hid (next HB.out hb); clear hb
  go_wp2_with fail
  refine (less_eq e3.out _).mono ?_
  rintro e w4 ⟨rfl, hb⟩
  replace a0 := held hb a0; replace a1 := held hb a1; replace b0 := held hb b0; replace b1 := held hb b1
  replace HB := Lib.hid (next HB.out hb); clear hb
  go_wp2_with fail
  refine (refRight_eq ha R1.out _).mono ?_
  rintro e w5 ⟨rfl, hb⟩
  replace a0 := held hb a0; replace a1 := held hb a1; replace b0 := held hb b0; replace b1 := held hb b1
  replace HB := Lib.hid (next HB.out hb); clear hb
  go_wp2_with fail
  go_ret
  exact ⟨ret_bool (by first | rfl | decide | simp), HB.out⟩

set_option maxHeartbeats 1000000 in
theorem aord_lt1_s2 (a b : Nat) (n m : Int) (ha : a < 4294967296) (hb0 : b < 4294967296) (ho : (a : Int) < (b : Int)) (r1 : Am.right a n = true) (r2 : Am.right b m = false) (w : World) (ht : Tab w) :
    Calls Tryd.prog 6 #[.agg #[.int .u32 a, .int .i64 n], .agg #[.int .u32 b, .int .i64 m]] w fun e w' => e = .returned (.bool true) ∧ Below w.heap.size w w' := by
  have HT := Lib.hid ht
  have R1 := Lib.hid r1
  have R2 := Lib.hid r2
  clear ht r1 r2
  have e1 := Lib.hid (Om.pcmp_lt (a := (a : Int)) (n := n) (b := (b : Int)) (m := m) (by omega))
  have e2 := Lib.hid (Om.less_yes (a := (a : Int)) (n := n) (b := (b : Int)) (m := m) (by omega))
  have e3 := Lib.hid (Om.less_no (a := (b : Int)) (n := m) (b := (a : Int)) (m := n) (by omega))
  go_enter Tryd.func6, Tryd.ntmps6
  go_wp2_with fail
  obtain ⟨⟨a0, a1⟩, ⟨b0, b1⟩, hB⟩ := two_pre w 24 24 a n b m
  generalize (w.alloc (.cells #[.int .u32 a, .int .i64 n] 24)).alloc (.cells #[.int .u32 b, .int .i64 m] 24) = v at *
  have HB := Lib.hid hB
  clear hB
  refine (addr_head _ (HT.out.held HB.out)).mono ?_
  rintro e w1 ⟨rfl, hb⟩
  replace a0 := held hb a0; replace a1 := held hb a1; replace b0 := held hb b0; replace b1 := held hb b1
  replace HB := Lib.hid (next HB.out hb); clear hb
  go_wp2_with fail
  refine (pre_cmp_eq e1.out _).mono ?_
  rintro e w2 ⟨rfl, hb⟩
  replace a0 := held hb a0; replace a1 := held hb a1; replace b0 := held hb b0; replace b1 := held hb b1
  replace HB := Lib.hid (next HB.out hb); clear hb
  go_wp2_with fail
  refine (less_eq e2.out _).mono ?_
  rintro e w3 ⟨rfl, hb⟩
  replace a0 := held hb a0; replace a1 := held hb a1; replace b0 := held hb b0; replace b1 := held hb b1
  replace HB := Lib.hid (next HB.out hb); clear hb
  go_wp2_with fail
  refine (less_eq e3.out _).mono ?_
  rintro e w4 ⟨rfl, hb⟩
  replace a0 := held hb a0; replace a1 := held hb a1; replace b0 := held hb b0; replace b1 := held hb b1
  replace HB := Lib.hid (next HB.out hb); clear hb
  go_wp2_with fail
  refine (refRight_eq ha R1.out _).mono ?_
  rintro e w5 ⟨rfl, hb⟩
  replace a0 := held hb a0; replace a1 := held hb a1; replace b0 := held hb b0; replace b1 := held hb b1
  replace HB := Lib.hid (next HB.out hb); clear hb
  go_wp2_with fail
  refine (refRight_eq hb0 R2.out _).mono ?_
  rintro e w6 ⟨rfl, hb⟩
  replace a0 := held hb a0; replace a1 := held hb a1; replace b0 := held hb b0; replace b1 := held hb b1
  replace HB := Lib.hid (next HB.out hb); clear hb
  go_wp2_with fail
  go_ret
  exact ⟨ret_bool (by first | rfl | decide | simp), HB.out⟩

set_option maxHeartbeats 1000000 in
theorem aord_lt1_s3 (a b : Nat) (n m : Int) (ha : a < 4294967296) (hb0 : b < 4294967296) (ho : (a : Int) < (b : Int)) (r1 : Am.right a n = true) (r2 : Am.right b m = true) (hl : m < n) (w : World) (ht : Tab w) :
    Calls Tryd.prog 6 #[.agg #[.int .u32 a, .int .i64 n], .agg #[.int .u32 b, .int .i64 m]] w fun e w' => e = .returned (.bool true) ∧ Below w.heap.size w w' := by
  have HT := Lib.hid ht
  have R1 := Lib.hid r1
  have R2 := Lib.hid r2
  clear ht r1 r2
  have e1 := Lib.hid (Om.pcmp_lt (a := (a : Int)) (n := n) (b := (b : Int)) (m := m) (by omega))
  have e2 := Lib.hid (Om.less_yes (a := (a : Int)) (n := n) (b := (b : Int)) (m := m) (by omega))
  have e3 := Lib.hid (Om.less_no (a := (b : Int)) (n := m) (b := (a : Int)) (m := n) (by omega))
  go_enter Tryd.func6, Tryd.ntmps6
  go_wp2_with fail
  obtain ⟨⟨a0, a1⟩, ⟨b0, b1⟩, hB⟩ := two_pre w 24 24 a n b m
  generalize (w.alloc (.cells #[.int .u32 a, .int .i64 n] 24)).alloc (.cells #[.int .u32 b, .int .i64 m] 24) = v at *
  have HB := Lib.hid hB
  clear hB
  refine (addr_head _ (HT.out.held HB.out)).mono ?_
  rintro e w1 ⟨rfl, hb⟩
  replace a0 := held hb a0; replace a1 := held hb a1; replace b0 := held hb b0; replace b1 := held hb b1
  replace HB := Lib.hid (next HB.out hb); clear hb
  go_wp2_with fail
  refine (pre_cmp_eq e1.out _).mono ?_
  rintro e w2 ⟨rfl, hb⟩
  replace a0 := held hb a0; replace a1 := held hb a1; replace b0 := held hb b0; replace b1 := held hb b1
  replace HB := Lib.hid (next HB.out hb); clear hb
  go_wp2_with fail
  refine (less_eq e2.out _).mono ?_
  rintro e w3 ⟨rfl, hb⟩
  replace a0 := held hb a0; replace a1 := held hb a1; replace b0 := held hb b0; replace b1 := held hb b1
  replace HB := Lib.hid (next HB.out hb); clear hb
  go_wp2_with fail
  refine (less_eq e3.out _).mono ?_
  rintro e w4 ⟨rfl, hb⟩
  replace a0 := held hb a0; replace a1 := held hb a1; replace b0 := held hb b0; replace b1 := held hb b1
  replace HB := Lib.hid (next HB.out hb); clear hb
  go_wp2_with fail
  refine (refRight_eq ha R1.out _).mono ?_
  rintro e w5 ⟨rfl, hb⟩
  replace a0 := held hb a0; replace a1 := held hb a1; replace b0 := held hb b0; replace b1 := held hb b1
  replace HB := Lib.hid (next HB.out hb); clear hb
  go_wp2_with fail
  refine (refRight_eq hb0 R2.out _).mono ?_
  rintro e w6 ⟨rfl, hb⟩
  replace a0 := held hb a0; replace a1 := held hb a1; replace b0 := held hb b0; replace b1 := held hb b1
  replace HB := Lib.hid (next HB.out hb); clear hb
  go_wp2_with fail
  go_ret
  exact ⟨ret_bool (by first | rfl | decide | simp), HB.out⟩

set_option maxHeartbeats 1000000 in
theorem aord_lt1_s4 (a b : Nat) (n m : Nat) (ha : a < 4294967296) (hb0 : b < 4294967296) (ho : (a : Int) < (b : Int)) (r1 : Am.right a (n : Int) = true) (r2 : Am.right b (m : Int) = true) (hl : (n : Int) ≤ (m : Int)) (_hm32 : m ≤ 32) (r3 : Am.has a (n : Int) b = false) (w : World) (ht : Tab w) :
    Calls Tryd.prog 6 #[.agg #[.int .u32 a, .int .i64 (n : Int)], .agg #[.int .u32 b, .int .i64 (m : Int)]] w fun e w' => e = .returned (.bool true) ∧ Below w.heap.size w w' := by
  have HT := Lib.hid ht
  have R1 := Lib.hid r1
  have R2 := Lib.hid r2
  have R3 := Lib.hid r3
  clear ht r1 r2 r3
  have e1 := Lib.hid (Om.pcmp_lt (a := (a : Int)) (n := (n : Int)) (b := (b : Int)) (m := (m : Int)) (by omega))
  have e2 := Lib.hid (Om.less_yes (a := (a : Int)) (n := (n : Int)) (b := (b : Int)) (m := (m : Int)) (by omega))
  have e3 := Lib.hid (Om.less_no (a := (b : Int)) (n := (m : Int)) (b := (a : Int)) (m := (n : Int)) (by omega))
  go_enter Tryd.func6, Tryd.ntmps6
  go_wp2_with fail
  obtain ⟨⟨a0, a1⟩, ⟨b0, b1⟩, hB⟩ := two_pre w 24 24 a (n : Int) b (m : Int)
  generalize (w.alloc (.cells #[.int .u32 a, .int .i64 (n : Int)] 24)).alloc (.cells #[.int .u32 b, .int .i64 (m : Int)] 24) = v at *
  have HB := Lib.hid hB
  clear hB
  refine (addr_head _ (HT.out.held HB.out)).mono ?_
  rintro e w1 ⟨rfl, hb⟩
  replace a0 := held hb a0; replace a1 := held hb a1; replace b0 := held hb b0; replace b1 := held hb b1
  replace HB := Lib.hid (next HB.out hb); clear hb
  go_wp2_with fail
  refine (pre_cmp_eq e1.out _).mono ?_
  rintro e w2 ⟨rfl, hb⟩
  replace a0 := held hb a0; replace a1 := held hb a1; replace b0 := held hb b0; replace b1 := held hb b1
  replace HB := Lib.hid (next HB.out hb); clear hb
  go_wp2_with fail
  refine (less_eq e2.out _).mono ?_
  rintro e w3 ⟨rfl, hb⟩
  replace a0 := held hb a0; replace a1 := held hb a1; replace b0 := held hb b0; replace b1 := held hb b1
  replace HB := Lib.hid (next HB.out hb); clear hb
  go_wp2_with fail
  refine (less_eq e3.out _).mono ?_
  rintro e w4 ⟨rfl, hb⟩
  replace a0 := held hb a0; replace a1 := held hb a1; replace b0 := held hb b0; replace b1 := held hb b1
  replace HB := Lib.hid (next HB.out hb); clear hb
  go_wp2_with fail
  refine (refRight_eq ha R1.out _).mono ?_
  rintro e w5 ⟨rfl, hb⟩
  replace a0 := held hb a0; replace a1 := held hb a1; replace b0 := held hb b0; replace b1 := held hb b1
  replace HB := Lib.hid (next HB.out hb); clear hb
  go_wp2_with fail
  refine (refRight_eq hb0 R2.out _).mono ?_
  rintro e w6 ⟨rfl, hb⟩
  replace a0 := held hb a0; replace a1 := held hb a1; replace b0 := held hb b0; replace b1 := held hb b1
  replace HB := Lib.hid (next HB.out hb); clear hb
  go_wp2_with fail
  refine (has_eq ha hb0 R3.out _).mono ?_
  rintro e w7 ⟨rfl, hb⟩
  replace a0 := held hb a0; replace a1 := held hb a1; replace b0 := held hb b0; replace b1 := held hb b1
  replace HB := Lib.hid (next HB.out hb); clear hb
  go_wp2_with fail
  go_ret
  exact ⟨ret_bool (by first | rfl | decide | simp), HB.out⟩

set_option maxHeartbeats 1000000 in
theorem aord_lt1_s5 (a b : Nat) (n m : Nat) (ha : a < 4294967296) (hb0 : b < 4294967296) (ho : (a : Int) < (b : Int)) (r1 : Am.right a (n : Int) = true) (r2 : Am.right b (m : Int) = true) (hl : (n : Int) ≤ (m : Int)) (hm32 : m ≤ 32) (r3 : Am.has a (n : Int) b = true) (r4 : Am.has a (n : Int) (b ||| (4294967295 / 2 ^ m)) = true) (w : World) (ht : Tab w) :
    Calls Tryd.prog 6 #[.agg #[.int .u32 a, .int .i64 (n : Int)], .agg #[.int .u32 b, .int .i64 (m : Int)]] w fun e w' => e = .returned (.bool true) ∧ Below w.heap.size w w' := by
  have HT := Lib.hid ht
  have R1 := Lib.hid r1
  have R2 := Lib.hid r2
  have R3 := Lib.hid r3
  have R4 := Lib.hid r4
  have OR := Lib.hid (or_last b m hb0)
  clear ht r1 r2 r3 r4
  have e1 := Lib.hid (Om.pcmp_lt (a := (a : Int)) (n := (n : Int)) (b := (b : Int)) (m := (m : Int)) (by omega))
  have e2 := Lib.hid (Om.less_yes (a := (a : Int)) (n := (n : Int)) (b := (b : Int)) (m := (m : Int)) (by omega))
  have e3 := Lib.hid (Om.less_no (a := (b : Int)) (n := (m : Int)) (b := (a : Int)) (m := (n : Int)) (by omega))
  go_enter Tryd.func6, Tryd.ntmps6
  go_wp2_with fail
  obtain ⟨⟨a0, a1⟩, ⟨b0, b1⟩, hB⟩ := two_pre w 24 24 a (n : Int) b (m : Int)
  generalize (w.alloc (.cells #[.int .u32 a, .int .i64 (n : Int)] 24)).alloc (.cells #[.int .u32 b, .int .i64 (m : Int)] 24) = v at *
  have HB := Lib.hid hB
  clear hB
  refine (addr_head _ (HT.out.held HB.out)).mono ?_
  rintro e w1 ⟨rfl, hb⟩
  replace a0 := held hb a0; replace a1 := held hb a1; replace b0 := held hb b0; replace b1 := held hb b1
  replace HB := Lib.hid (next HB.out hb); clear hb
  go_wp2_with fail
  refine (pre_cmp_eq e1.out _).mono ?_
  rintro e w2 ⟨rfl, hb⟩
  replace a0 := held hb a0; replace a1 := held hb a1; replace b0 := held hb b0; replace b1 := held hb b1
  replace HB := Lib.hid (next HB.out hb); clear hb
  go_wp2_with fail
  refine (less_eq e2.out _).mono ?_
  rintro e w3 ⟨rfl, hb⟩
  replace a0 := held hb a0; replace a1 := held hb a1; replace b0 := held hb b0; replace b1 := held hb b1
  replace HB := Lib.hid (next HB.out hb); clear hb
  go_wp2_with fail
  refine (less_eq e3.out _).mono ?_
  rintro e w4 ⟨rfl, hb⟩
  replace a0 := held hb a0; replace a1 := held hb a1; replace b0 := held hb b0; replace b1 := held hb b1
  replace HB := Lib.hid (next HB.out hb); clear hb
  go_wp2_with fail
  refine (refRight_eq ha R1.out _).mono ?_
  rintro e w5 ⟨rfl, hb⟩
  replace a0 := held hb a0; replace a1 := held hb a1; replace b0 := held hb b0; replace b1 := held hb b1
  replace HB := Lib.hid (next HB.out hb); clear hb
  go_wp2_with fail
  refine (refRight_eq hb0 R2.out _).mono ?_
  rintro e w6 ⟨rfl, hb⟩
  replace a0 := held hb a0; replace a1 := held hb a1; replace b0 := held hb b0; replace b1 := held hb b1
  replace HB := Lib.hid (next HB.out hb); clear hb
  go_wp2_with fail
  refine (has_eq ha hb0 R3.out _).mono ?_
  rintro e w7 ⟨rfl, hb⟩
  replace a0 := held hb a0; replace a1 := held hb a1; replace b0 := held hb b0; replace b1 := held hb b1
  replace HB := Lib.hid (next HB.out hb); clear hb
  go_wp2_with fail
  rw [OR.out]
  refine (has_eq ha (last_lt b m hb0) R4.out _).mono ?_
  rintro e w8 ⟨rfl, hb⟩
  replace a0 := held hb a0; replace a1 := held hb a1; replace b0 := held hb b0; replace b1 := held hb b1
  replace HB := Lib.hid (next HB.out hb); clear hb
  go_wp2_with fail
  refine (pre_cmp_eq e1.out _).mono ?_
  rintro e w9 ⟨rfl, hb⟩
  replace a0 := held hb a0; replace a1 := held hb a1; replace b0 := held hb b0; replace b1 := held hb b1
  replace HB := Lib.hid (next HB.out hb); clear hb
  go_wp2_with fail
  go_ret
  exact ⟨ret_bool (by first | rfl | decide | simp), HB.out⟩

set_option maxHeartbeats 1000000 in
theorem aord_lt2_s1 (a : Nat) (n m : Int) (ha : a < 4294967296) (ho : n < m) (r1 : Am.right a n = false) (w : World) (ht : Tab w) :
    Calls Tryd.prog 6 #[.agg #[.int .u32 a, .int .i64 n], .agg #[.int .u32 a, .int .i64 m]] w fun e w' => e = .returned (.bool true) ∧ Below w.heap.size w w' := by
  have HT := Lib.hid ht
  have R1 := Lib.hid r1
  clear ht r1
  have e1 := Lib.hid (Om.pcmp_lt (a := (a : Int)) (n := n) (b := (a : Int)) (m := m) (by omega))
  have e2 := Lib.hid (Om.less_yes (a := (a : Int)) (n := n) (b := (a : Int)) (m := m) (by omega))
  have e3 := Lib.hid (Om.less_no (a := (a : Int)) (n := m) (b := (a : Int)) (m := n) (by omega))
  go_enter Tryd.func6, Tryd.ntmps6
  go_wp2_with fail
  obtain ⟨⟨a0, a1⟩, ⟨b0, b1⟩, hB⟩ := two_pre w 24 24 a n a m
  generalize (w.alloc (.cells #[.int .u32 a, .int .i64 n] 24)).alloc (.cells #[.int .u32 a, .int .i64 m] 24) = v at *
  have HB := Lib.hid hB
  clear hB
  refine (addr_head _ (HT.out.held HB.out)).mono ?_
  rintro e w1 ⟨rfl, hb⟩
  replace a0 := held hb a0; replace a1 := held hb a1; replace b0 := held hb b0; replace b1 := held hb b1
  replace HB := Lib.hid (next HB.out hb); clear hb
  go_wp2_with fail
  refine (pre_cmp_eq e1.out _).mono ?_
  rintro e w2 ⟨rfl, hb⟩
  replace a0 := held hb a0; replace a1 := held hb a1; replace b0 := held hb b0; replace b1 := held hb b1
  replace HB := Lib.hid (next HB.out hb); clear hb
  go_wp2_with fail
  refine (less_eq e2.out _).mono ?_
  rintro e w3 ⟨rfl, hb⟩
  replace a0 := held hb a0; replace a1 := held hb a1; replace b0 := held hb b0; replace b1 := held hb b1
  replace HB := Lib.hid (next HB.out hb); clear hb
  go_wp2_with fail
  refine (less_eq e3.out _).mono ?_
  rintro e w4 ⟨rfl, hb⟩
  replace a0 := held hb a0; replace a1 := held hb a1; replace b0 := held hb b0; replace b1 := held hb b1
  replace HB := Lib.hid (next HB.out hb); clear hb
  go_wp2_with fail
  refine (refRight_eq ha R1.out _).mono ?_
  rintro e w5 ⟨rfl, hb⟩
  replace a0 := held hb a0; replace a1 := held hb a1; replace b0 := held hb b0; replace b1 := held hb b1
  replace HB := Lib.hid (next HB.out hb); clear hb
  go_wp2_with fail
  go_ret
  exact ⟨ret_bool (by first | rfl | decide | simp), HB.out⟩

set_option maxHeartbeats 1000000 in
theorem aord_lt2_s2 (a : Nat) (n m : Int) (ha : a < 4294967296) (ho : n < m) (r1 : Am.right a n = true) (r2 : Am.right a m = false) (w : World) (ht : Tab w) :
    Calls Tryd.prog 6 #[.agg #[.int .u32 a, .int .i64 n], .agg #[.int .u32 a, .int .i64 m]] w fun e w' => e = .returned (.bool true) ∧ Below w.heap.size w w' := by
  have HT := Lib.hid ht
  have R1 := Lib.hid r1
  have R2 := Lib.hid r2
  clear ht r1 r2
  have e1 := Lib.hid (Om.pcmp_lt (a := (a : Int)) (n := n) (b := (a : Int)) (m := m) (by omega))
  have e2 := Lib.hid (Om.less_yes (a := (a : Int)) (n := n) (b := (a : Int)) (m := m) (by omega))
  have e3 := Lib.hid (Om.less_no (a := (a : Int)) (n := m) (b := (a : Int)) (m := n) (by omega))
  go_enter Tryd.func6, Tryd.ntmps6
  go_wp2_with fail
  obtain ⟨⟨a0, a1⟩, ⟨b0, b1⟩, hB⟩ := two_pre w 24 24 a n a m
  generalize (w.alloc (.cells #[.int .u32 a, .int .i64 n] 24)).alloc (.cells #[.int .u32 a, .int .i64 m] 24) = v at *
  have HB := Lib.hid hB
  clear hB
  refine (addr_head _ (HT.out.held HB.out)).mono ?_
  rintro e w1 ⟨rfl, hb⟩
  replace a0 := held hb a0; replace a1 := held hb a1; replace b0 := held hb b0; replace b1 := held hb b1
  replace HB := Lib.hid (next HB.out hb); clear hb
  go_wp2_with fail
  refine (pre_cmp_eq e1.out _).mono ?_
  rintro e w2 ⟨rfl, hb⟩
  replace a0 := held hb a0; replace a1 := held hb a1; replace b0 := held hb b0; replace b1 := held hb b1
  replace HB := Lib.hid (next HB.out hb); clear hb
  go_wp2_with fail
  refine (less_eq e2.out _).mono ?_
  rintro e w3 ⟨rfl, hb⟩
  replace a0 := held hb a0; replace a1 := held hb a1; replace b0 := held hb b0; replace b1 := held hb b1
  replace HB := Lib.hid (next HB.out hb); clear hb
  go_wp2_with fail
  refine (less_eq e3.out _).mono ?_
  rintro e w4 ⟨rfl, hb⟩
  replace a0 := held hb a0; replace a1 := held hb a1; replace b0 := held hb b0; replace b1 := held hb b1
  replace HB := Lib.hid (next HB.out hb); clear hb
  go_wp2_with fail
  refine (refRight_eq ha R1.out _).mono ?_
  rintro e w5 ⟨rfl, hb⟩
  replace a0 := held hb a0; replace a1 := held hb a1; replace b0 := held hb b0; replace b1 := held hb b1
  replace HB := Lib.hid (next HB.out hb); clear hb
  go_wp2_with fail
  refine (refRight_eq ha R2.out _).mono ?_
  rintro e w6 ⟨rfl, hb⟩
  replace a0 := held hb a0; replace a1 := held hb a1; replace b0 := held hb b0; replace b1 := held hb b1
  replace HB := Lib.hid (next HB.out hb); clear hb
  go_wp2_with fail
  go_ret
  exact ⟨ret_bool (by first | rfl | decide | simp), HB.out⟩

set_option maxHeartbeats 1000000 in
theorem aord_lt2_s4 (a : Nat) (n m : Nat) (ha : a < 4294967296) (ho : (n : Int) < (m : Int)) (r1 : Am.right a (n : Int) = true) (r2 : Am.right a (m : Int) = true) (_hl : (n : Int) ≤ (m : Int)) (_hm32 : m ≤ 32) (r3 : Am.has a (n : Int) a = false) (w : World) (ht : Tab w) :
    Calls Tryd.prog 6 #[.agg #[.int .u32 a, .int .i64 (n : Int)], .agg #[.int .u32 a, .int .i64 (m : Int)]] w fun e w' => e = .returned (.bool true) ∧ Below w.heap.size w w' := by
  have HT := Lib.hid ht
  have R1 := Lib.hid r1
  have R2 := Lib.hid r2
  have R3 := Lib.hid r3
  clear ht r1 r2 r3
  have e1 := Lib.hid (Om.pcmp_lt (a := (a : Int)) (n := (n : Int)) (b := (a : Int)) (m := (m : Int)) (by omega))
  have e2 := Lib.hid (Om.less_yes (a := (a : Int)) (n := (n : Int)) (b := (a : Int)) (m := (m : Int)) (by omega))
  have e3 := Lib.hid (Om.less_no (a := (a : Int)) (n := (m : Int)) (b := (a : Int)) (m := (n : Int)) (by omega))
  go_enter Tryd.func6, Tryd.ntmps6
  go_wp2_with fail
  obtain ⟨⟨a0, a1⟩, ⟨b0, b1⟩, hB⟩ := two_pre w 24 24 a (n : Int) a (m : Int)
  generalize (w.alloc (.cells #[.int .u32 a, .int .i64 (n : Int)] 24)).alloc (.cells #[.int .u32 a, .int .i64 (m : Int)] 24) = v at *
  have HB := Lib.hid hB
  clear hB
  refine (addr_head _ (HT.out.held HB.out)).mono ?_
  rintro e w1 ⟨rfl, hb⟩
  replace a0 := held hb a0; replace a1 := held hb a1; replace b0 := held hb b0; replace b1 := held hb b1
  replace HB := Lib.hid (next HB.out hb); clear hb
  go_wp2_with fail
  refine (pre_cmp_eq e1.out _).mono ?_
  rintro e w2 ⟨rfl, hb⟩
  replace a0 := held hb a0; replace a1 := held hb a1; replace b0 := held hb b0; replace b1 := held hb b1
  replace HB := Lib.hid (next HB.out hb); clear hb
  go_wp2_with fail
  refine (less_eq e2.out _).mono ?_
  rintro e w3 ⟨rfl, hb⟩
  replace a0 := held hb a0; replace a1 := held hb a1; replace b0 := held hb b0; replace b1 := held hb b1
  replace HB := Lib.hid (next HB.out hb); clear hb
  go_wp2_with fail
  refine (less_eq e3.out _).mono ?_
  rintro e w4 ⟨rfl, hb⟩
  replace a0 := held hb a0; replace a1 := held hb a1; replace b0 := held hb b0; replace b1 := held hb b1
  replace HB := Lib.hid (next HB.out hb); clear hb
  go_wp2_with fail
  refine (refRight_eq ha R1.out _).mono ?_
  rintro e w5 ⟨rfl, hb⟩
  replace a0 := held hb a0; replace a1 := held hb a1; replace b0 := held hb b0; replace b1 := held hb b1
  replace HB := Lib.hid (next HB.out hb); clear hb
  go_wp2_with fail
  refine (refRight_eq ha R2.out _).mono ?_
  rintro e w6 ⟨rfl, hb⟩
  replace a0 := held hb a0; replace a1 := held hb a1; replace b0 := held hb b0; replace b1 := held hb b1
  replace HB := Lib.hid (next HB.out hb); clear hb
  go_wp2_with fail
  refine (has_eq ha ha R3.out _).mono ?_
  rintro e w7 ⟨rfl, hb⟩
  replace a0 := held hb a0; replace a1 := held hb a1; replace b0 := held hb b0; replace b1 := held hb b1
  replace HB := Lib.hid (next HB.out hb); clear hb
  go_wp2_with fail
  go_ret
  exact ⟨ret_bool (by first | rfl | decide | simp), HB.out⟩

set_option maxHeartbeats 1000000 in
theorem aord_lt2_s5 (a : Nat) (n m : Nat) (ha : a < 4294967296) (ho : (n : Int) < (m : Int)) (r1 : Am.right a (n : Int) = true) (r2 : Am.right a (m : Int) = true) (_hl : (n : Int) ≤ (m : Int)) (hm32 : m ≤ 32) (r3 : Am.has a (n : Int) a = true) (r4 : Am.has a (n : Int) (a ||| (4294967295 / 2 ^ m)) = true) (w : World) (ht : Tab w) :
    Calls Tryd.prog 6 #[.agg #[.int .u32 a, .int .i64 (n : Int)], .agg #[.int .u32 a, .int .i64 (m : Int)]] w fun e w' => e = .returned (.bool true) ∧ Below w.heap.size w w' := by
  have HT := Lib.hid ht
  have R1 := Lib.hid r1
  have R2 := Lib.hid r2
  have R3 := Lib.hid r3
  have R4 := Lib.hid r4
  have OR := Lib.hid (or_last a m ha)
  clear ht r1 r2 r3 r4
  have e1 := Lib.hid (Om.pcmp_lt (a := (a : Int)) (n := (n : Int)) (b := (a : Int)) (m := (m : Int)) (by omega))
  have e2 := Lib.hid (Om.less_yes (a := (a : Int)) (n := (n : Int)) (b := (a : Int)) (m := (m : Int)) (by omega))
  have e3 := Lib.hid (Om.less_no (a := (a : Int)) (n := (m : Int)) (b := (a : Int)) (m := (n : Int)) (by omega))
  go_enter Tryd.func6, Tryd.ntmps6
  go_wp2_with fail
  obtain ⟨⟨a0, a1⟩, ⟨b0, b1⟩, hB⟩ := two_pre w 24 24 a (n : Int) a (m : Int)
  generalize (w.alloc (.cells #[.int .u32 a, .int .i64 (n : Int)] 24)).alloc (.cells #[.int .u32 a, .int .i64 (m : Int)] 24) = v at *
  have HB := Lib.hid hB
  clear hB
  refine (addr_head _ (HT.out.held HB.out)).mono ?_
  rintro e w1 ⟨rfl, hb⟩
  replace a0 := held hb a0; replace a1 := held hb a1; replace b0 := held hb b0; replace b1 := held hb b1
  replace HB := Lib.hid (next HB.out hb); clear hb
  go_wp2_with fail
  refine (pre_cmp_eq e1.out _).mono ?_
  rintro e w2 ⟨rfl, hb⟩
  replace a0 := held hb a0; replace a1 := held hb a1; replace b0 := held hb b0; replace b1 := held hb b1
  replace HB := Lib.hid (next HB.out hb); clear hb
  go_wp2_with fail
  refine (less_eq e2.out _).mono ?_
  rintro e w3 ⟨rfl, hb⟩
  replace a0 := held hb a0; replace a1 := held hb a1; replace b0 := held hb b0; replace b1 := held hb b1
  replace HB := Lib.hid (next HB.out hb); clear hb
  go_wp2_with fail
  refine (less_eq e3.out _).mono ?_
  rintro e w4 ⟨rfl, hb⟩
  replace a0 := held hb a0; replace a1 := held hb a1; replace b0 := held hb b0; replace b1 := held hb b1
  replace HB := Lib.hid (next HB.out hb); clear hb
  go_wp2_with fail
  refine (refRight_eq ha R1.out _).mono ?_
  rintro e w5 ⟨rfl, hb⟩
  replace a0 := held hb a0; replace a1 := held hb a1; replace b0 := held hb b0; replace b1 := held hb b1
  replace HB := Lib.hid (next HB.out hb); clear hb
  go_wp2_with fail
  refine (refRight_eq ha R2.out _).mono ?_
  rintro e w6 ⟨rfl, hb⟩
  replace a0 := held hb a0; replace a1 := held hb a1; replace b0 := held hb b0; replace b1 := held hb b1
  replace HB := Lib.hid (next HB.out hb); clear hb
  go_wp2_with fail
  refine (has_eq ha ha R3.out _).mono ?_
  rintro e w7 ⟨rfl, hb⟩
  replace a0 := held hb a0; replace a1 := held hb a1; replace b0 := held hb b0; replace b1 := held hb b1
  replace HB := Lib.hid (next HB.out hb); clear hb
  go_wp2_with fail
  rw [OR.out]
  refine (has_eq ha (last_lt a m ha) R4.out _).mono ?_
  rintro e w8 ⟨rfl, hb⟩
  replace a0 := held hb a0; replace a1 := held hb a1; replace b0 := held hb b0; replace b1 := held hb b1
  replace HB := Lib.hid (next HB.out hb); clear hb
  go_wp2_with fail
  refine (pre_cmp_eq e1.out _).mono ?_
  rintro e w9 ⟨rfl, hb⟩
  replace a0 := held hb a0; replace a1 := held hb a1; replace b0 := held hb b0; replace b1 := held hb b1
  replace HB := Lib.hid (next HB.out hb); clear hb
  go_wp2_with fail
  go_ret
  exact ⟨ret_bool (by first | rfl | decide | simp), HB.out⟩

theorem aord_any (a b : Nat) (n m : Int) (ha : a < 4294967296) (hb : b < 4294967296) (w : World) (ht : Tab w) :
    Calls Tryd.prog 6 #[.agg #[.int .u32 a, .int .i64 n], .agg #[.int .u32 b, .int .i64 m]] w fun e w' => e = .returned (.bool true) ∧ Below w.heap.size w w' := by
  have five : (b : Int) < (a : Int) ∨ (a = b ∧ m < n) ∨ (a = b ∧ n = m) ∨ (a : Int) < (b : Int) ∨ (a = b ∧ n < m) := by omega
  cases r1 : Am.right a n
  · rcases five with ho | ⟨rfl, ho⟩ | ⟨rfl, rfl⟩ | ho | ⟨rfl, ho⟩
    · exact aord_gt1_s1 a b n m ha hb ho r1 w ht
    · exact aord_gt2_s1 a n m ha ho r1 w ht
    · exact aord_eq_s1 a n ha r1 w ht
    · exact aord_lt1_s1 a b n m ha hb ho r1 w ht
    · exact aord_lt2_s1 a n m ha ho r1 w ht
  · cases r2 : Am.right b m
    · rcases five with ho | ⟨rfl, ho⟩ | ⟨rfl, rfl⟩ | ho | ⟨rfl, ho⟩
      · exact aord_gt1_s2 a b n m ha hb ho r1 r2 w ht
      · exact aord_gt2_s2 a n m ha ho r1 r2 w ht
      · exact aord_eq_s2 a n ha r1 r2 w ht
      · exact aord_lt1_s2 a b n m ha hb ho r1 r2 w ht
      · exact aord_lt2_s2 a n m ha ho r1 r2 w ht
    · by_cases hl : m < n
      · rcases five with ho | ⟨rfl, ho⟩ | ⟨rfl, rfl⟩ | ho | ⟨rfl, ho⟩
        · exact aord_gt1_s3 a b n m ha hb ho r1 r2 hl w ht
        · exact aord_gt2_s3 a n m ha ho r1 r2 hl w ht
        · omega
        · exact aord_lt1_s3 a b n m ha hb ho r1 r2 hl w ht
        · omega
      · obtain ⟨n, hn32, rfl, hzn⟩ := right_len r1
        obtain ⟨m, hm32, rfl, hzm⟩ := right_len r2
        cases r3 : Am.has a (n : Int) b
        · rcases five with ho | ⟨rfl, ho⟩ | ⟨rfl, he⟩ | ho | ⟨rfl, ho⟩
          · exact aord_gt1_s4 a b n m ha hb ho r1 r2 (by omega) hm32 r3 w ht
          · omega
          · obtain rfl : n = m := by omega
            exact aord_eq_s4 a n ha r1 r2 hm32 r3 w ht
          · exact aord_lt1_s4 a b n m ha hb ho r1 r2 (by omega) hm32 r3 w ht
          · exact aord_lt2_s4 a n m ha ho r1 r2 (by omega) hm32 r3 w ht
        · have r4 := Om.has_last (p := a) (n := n) (q := b) (m := m) (by omega) hm32 r1 r3 hzm
          have hord := Om.has_order (p := a) (n := n) (q := b) (m := m) (by omega) r1 hn32 r3
          rcases five with ho | ⟨rfl, ho⟩ | ⟨rfl, he⟩ | ho | ⟨rfl, ho⟩
          · omega
          · omega
          · obtain rfl : n = m := by omega
            exact aord_eq_s5 a n ha r1 r2 hm32 r3 r4 w ht
          · exact aord_lt1_s5 a b n m ha hb ho r1 r2 (by omega) hm32 r3 r4 w ht
          · exact aord_lt2_s5 a n m ha ho r1 r2 (by omega) hm32 r3 r4 w ht
end Go.Proofs.YtclfchdgagpahaaDoor
