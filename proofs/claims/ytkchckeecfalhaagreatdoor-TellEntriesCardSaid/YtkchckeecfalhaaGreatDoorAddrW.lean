/-
  The contracts of package addr's Right and Has, and of the statement's own.
-/
import Derived.Test.YtkchckeecfalhaaGreatDoorProg
import Derived.Test.YtkchckeecfalhaaGreatDoorBase
import Derived.Test.YtkchckeecfalhaaGreatDoorAddrM
import Derived.Laws.BitsAllLaws
namespace Go.Proofs.YtkchckeecfalhaaGreatDoor
open Go.RowKit

theorem behind_any (n : Nat) (hn : n ≤ 32) (w : World) : Calls Tryz.prog 48 #[.int .i64 n] w fun e w' => e = .returned (.int .u32 (4294967295 / 2 ^ n : Nat)) ∧ w = w' := by
  go_enter Tryz.func48, Tryz.ntmps48
  go_wp2
  go_ret
  exact ⟨ret_int (by simp [Int.natCast_ediv]), rfl⟩
theorem behind_left (n : Nat) (hn : n ≤ 32) (w : World) : Calls Tryz.prog 48 #[.int .i64 n] w fun e w' => e = .returned (.int .u32 (4294967295 / 2 ^ n : Nat)) ∧ w' = w := (behind_any n hn w).mono fun _ _ h => ⟨h.1, h.2.symm⟩
theorem bit_val (x : Nat) (hx : x < 4294967296) : (bits .and .u32 (x : Int) 1 == 1) = (x % 2 == 1) := by
  rw [show (1 : Int) = ((1 : Nat) : Int) from rfl, u32_and_nat x 1 hx (by omega), nat_mask1]
  rw [Bool.eq_iff_iff]; simp only [beq_iff_eq]; omega
theorem behind_lt (n : Nat) : 4294967295 / 2 ^ n < 4294967296 := Nat.lt_of_le_of_lt (Nat.div_le_self _ _) (by omega)
theorem behind_int (n : Nat) : (4294967295 : Int) / 2 ^ n = ((4294967295 / 2 ^ n : Nat) : Int) := by simp [Int.natCast_ediv]
theorem and_test (a n : Nat) (ha : a < 4294967296) (hn : n ≤ 32) : (bits .and .u32 (a : Int) (4294967295 / 2 ^ n) == 0) = decide (a % 2 ^ (32 - n) = 0) := by
  rw [behind_int, u32_and_nat a _ ha (behind_lt n), Am.and_behind a n hn, Bool.eq_iff_iff]
  simp only [beq_iff_eq, decide_eq_true_eq]
  omega

/-- a prefix's two numbers lie in block g -/
def Pre (w : World) (g : Nat) (a : Int) (len : Int) : Prop := w.cell? ⟨g, 0, none⟩ = some (.int .u32 a) ∧ w.cell? ⟨g, 1, none⟩ = some (.int .i64 len)
theorem pre_new (w : World) (t : TypeId) (a len : Int) : Pre (w.alloc (.cells #[.int .u32 a, .int .i64 len] t)) w.heap.size a len := ⟨(new_cell w _ t 0).trans rfl, (new_cell w _ t 1).trans rfl⟩
theorem Pre.held {w w' : World} {g : Nat} {a len : Int} (h : Pre w g a len) (hb : Below w.heap.size w w') : Pre w' g a len := ⟨Go.Proofs.YtkchckeecfalhaaGreatDoor.held hb h.1, Go.Proofs.YtkchckeecfalhaaGreatDoor.held hb h.2⟩

set_option maxHeartbeats 400000 in
theorem right_any (a : Nat) (len : Int) (ha : a < 4294967296) (w : World) :
    Calls Tryz.prog 32 #[.agg #[.int .u32 a, .int .i64 len]] w fun e w' => e = .returned (.bool (Am.right a len)) ∧ Below w.heap.size w w' := by
  by_cases h1 : len < 0
  · have R := Lib.hid (Am.right_neg (a := a) h1)
    have d1 : decide (0 ≤ len) = false := decide_eq_false (by omega)
    go_enter Tryz.func32, Tryz.ntmps32
    go_wp2_with fail
    obtain ⟨c0, c1⟩ := pre_new w 24 a len
    have hb := below_new w (.cells #[.int .u32 a, .int .i64 len] 24)
    generalize w.alloc (.cells #[.int .u32 a, .int .i64 len] 24) = w2 at *
    have HB := Lib.hid hb
    clear hb
    go_quiet ((go_at_call 48; exact Calls.quiet_of_same (behind_left _ (by omega) _)))
    go_wp2
    go_ret
    exact ⟨ret_bool R.out.symm, drewN_below HB.out _⟩
  · by_cases h2 : 32 < len
    · have R := Lib.hid (Am.right_big (a := a) h2)
      have d1 : decide (0 ≤ len) = true := decide_eq_true (by omega)
      have d2 : decide (len ≤ 32) = false := decide_eq_false (by omega)
      go_enter Tryz.func32, Tryz.ntmps32
      go_wp2_with fail
      obtain ⟨c0, c1⟩ := pre_new w 24 a len
      have hb := below_new w (.cells #[.int .u32 a, .int .i64 len] 24)
      generalize w.alloc (.cells #[.int .u32 a, .int .i64 len] 24) = w2 at *
      have HB := Lib.hid hb
      clear hb
      go_quiet ((go_at_call 48; exact Calls.quiet_of_same (behind_left _ (by omega) _)))
      go_wp2
      go_ret
      exact ⟨ret_bool R.out.symm, drewN_below HB.out _⟩
    · obtain ⟨n, rfl⟩ := Int.eq_ofNat_of_zero_le (by omega : 0 ≤ len)
      have hn : n ≤ 32 := by omega
      have d1 : decide (0 ≤ (n : Int)) = true := decide_eq_true (by omega)
      have d2 : decide ((n : Int) ≤ 32) = true := decide_eq_true (by omega)
      clear h1 h2
      have R := Lib.hid (Am.right_in (a := a) hn)
      go_enter Tryz.func32, Tryz.ntmps32
      go_wp2_with fail
      obtain ⟨c0, c1⟩ := pre_new w 24 a (n : Int)
      have hb := below_new w (.cells #[.int .u32 a, .int .i64 (n : Int)] 24)
      generalize w.alloc (.cells #[.int .u32 a, .int .i64 (n : Int)] 24) = w2 at *
      have HB := Lib.hid hb
      clear hb
      go_region_held3 (fun w' => w'.cell? ⟨w.heap.size, 0, none⟩ = some (.int .u32 a) ∧ w'.cell? ⟨w.heap.size, 1, none⟩ = some (.int .i64 (n : Int))) (go_keep)
        (first | (go_at_call 48; refine (behind_any _ (by omega) _).mono ?_; rintro e w' ⟨rfl, rfl⟩))
      go_wp2
      go_ret
      exact ⟨ret_bool ((and_test a n ha hn).trans R.out.symm), HB.out.drew⟩

/-! ### the statement's own Right -/
end Go.Proofs.YtkchckeecfalhaaGreatDoor
