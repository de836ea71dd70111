/-
  The contracts of package addr's Right and Has, and of the statement's own.
-/
import Derived.Test.YtnpocnfmekgieaaProg
import Derived.Test.YtnpocnfmekgieaaBase
import Derived.Test.YtnpocnfmekgieaaAddrM
import Derived.Laws.BitsAllLaws
namespace Go.Proofs.Ytnpocnfmekgieaa
open Go.RowKit

theorem behind_any (n : Nat) (hn : n ≤ 32) (w : World) : Calls Try.prog 28 #[.int .i64 n] w fun e w' => e = .returned (.int .u32 (4294967295 / 2 ^ n : Nat)) ∧ w = w' := by
  go_enter Try.func28, Try.ntmps28
  go_wp2
  go_ret
  exact ⟨ret_int (by simp [Int.natCast_ediv]), rfl⟩
theorem behind_left (n : Nat) (hn : n ≤ 32) (w : World) : Calls Try.prog 28 #[.int .i64 n] w fun e w' => e = .returned (.int .u32 (4294967295 / 2 ^ n : Nat)) ∧ w' = w := (behind_any n hn w).mono fun _ _ h => ⟨h.1, h.2.symm⟩
theorem bit_val (x : Nat) (hx : x < 4294967296) : (bits .and .u32 (x : Int) 1 == 1) = (x % 2 == 1) := by
  rw [show (1 : Int) = ((1 : Nat) : Int) from rfl, u32_and_nat x 1 hx (by omega), nat_mask1]
  rw [Bool.eq_iff_iff]; simp only [beq_iff_eq]; omega
theorem bit_any (a i : Nat) (ha : a < 4294967296) (hi : i < 32) (w : World) : Calls Try.prog 29 #[.int .u32 a, .int .i64 i] w fun e w' => e = .returned (.bool (Am.bit a i)) ∧ w = w' := by
  go_enter Try.func29, Try.ntmps29
  go_wp2
  go_ret
  refine ⟨ret_bool ?_, rfl⟩
  have e : ((a : Int) / 2 ^ (31 - i)) = ((a / 2 ^ (31 - i) : Nat) : Int) := by simp [Int.natCast_ediv]
  show (bits BinOp.and IntKind.u32 ((a : Int) / 2 ^ (31 - i)) 1 == 1) = _
  rw [e, bit_val _ (Nat.lt_of_le_of_lt (Nat.div_le_self _ _) ha)]
  rfl

theorem behind_lt (n : Nat) : 4294967295 / 2 ^ n < 4294967296 := Nat.lt_of_le_of_lt (Nat.div_le_self _ _) (by omega)
theorem behind_int (n : Nat) : (4294967295 : Int) / 2 ^ n = ((4294967295 / 2 ^ n : Nat) : Int) := by simp [Int.natCast_ediv]
theorem and_test (a n : Nat) (ha : a < 4294967296) (hn : n ≤ 32) : (bits .and .u32 (a : Int) (4294967295 / 2 ^ n) == 0) = decide (a % 2 ^ (32 - n) = 0) := by
  rw [behind_int, u32_and_nat a _ ha (behind_lt n), Am.and_behind a n hn, Bool.eq_iff_iff]
  simp only [beq_iff_eq, decide_eq_true_eq]
  omega

/-- a prefix's two numbers lie in block g -/
def Pre (w : World) (g : Nat) (a : Int) (len : Int) : Prop := w.cell? ⟨g, 0, none⟩ = some (.int .u32 a) ∧ w.cell? ⟨g, 1, none⟩ = some (.int .i64 len)
theorem pre_new (w : World) (t : TypeId) (a len : Int) : Pre (w.alloc (.cells #[.int .u32 a, .int .i64 len] t)) w.heap.size a len := ⟨(new_cell w _ t 0).trans rfl, (new_cell w _ t 1).trans rfl⟩
theorem Pre.held {w w' : World} {g : Nat} {a len : Int} (h : Pre w g a len) (hb : Below w.heap.size w w') : Pre w' g a len := ⟨Go.Proofs.Ytnpocnfmekgieaa.held hb h.1, Go.Proofs.Ytnpocnfmekgieaa.held hb h.2⟩

set_option maxHeartbeats 400000 in
theorem right_any (a : Nat) (len : Int) (ha : a < 4294967296) (w : World) :
    Calls Try.prog 19 #[.agg #[.int .u32 a, .int .i64 len]] w fun e w' => e = .returned (.bool (Am.right a len)) ∧ Below w.heap.size w w' := by
  by_cases h1 : len < 0
  · have R := Lib.hid (Am.right_neg (a := a) h1)
    have d1 : decide (0 ≤ len) = false := decide_eq_false (by omega)
    go_enter Try.func19, Try.ntmps19
    go_wp2_with fail
    obtain ⟨c0, c1⟩ := pre_new w 28 a len
    have hb := below_new w (.cells #[.int .u32 a, .int .i64 len] 28)
    generalize w.alloc (.cells #[.int .u32 a, .int .i64 len] 28) = w2 at *
    have HB := Lib.hid hb
    clear hb
    go_quiet ((go_at_call 28; exact Calls.quiet_of_same (behind_left _ (by omega) _)))
    go_wp2
    go_ret
    exact ⟨ret_bool R.out.symm, drewN_below HB.out _⟩
  · by_cases h2 : 32 < len
    · have R := Lib.hid (Am.right_big (a := a) h2)
      have d1 : decide (0 ≤ len) = true := decide_eq_true (by omega)
      have d2 : decide (len ≤ 32) = false := decide_eq_false (by omega)
      go_enter Try.func19, Try.ntmps19
      go_wp2_with fail
      obtain ⟨c0, c1⟩ := pre_new w 28 a len
      have hb := below_new w (.cells #[.int .u32 a, .int .i64 len] 28)
      generalize w.alloc (.cells #[.int .u32 a, .int .i64 len] 28) = w2 at *
      have HB := Lib.hid hb
      clear hb
      go_quiet ((go_at_call 28; exact Calls.quiet_of_same (behind_left _ (by omega) _)))
      go_wp2
      go_ret
      exact ⟨ret_bool R.out.symm, drewN_below HB.out _⟩
    · obtain ⟨n, rfl⟩ := Int.eq_ofNat_of_zero_le (by omega : 0 ≤ len)
      have hn : n ≤ 32 := by omega
      have d1 : decide (0 ≤ (n : Int)) = true := decide_eq_true (by omega)
      have d2 : decide ((n : Int) ≤ 32) = true := decide_eq_true (by omega)
      clear h1 h2
      have R := Lib.hid (Am.right_in (a := a) hn)
      go_enter Try.func19, Try.ntmps19
      go_wp2_with fail
      obtain ⟨c0, c1⟩ := pre_new w 28 a (n : Int)
      have hb := below_new w (.cells #[.int .u32 a, .int .i64 (n : Int)] 28)
      generalize w.alloc (.cells #[.int .u32 a, .int .i64 (n : Int)] 28) = w2 at *
      have HB := Lib.hid hb
      clear hb
      go_region_held3 (fun w' => w'.cell? ⟨w.heap.size, 0, none⟩ = some (.int .u32 a) ∧ w'.cell? ⟨w.heap.size, 1, none⟩ = some (.int .i64 (n : Int))) (go_keep)
        (first | (go_at_call 28; refine (behind_any _ (by omega) _).mono ?_; rintro e w' ⟨rfl, rfl⟩))
      go_wp2
      go_ret
      exact ⟨ret_bool ((and_test a n ha hn).trans R.out.symm), HB.out.drew⟩

/-! ### the statement's own Right -/
set_option maxHeartbeats 400000 in
theorem refRight_any (a : Nat) (len : Int) (ha : a < 4294967296) (w : World) :
    Calls Try.prog 20 #[.agg #[.int .u32 a, .int .i64 len]] w fun e w' => e = .returned (.bool (Am.right a len)) ∧ Below w.heap.size w w' := by
  by_cases h1 : len < 0
  · have R := Lib.hid (Am.right_neg (a := a) h1)
    go_enter Try.func20, Try.ntmps20
    go_wp2
    go_ret
    exact ⟨ret_bool R.out.symm, below_new _ _⟩
  · by_cases h2 : 32 < len
    · have R := Lib.hid (Am.right_big (a := a) h2)
      go_enter Try.func20, Try.ntmps20
      go_wp2
      go_ret
      exact ⟨ret_bool R.out.symm, below_new _ _⟩
    · obtain ⟨n, rfl⟩ := Int.eq_ofNat_of_zero_le (by omega : 0 ≤ len)
      have hn : n ≤ 32 := by omega
      clear h1 h2
      have R := Lib.hid (Am.right_in (a := a) hn)
      go_enter Try.func20, Try.ntmps20
      go_wp2
      obtain ⟨c0, c1⟩ := pre_new w 28 a n
      have hb := below_new w (.cells #[.int .u32 a, .int .i64 n] 28)
      generalize w.alloc (.cells #[.int .u32 a, .int .i64 n] 28) = w2 at *
      have HB := Lib.hid hb
      clear hb
      go_loop [3] (fun i => ∃ k : Nat, k ≤ 32 ∧ i = .int .i64 k ∧ (a % 2 ^ (32 - n) = 0 ↔ a % 2 ^ (32 - k) = 0)) (fun i => 32 - (intOf i).toNat)
      case atStart => exact ⟨n, hn, rfl, Iff.rfl⟩
      case round =>
        obtain ⟨k, hk, rfl, hz⟩ := hrel
        have Z := Lib.hid hz
        clear hz
        by_cases hlt : k < 32
        · have E := Lib.hid (Am.zero_from a k hlt)
          go_wp2_with fail
          refine (bit_any a k ha hlt _).mono ?_
          rintro e w' ⟨rfl, rfl⟩
          cases hbit : Am.bit a k
          · have B := Lib.hid hbit
            clear hbit
            go_wp2
            go_round
            case rel => exact ⟨k + 1, by omega, by go_num, by rw [Z.out, E.out, B.out]; simp⟩
            case measure => simp [intOf]; omega
          · have B := Lib.hid hbit
            clear hbit
            go_wp2
            go_ret
            exact ⟨ret_bool (by rw [R.out]; symm; rw [decide_eq_false_iff_not, Z.out, E.out, B.out]; simp), HB.out⟩
        · obtain rfl : k = 32 := by omega
          go_wp2
          go_ret
          exact ⟨ret_bool (by rw [R.out]; symm; rw [decide_eq_true_eq, Z.out]; simp [Nat.mod_one]), HB.out⟩
end Go.Proofs.Ytnpocnfmekgieaa
