/-
  Plain mathematics of a prefix as a text. No program in sight.
-/
import Derived.Test.YtkchckeecfalhaaGreatDoorParM
import Derived.Lib.ItoaNum
namespace Go.Proofs.YtkchckeecfalhaaGreatDoor.Sm
open Go.Lib

def byte (a k : Nat) : Nat := a / 2 ^ (24 - 8 * k) % 256
/-- the first k numbers of an address, points between -/
def upTo (a : Nat) : Nat → List UInt8
  | 0 => []
  | k + 1 => (if 0 < k then upTo a k ++ [46] else upTo a k) ++ decDigits (byte a k)
def text (a n : Nat) : List UInt8 := (upTo a 4 ++ [47]) ++ decDigits n
def str (a : Nat) (len : Int) : List UInt8 := if Am.right a len then text a len.toNat else []

theorem dec1 {n : Nat} (h : n < 10) : decDigits n = [UInt8.ofNat (48 + n)] := by unfold decDigits; rw [dif_pos h]
theorem dec2 {n : Nat} (h1 : 10 ≤ n) (h : n < 100) : decDigits n = [UInt8.ofNat (48 + n / 10), UInt8.ofNat (48 + n % 10)] := by
  unfold decDigits; rw [dif_neg (by omega), dec1 (by omega)]; rfl
theorem dec3 {n : Nat} (h1 : 100 ≤ n) (h : n < 1000) : decDigits n = [UInt8.ofNat (48 + n / 100), UInt8.ofNat (48 + n / 10 % 10), UInt8.ofNat (48 + n % 10)] := by
  unfold decDigits; rw [dif_neg (by omega), dec2 (by omega) (by omega), Nat.div_div_eq_div_mul]; rfl
theorem byte_lt (a k : Nat) : byte a k < 256 := Nat.mod_lt _ (by decide)
theorem dec_len {n : Nat} (h : n < 1000) : (decDigits n).length ≤ 3 := by
  by_cases h1 : n < 10
  · rw [dec1 h1]; simp
  · by_cases h2 : n < 100
    · rw [dec2 (by omega) h2]; simp
    · rw [dec3 (by omega) h]; simp
theorem upTo_len (a : Nat) : ∀ k, (upTo a k).length ≤ 4 * k
  | 0 => Nat.le_refl _
  | k + 1 => by
    have h1 := upTo_len a k
    have h2 := dec_len (n := byte a k) (by have := byte_lt a k; omega)
    unfold upTo
    split <;> simp only [List.length_append, List.length_cons, List.length_nil] <;> omega
theorem ofNat_toNat {n : Nat} (h : n < 256) : (UInt8.ofNat n).toNat = n := by rw [UInt8.toNat_ofNat', Nat.mod_eq_of_lt h]
theorem digit_of {n : Nat} (h : n < 10) : Nm.digit (UInt8.ofNat (48 + n)) = true := by
  unfold Nm.digit; rw [ofNat_toNat (by omega)]; simp only [Bool.and_eq_true, decide_eq_true_eq]; omega
theorem ne_zero {n : Nat} (h : n < 10) (h1 : 1 ≤ n) : (some (UInt8.ofNat (48 + n)) == some (48 : UInt8)) = false := by
  rw [beq_eq_false_iff_ne]
  intro e
  have := congrArg UInt8.toNat (Option.some.inj e)
  rw [ofNat_toNat (by omega)] at this
  have h48 : (48 : UInt8).toNat = 48 := rfl
  omega
/-- a number's own text tells it -/
theorem dec_ok {n most : Nat} (h : n < 1000) (hm : n ≤ most) : Nm.ok (decDigits n) most = true ∧ Nm.val (decDigits n) = n ∧ (decDigits n).all Nm.digit = true := by
  have key : Nm.form (decDigits n) = true ∧ (decDigits n).all Nm.digit = true ∧ Nm.val (decDigits n) = n := by
    by_cases h1 : n < 10
    · rw [dec1 h1]
      refine ⟨rfl, by simp only [List.all_cons, List.all_nil, digit_of h1]; rfl, ?_⟩
      simp only [Nm.val, List.foldl_cons, List.foldl_nil]
      rw [ofNat_toNat (by omega)]; omega
    · by_cases h2 : n < 100
      · rw [dec2 (by omega) h2]
        refine ⟨?_, by simp only [List.all_cons, List.all_nil, digit_of (show n / 10 < 10 by omega), digit_of (show n % 10 < 10 by omega)]; rfl, ?_⟩
        · unfold Nm.form; simp only [List.head?_cons, List.length_cons, List.length_nil]; rw [ne_zero (by omega) (by omega)]; rfl
        · simp only [Nm.val, List.foldl_cons, List.foldl_nil]
          rw [ofNat_toNat (by omega), ofNat_toNat (by omega)]; omega
      · rw [dec3 (by omega) h]
        refine ⟨?_, by simp only [List.all_cons, List.all_nil, digit_of (show n / 100 < 10 by omega), digit_of (show n / 10 % 10 < 10 by omega), digit_of (show n % 10 < 10 by omega)]; rfl, ?_⟩
        · unfold Nm.form; simp only [List.head?_cons, List.length_cons, List.length_nil]; rw [ne_zero (by omega) (by omega)]; rfl
        · simp only [Nm.val, List.foldl_cons, List.foldl_nil]
          rw [ofNat_toNat (by omega), ofNat_toNat (by omega), ofNat_toNat (by omega)]; omega
  exact ⟨by unfold Nm.ok; rw [key.1, key.2.1, key.2.2, decide_eq_true hm]; rfl, key.2.2, key.2.1⟩
/-- a number's text, then a mark: the cut gives it back -/
theorem cut_digits (c : UInt8) (hc : Nm.digit c = false) (d r : List UInt8) (hd : d.all Nm.digit = true) : Cm.pre c (d ++ c :: r) = d ∧ Cm.post c (d ++ c :: r) = r := by
  induction d with
  | nil => unfold Cm.pre Cm.post; simp
  | cons x d ih =>
    rw [List.all_cons, Bool.and_eq_true] at hd
    have hx : (x == c) = false := by
      rw [beq_eq_false_iff_ne]; rintro rfl; rw [hc] at hd; exact absurd hd.1 (by simp)
    obtain ⟨i1, i2⟩ := ih hd.2
    unfold Cm.pre Cm.post at *
    rw [List.cons_append, List.takeWhile_cons, List.dropWhile_cons, hx]
    simp only [Bool.not_false, if_true]
    exact ⟨by rw [i1], i2⟩
end Go.Proofs.YtkchckeecfalhaaGreatDoor.Sm
