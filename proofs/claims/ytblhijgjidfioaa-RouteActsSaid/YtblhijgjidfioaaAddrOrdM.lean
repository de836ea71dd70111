/-
  AddrOrders: what Compare answers, and the plain facts behind the law.
-/
import Derived.Test.YtblhijgjidfioaaAddrM
import Derived.Test.YtblhijgjidfioaaCmp
namespace Go.Proofs.Ytblhijgjidfioaa.Om

/-- the order of prefixes: addresses first, then lengths -/
def pcmp (a : Int) (n : Int) (b : Int) (m : Int) : Int := or2 (cmpI a b) (cmpI n m)
def less (a : Int) (n : Int) (b : Int) (m : Int) : Bool := decide (a < b ∨ a = b ∧ n < m)
theorem pcmp_lt {a n b m : Int} (h : a < b ∨ a = b ∧ n < m) : pcmp a n b m = -1 := by
  unfold pcmp or2
  rcases h with h | ⟨rfl, h⟩
  · rw [cmpI_lt h]; rfl
  · rw [cmpI_self, cmpI_lt h]; rfl
theorem pcmp_gt {a n b m : Int} (h : b < a ∨ b = a ∧ m < n) : pcmp a n b m = 1 := by
  unfold pcmp or2
  rcases h with h | ⟨rfl, h⟩
  · rw [cmpI_gt h]; rfl
  · rw [cmpI_self, cmpI_gt h]; rfl
theorem pcmp_self (a n : Int) : pcmp a n a n = 0 := by unfold pcmp or2; rw [cmpI_self, cmpI_self]; rfl
theorem less_yes {a n b m : Int} (h : a < b ∨ a = b ∧ n < m) : less a n b m = true := decide_eq_true h
theorem less_no {a n b m : Int} (h : ¬ (a < b ∨ a = b ∧ n < m)) : less a n b m = false := decide_eq_false h

open Am in
/-- a shorter prefix that has a longer one's address has its last address too -/
theorem has_last {p n q m : Nat} (hn : n ≤ m) (hm : m ≤ 32) (hr : right p n = true) (h : has p n q = true) (hz : q % 2 ^ (32 - m) = 0) : has p n (q ||| (4294967295 / 2 ^ m)) = true := by
  rw [has_in hr] at h ⊢
  rw [decide_eq_true_eq] at h ⊢
  rw [behind_eq m hm, ← h]
  have hp : 0 < 2 ^ (32 - m) := Nat.two_pow_pos _
  have hj : q ||| (2 ^ (32 - m) - 1) = q + (2 ^ (32 - m) - 1) := by
    have hq : q = 2 ^ (32 - m) * (q / 2 ^ (32 - m)) := by have := Nat.div_add_mod q (2 ^ (32 - m)); omega
    rw [hq, ← Nat.two_pow_add_eq_or_of_lt (by omega)]
  rw [hj, show 32 - n = (32 - m) + (m - n) from by omega, Nat.pow_add, ← Nat.div_div_eq_div_mul, ← Nat.div_div_eq_div_mul]
  congr 1
  generalize 2 ^ (32 - m) = k at *
  obtain ⟨t, rfl⟩ : ∃ t, q = k * t := ⟨q / k, by have := Nat.div_add_mod q k; omega⟩
  rw [Nat.mul_add_div hp, Nat.mul_div_cancel_left _ hp, Nat.div_eq_of_lt (show k - 1 < k by omega), Nat.add_zero]
open Am in
/-- a shorter prefix that has a longer one's address doesn't come behind it -/
theorem has_order {p n q m : Nat} (hn : n ≤ m) (hr : right p n = true) (hn2 : n ≤ 32) (h : has p n q = true) : p < q ∨ (p = q ∧ (n < m ∨ n = m)) := by
  rw [has_in hr, decide_eq_true_eq] at h
  rw [right_in hn2, decide_eq_true_eq] at hr
  have e1 := Nat.div_add_mod q (2 ^ (32 - n))
  have e2 := Nat.div_add_mod p (2 ^ (32 - n))
  rw [h] at e1
  omega
end Go.Proofs.Ytblhijgjidfioaa.Om
