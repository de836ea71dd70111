/-
  Plain mathematics of prefixes: their bits. No program in sight.
-/
namespace Go.Proofs.YtkchckeecfalhaaGreatDoor.Am

/-- the bits behind the n highest ones -/
theorem behind_eq (n : Nat) (hn : n ≤ 32) : 4294967295 / 2 ^ n = 2 ^ (32 - n) - 1 := by
  have h : n = 0 ∨ n = 1 ∨ n = 2 ∨ n = 3 ∨ n = 4 ∨ n = 5 ∨ n = 6 ∨ n = 7 ∨ n = 8 ∨ n = 9 ∨ n = 10 ∨ n = 11 ∨ n = 12 ∨ n = 13 ∨ n = 14 ∨ n = 15 ∨ n = 16 ∨ n = 17 ∨ n = 18 ∨ n = 19 ∨ n = 20 ∨ n = 21 ∨ n = 22 ∨ n = 23 ∨ n = 24 ∨ n = 25 ∨ n = 26 ∨ n = 27 ∨ n = 28 ∨ n = 29 ∨ n = 30 ∨ n = 31 ∨ n = 32 := by omega
  rcases h with rfl | rfl | rfl | rfl | rfl | rfl | rfl | rfl | rfl | rfl | rfl | rfl | rfl | rfl | rfl | rfl | rfl | rfl | rfl | rfl | rfl | rfl | rfl | rfl | rfl | rfl | rfl | rfl | rfl | rfl | rfl | rfl | rfl <;> decide
theorem and_behind (a n : Nat) (hn : n ≤ 32) : a &&& (4294967295 / 2 ^ n) = a % 2 ^ (32 - n) := by
  rw [behind_eq n hn]
  exact Nat.and_two_pow_sub_one_eq_mod a (32 - n)

/-- an address without the bits behind its n highest ones -/
theorem andNot_behind (a n : Nat) (ha : a < 4294967296) (hn : n ≤ 32) : a &&& (4294967295 - 4294967295 / 2 ^ n) = a - a % 2 ^ (32 - n) := by
  rw [behind_eq n hn]
  have hk : 32 - n ≤ 32 := by omega
  generalize 32 - n = k at hk
  have hp : 0 < 2 ^ k := Nat.two_pow_pos k
  have hle : 2 ^ k ≤ 2 ^ 32 := Nat.pow_le_pow_right (by omega) hk
  have e1 : 4294967295 - (2 ^ k - 1) = 2 ^ 32 - ((2 ^ k - 1) + 1) := by omega
  have e2 : a - a % 2 ^ k = (a >>> k) <<< k := by
    rw [Nat.shiftLeft_eq, Nat.shiftRight_eq_div_pow]
    have := Nat.div_add_mod a (2 ^ k)
    rw [Nat.mul_comm] at this
    omega
  rw [e1, e2]
  apply Nat.eq_of_testBit_eq
  intro i
  rw [Nat.testBit_and, Nat.testBit_two_pow_sub_succ (by omega), Nat.testBit_two_pow_sub_one, Nat.testBit_shiftLeft, Nat.testBit_shiftRight]
  by_cases h : i < k
  · simp [h, show ¬ k ≤ i by omega]
  · by_cases h' : i < 32
    · simp [h, h', show k ≤ i by omega, show k + (i - k) = i by omega]
    · have : a.testBit i = false := Nat.testBit_lt_two_pow (Nat.lt_of_lt_of_le ha (by rw [show (4294967296 : Nat) = 2 ^ 32 from rfl]; exact Nat.pow_le_pow_right (by omega) (by omega)))
      simp [h, h', show k ≤ i by omega, show k + (i - k) = i by omega, this]

/-- is it a prefix? -/
def right (a : Nat) (len : Int) : Bool := decide (0 ≤ len ∧ len ≤ 32) && decide (a % 2 ^ (32 - len.toNat) = 0)
theorem right_neg {a : Nat} {len : Int} (h : len < 0) : right a len = false := by unfold right; rw [decide_eq_false (by omega)]; rfl
theorem right_big {a : Nat} {len : Int} (h : 32 < len) : right a len = false := by unfold right; rw [decide_eq_false (by omega)]; rfl
theorem right_in {a : Nat} {n : Nat} (h : n ≤ 32) : right a n = decide (a % 2 ^ (32 - n) = 0) := by
  unfold right; rw [decide_eq_true (by omega)]; simp

/-- bit i of an address, from the highest one on -/
def bit (a i : Nat) : Bool := a / 2 ^ (31 - i) % 2 == 1

theorem mod_succ (a k : Nat) : a % 2 ^ (k + 1) = a % 2 ^ k + 2 ^ k * (a / 2 ^ k % 2) := by
  rw [Nat.pow_succ, Nat.mod_mul]
/-- all bits from i on are 0 just if the rest by that power is -/
theorem zero_from (a i : Nat) (hi : i < 32) : a % 2 ^ (32 - i) = 0 ↔ (bit a i = false ∧ a % 2 ^ (32 - (i + 1)) = 0) := by
  have e : 32 - i = (32 - (i + 1)) + 1 := by omega
  have e' : 31 - i = 32 - (i + 1) := by omega
  unfold bit
  rw [e, mod_succ, e']
  have hp : 0 < 2 ^ (32 - (i + 1)) := Nat.two_pow_pos _
  generalize 2 ^ (32 - (i + 1)) = p at hp
  have hr : a / p % 2 = 0 ∨ a / p % 2 = 1 := by omega
  rcases hr with h | h <;> simp [h] <;> omega

/-- does a prefix have an address? -/
def has (p : Nat) (len : Int) (a : Nat) : Bool := right p len && decide (a / 2 ^ (32 - len.toNat) = p / 2 ^ (32 - len.toNat))
theorem has_no {p : Nat} {len : Int} {a : Nat} (h : right p len = false) : has p len a = false := by unfold has; rw [h]; rfl
theorem has_in {p n a : Nat} (h : right p n = true) : has p n a = decide (a / 2 ^ (32 - n) = p / 2 ^ (32 - n)) := by unfold has; rw [h]; simp
/-- what is left of an address without the bits behind is the prefix's just if their highest bits are the same -/
theorem strip_iff (p n a : Nat) (h : p % 2 ^ (32 - n) = 0) : a - a % 2 ^ (32 - n) = p ↔ a / 2 ^ (32 - n) = p / 2 ^ (32 - n) := by
  generalize 2 ^ (32 - n) = k at h
  have e1 := Nat.div_add_mod a k
  have e2 := Nat.div_add_mod p k
  constructor
  · intro e
    rcases Nat.eq_zero_or_pos k with rfl | hk
    · simp
    · have : k * (a / k) = k * (p / k) := by omega
      exact Nat.eq_of_mul_eq_mul_left hk this
  · intro e
    rw [← e] at e2
    omega
/-- the highest i bits are the same -/
theorem top_succ (p a i : Nat) (hi : i < 32) : a / 2 ^ (32 - (i + 1)) = p / 2 ^ (32 - (i + 1)) ↔ (a / 2 ^ (32 - i) = p / 2 ^ (32 - i) ∧ bit a i = bit p i) := by
  have e : 32 - i = (32 - (i + 1)) + 1 := by omega
  have e' : 31 - i = 32 - (i + 1) := by omega
  unfold bit
  rw [e, e', Nat.pow_succ, ← Nat.div_div_eq_div_mul, ← Nat.div_div_eq_div_mul]
  generalize a / 2 ^ (32 - (i + 1)) = x
  generalize p / 2 ^ (32 - (i + 1)) = y
  constructor
  · rintro rfl; exact ⟨rfl, rfl⟩
  · rintro ⟨h1, h2⟩
    have hx : x % 2 = 0 ∨ x % 2 = 1 := by omega
    have hy : y % 2 = 0 ∨ y % 2 = 1 := by omega
    rcases hx with hx | hx <;> rcases hy with hy | hy <;> simp [hx, hy] at h2 <;> omega
theorem top_down {p a n j : Nat} (hj : j ≤ n) (hn : n ≤ 32) (h : a / 2 ^ (32 - n) = p / 2 ^ (32 - n)) : a / 2 ^ (32 - j) = p / 2 ^ (32 - j) := by
  rw [show 32 - j = (32 - n) + (n - j) from by omega, Nat.pow_add, ← Nat.div_div_eq_div_mul, ← Nat.div_div_eq_div_mul, h]
theorem top_none (p a : Nat) (hp : p < 4294967296) (ha : a < 4294967296) : a / 2 ^ (32 - 0) = p / 2 ^ (32 - 0) := by
  rw [Nat.div_eq_of_lt ha, Nat.div_eq_of_lt hp]
end Go.Proofs.YtkchckeecfalhaaGreatDoor.Am
