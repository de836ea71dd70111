/-
  Plain mathematics: a prefix's text, parsed, gives the prefix back.
-/
import Derived.Test.YtclfchdgagpahaaDoorStrM
namespace Go.Proofs.YtclfchdgagpahaaDoor.Tm
open Go.Lib

theorem text_eq (a n : Nat) : Sm.text a n = decDigits (Sm.byte a 0) ++ 46 :: (decDigits (Sm.byte a 1) ++ 46 :: (decDigits (Sm.byte a 2) ++ 46 :: (decDigits (Sm.byte a 3) ++ 47 :: decDigits n))) := by
  simp [Sm.text, Sm.upTo]
theorem byte_all (a k : Nat) : (decDigits (Sm.byte a k)).all Nm.digit = true := (Sm.dec_ok (most := 255) (by have := Sm.byte_lt a k; omega) (by have := Sm.byte_lt a k; omega)).2.2
theorem byte_ok (a k : Nat) : Nm.ok (decDigits (Sm.byte a k)) 255 = true := (Sm.dec_ok (most := 255) (by have := Sm.byte_lt a k; omega) (by have := Sm.byte_lt a k; omega)).1
theorem byte_val (a k : Nat) : Nm.val (decDigits (Sm.byte a k)) = Sm.byte a k := (Sm.dec_ok (most := 255) (by have := Sm.byte_lt a k; omega) (by have := Sm.byte_lt a k; omega)).2.1
theorem p46 : Nm.digit 46 = false := by decide
theorem p47 : Nm.digit 47 = false := by decide
/-- five numbers with their marks: what each head and rest is -/
theorem cuts (d0 d1 d2 d3 r : List UInt8) (h0 : d0.all Nm.digit = true) (h1 : d1.all Nm.digit = true) (h2 : d2.all Nm.digit = true) (h3 : d3.all Nm.digit = true) :
    Pm.head (d0 ++ 46 :: (d1 ++ 46 :: (d2 ++ 46 :: (d3 ++ 47 :: r)))) 0 = d0 ∧ Pm.head (d0 ++ 46 :: (d1 ++ 46 :: (d2 ++ 46 :: (d3 ++ 47 :: r)))) 1 = d1 ∧
    Pm.head (d0 ++ 46 :: (d1 ++ 46 :: (d2 ++ 46 :: (d3 ++ 47 :: r)))) 2 = d2 ∧ Pm.head (d0 ++ 46 :: (d1 ++ 46 :: (d2 ++ 46 :: (d3 ++ 47 :: r)))) 3 = d3 ∧
    Pm.rest (d0 ++ 46 :: (d1 ++ 46 :: (d2 ++ 46 :: (d3 ++ 47 :: r)))) 4 = r := by
  obtain ⟨a0, b0⟩ := Sm.cut_digits 46 p46 d0 (d1 ++ 46 :: (d2 ++ 46 :: (d3 ++ 47 :: r))) h0
  obtain ⟨a1, b1⟩ := Sm.cut_digits 46 p46 d1 (d2 ++ 46 :: (d3 ++ 47 :: r)) h1
  obtain ⟨a2, b2⟩ := Sm.cut_digits 46 p46 d2 (d3 ++ 47 :: r) h2
  obtain ⟨a3, b3⟩ := Sm.cut_digits 47 p47 d3 r h3
  have m0 : Pm.mark 0 = 46 := rfl
  have m1 : Pm.mark 1 = 46 := rfl
  have m2 : Pm.mark 2 = 46 := rfl
  have m3 : Pm.mark 3 = 47 := rfl
  simp only [Pm.head, Pm.rest, m0, m1, m2, m3, a0, b0, a1, b1, a2, b2, a3, b3, and_self]
theorem ok_iff (l : List UInt8) : Pm.ok l = (Nm.ok (Pm.head l 0) 255 && Nm.ok (Pm.head l 1) 255 && Nm.ok (Pm.head l 2) 255 && Nm.ok (Pm.head l 3) 255 && Nm.ok (Pm.rest l 4) 32 && Am.right (Pm.addr l 4) (Pm.len l)) := by
  simp [Pm.ok, Pm.okTo]
theorem addr_eq (l : List UInt8) : Pm.addr l 4 = ((Nm.val (Pm.head l 0) * 256 + Nm.val (Pm.head l 1)) * 256 + Nm.val (Pm.head l 2)) * 256 + Nm.val (Pm.head l 3) := by
  simp [Pm.addr]
theorem bytes_join (a : Nat) (ha : a < 4294967296) : ((Sm.byte a 0 * 256 + Sm.byte a 1) * 256 + Sm.byte a 2) * 256 + Sm.byte a 3 = a := by
  unfold Sm.byte
  simp only [Nat.mul_zero, Nat.sub_zero, Nat.reduceMul, Nat.reduceSub, Nat.reducePow]
  omega
theorem parse_text (a n : Nat) (ha : a < 4294967296) (hn : n ≤ 32) (hr : Am.right a n = true) : Pm.ok (Sm.text a n) = true ∧ Pm.addr (Sm.text a n) 4 = a ∧ Pm.len (Sm.text a n) = n := by
  obtain ⟨c0, c1, c2, c3, c4⟩ := cuts _ _ _ _ (decDigits n) (byte_all a 0) (byte_all a 1) (byte_all a 2) (byte_all a 3)
  rw [← text_eq] at c0 c1 c2 c3 c4
  have hA : Pm.addr (Sm.text a n) 4 = a := by rw [addr_eq, c0, c1, c2, c3, byte_val, byte_val, byte_val, byte_val, bytes_join a ha]
  have hd := Sm.dec_ok (n := n) (most := 32) (by omega) hn
  have hL : Pm.len (Sm.text a n) = n := by unfold Pm.len; rw [c4, hd.2.1]
  exact ⟨by rw [ok_iff, c0, c1, c2, c3, c4, byte_ok, byte_ok, byte_ok, byte_ok, hd.1, hA, hL, hr]; rfl, hA, hL⟩
/-- the statement's own text behind j of its rounds -/
def ref (a j : Nat) : List UInt8 := Sm.upTo a j ++ (if 0 < j ∧ j < 4 then [46] else [])
theorem ref_step (a j : Nat) (hj : j < 4) : ref a (j + 1) = (ref a j ++ decDigits (Sm.byte a j)) ++ (if j < 3 then [46] else []) := by
  unfold ref
  rw [Sm.upTo]
  by_cases h0 : 0 < j <;> by_cases h3 : j < 3
  · rw [if_pos h0, if_pos (⟨by omega, by omega⟩ : 0 < j + 1 ∧ j + 1 < 4), if_pos (⟨h0, hj⟩ : 0 < j ∧ j < 4), if_pos h3]
  · rw [if_pos h0, if_neg (by omega : ¬ (0 < j + 1 ∧ j + 1 < 4)), if_pos (⟨h0, hj⟩ : 0 < j ∧ j < 4), if_neg h3]
  · rw [if_neg h0, if_pos (⟨by omega, by omega⟩ : 0 < j + 1 ∧ j + 1 < 4), if_neg (by omega : ¬ (0 < j ∧ j < 4)), if_pos h3]; simp
  · omega
theorem ref_four (a : Nat) : ref a 4 = Sm.upTo a 4 := by unfold ref; rw [if_neg (by omega)]; simp
theorem ref_len (a j : Nat) (hj : j ≤ 4) : (ref a j).length ≤ 17 := by
  have h := Sm.upTo_len a j
  unfold ref
  split <;> simp only [List.length_append, List.length_cons, List.length_nil] <;> omega
end Go.Proofs.YtclfchdgagpahaaDoor.Tm
