/-
  Plain mathematics of AddrParses: what Parse takes is just its own text; and the statement's own scan.
-/
import Derived.Test.YtclfchdgagpahaaDoorTxtM
namespace Go.Proofs.YtclfchdgagpahaaDoor.Cn
open Go.Lib

/-! ### a text that is taken is the prefix's own -/
theorem digit_nat {c : UInt8} (h : Nm.digit c = true) : 48 ≤ c.toNat ∧ c.toNat ≤ 57 := by
  unfold Nm.digit at h
  simpa only [Bool.and_eq_true, decide_eq_true_eq] using h
theorem back (c : UInt8) (n : Nat) (h : c.toNat = n) : UInt8.ofNat n = c := by
  subst h
  exact UInt8.ofNat_toNat
theorem head_ne {a : UInt8} {r : List UInt8} (h : Nm.form (a :: r) = true) (hr : r ≠ []) : a.toNat ≠ 48 := by
  intro e
  have ha : a = 48 := by rw [← UInt8.toNat_inj]; exact e
  subst ha
  cases r with
  | nil => exact hr rfl
  | cons b r => unfold Nm.form at h; simp at h
theorem dec_val {d : List UInt8} {most : Nat} (h : Nm.ok d most = true) : decDigits (Nm.val d) = d := by
  unfold Nm.ok at h
  rw [Bool.and_eq_true, Bool.and_eq_true] at h
  obtain ⟨⟨hf, hd⟩, -⟩ := h
  have hlen : 1 ≤ d.length ∧ d.length ≤ 3 := by
    unfold Nm.form at hf
    simp only [Bool.and_eq_true, decide_eq_true_eq] at hf
    exact hf.1
  match d, hlen, hf, hd with
  | [a], _, _, hd =>
    have ha := digit_nat (c := a) (by simpa using hd)
    have hv : Nm.val [a] = a.toNat - 48 := by simp [Nm.val]
    rw [hv, Sm.dec1 (by omega), back a _ (by omega)]
  | [a, b], _, hf, hd =>
    simp only [List.all_cons, List.all_nil, Bool.and_true, Bool.and_eq_true] at hd
    have ha := digit_nat hd.1
    have hb := digit_nat hd.2
    have hne := head_ne hf (by simp)
    have hv : Nm.val [a, b] = 10 * (a.toNat - 48) + (b.toNat - 48) := by simp [Nm.val]
    rw [hv, Sm.dec2 (by omega) (by omega), back a _ (by omega), back b _ (by omega)]
  | [a, b, c], _, hf, hd =>
    simp only [List.all_cons, List.all_nil, Bool.and_true, Bool.and_eq_true] at hd
    have ha := digit_nat hd.1
    have hb := digit_nat hd.2.1
    have hc := digit_nat hd.2.2
    have hne := head_ne hf (by simp)
    have hv : Nm.val [a, b, c] = 10 * (10 * (a.toNat - 48) + (b.toNat - 48)) + (c.toNat - 48) := by simp [Nm.val]
    rw [hv, Sm.dec3 (by omega) (by omega), back a _ (by omega), back b _ (by omega), back c _ (by omega)]
theorem whole (c : UInt8) : ∀ (l : List UInt8), Cm.post c l ≠ [] → l = Cm.pre c l ++ c :: Cm.post c l
  | [], h => by exact absurd rfl h
  | b :: l, h => by
    unfold Cm.post Cm.pre at *
    rw [List.dropWhile_cons] at h ⊢
    rw [List.takeWhile_cons]
    by_cases hb : (b == c) = true
    · have : b = c := by simpa using hb
      subst this
      simp
    · have hb' : (b == c) = false := by simpa using hb
      rw [hb'] at h ⊢
      simp only [Bool.not_false, if_true] at h ⊢
      have ih := whole c l (by unfold Cm.post; exact h)
      unfold Cm.post Cm.pre at ih
      rw [List.cons_append, ← ih]
theorem ok_nonempty {d : List UInt8} {most : Nat} (h : Nm.ok d most = true) : d ≠ [] := by
  rintro rfl
  unfold Nm.ok Nm.form at h
  simp at h
theorem ok_text (l : List UInt8) (h : Pm.ok l = true) : Am.right (Pm.addr l 4) (Pm.len l) = true ∧ Sm.text (Pm.addr l 4) (Pm.len l) = l ∧ Pm.addr l 4 < 4294967296 ∧ Pm.len l ≤ 32 := by
  rw [Tm.ok_iff] at h
  simp only [Bool.and_eq_true] at h
  obtain ⟨⟨⟨⟨⟨h0, h1⟩, h2⟩, h3⟩, h4⟩, hr⟩ := h
  have m0 : Pm.mark 0 = 46 := rfl
  have m1 : Pm.mark 1 = 46 := rfl
  have m2 : Pm.mark 2 = 46 := rfl
  have m3 : Pm.mark 3 = 47 := rfl
  have w3 : Pm.rest l 3 = Pm.head l 3 ++ 47 :: Pm.rest l 4 := whole 47 (Pm.rest l 3) (ok_nonempty h4)
  have w2 : Pm.rest l 2 = Pm.head l 2 ++ 46 :: Pm.rest l 3 := whole 46 (Pm.rest l 2) (by show Pm.rest l 3 ≠ []; rw [w3]; simp)
  have w1 : Pm.rest l 1 = Pm.head l 1 ++ 46 :: Pm.rest l 2 := whole 46 (Pm.rest l 1) (by show Pm.rest l 2 ≠ []; rw [w2]; simp)
  have w0 : l = Pm.head l 0 ++ 46 :: Pm.rest l 1 := whole 46 l (by show Pm.rest l 1 ≠ []; rw [w1]; simp)
  have v0 := Pm.ok_val h0
  have v1 := Pm.ok_val h1
  have v2 := Pm.ok_val h2
  have v3 := Pm.ok_val h3
  have ha := Tm.addr_eq l
  have b0 : Sm.byte (Pm.addr l 4) 0 = Nm.val (Pm.head l 0) := by unfold Sm.byte; simp only [Nat.mul_zero, Nat.sub_zero, Nat.reducePow]; omega
  have b1 : Sm.byte (Pm.addr l 4) 1 = Nm.val (Pm.head l 1) := by unfold Sm.byte; simp only [Nat.reduceMul, Nat.reduceSub, Nat.reducePow]; omega
  have b2 : Sm.byte (Pm.addr l 4) 2 = Nm.val (Pm.head l 2) := by unfold Sm.byte; simp only [Nat.reduceMul, Nat.reduceSub, Nat.reducePow]; omega
  have b3 : Sm.byte (Pm.addr l 4) 3 = Nm.val (Pm.head l 3) := by unfold Sm.byte; simp only [Nat.reduceMul, Nat.reduceSub, Nat.reducePow]; omega
  refine ⟨hr, ?_, by omega, Pm.ok_val h4⟩
  rw [Tm.text_eq, b0, b1, b2, b3, dec_val h0, dec_val h1, dec_val h2, dec_val h3]
  unfold Pm.len
  rw [dec_val h4, ← w3, ← w2, ← w1, ← w0]

/-! ### the statement's own scan -/
/-- a number as the scan takes it: one to four digits, no nought ahead of others -/
def Good (g : List UInt8) : Prop := g.all Nm.digit = true ∧ 1 ≤ g.length ∧ g.length ≤ 4 ∧ (1 < g.length → g.head? ≠ some 48)
/-- digits so far -/
def Part (g : List UInt8) : Prop := g.all Nm.digit = true ∧ g.length ≤ 4 ∧ (1 < g.length → g.head? ≠ some 48)
theorem part_nil : Part [] := ⟨rfl, Nat.zero_le _, fun h => by simp at h⟩
theorem part_more {g : List UInt8} {c : UInt8} (h : Part g) (hc : Nm.digit c = true) (hl : g.length < 4) (hx : g.length = 0 ∨ Nm.val g ≠ 0) : Part (g ++ [c]) := by
  refine ⟨by rw [List.all_append, h.1]; simp [hc], by simp; omega, fun h1 => ?_⟩
  cases g with
  | nil => simp at h1
  | cons a r =>
    rw [List.cons_append, List.head?_cons]
    rcases hx with hx | hx
    · simp at hx
    · intro e
      have ha : a = 48 := Option.some.inj e
      subst ha
      cases r with
      | nil => exact hx rfl
      | cons b r => exact h.2.2 (by simp) rfl
theorem part_good {g : List UInt8} (h : Part g) (h1 : 1 ≤ g.length) : Good g := ⟨h.1, h1, h.2.1, h.2.2⟩
theorem part_lt {g : List UInt8} (h : Part g) : Nm.val g < 10000 := by
  have h1 := Nm.val_lt g h.1
  exact Nat.lt_of_lt_of_le h1 (by rw [show (10000 : Nat) = 10 ^ 4 from rfl]; exact Nat.pow_le_pow_right (by omega) h.2.1)
theorem good_lt {g : List UInt8} (h : Good g) : Nm.val g < 10000 := part_lt ⟨h.1, h.2.2.1, h.2.2.2⟩
theorem good_ok {g : List UInt8} {most : Nat} (h : Good g) (hv : Nm.val g ≤ most) (hm : most ≤ 255) : Nm.ok g most = true := by
  obtain ⟨hd, h1, h4, hh⟩ := h
  have h3 : g.length ≤ 3 := by
    rcases Nat.lt_or_ge 3 g.length with hl | hl
    · exfalso
      have hl4 : g.length = 4 := by omega
      match g, hl4, hd, hh with
      | [a, b, c, d], _, hd, hh =>
        simp only [List.all_cons, List.all_nil, Bool.and_true, Bool.and_eq_true] at hd
        have ha := digit_nat hd.1
        have hne : a.toNat ≠ 48 := fun e => hh (by simp) (by rw [List.head?_cons]; congr 1; rw [← UInt8.toNat_inj]; exact e)
        have hvv : Nm.val [a, b, c, d] = 10 * (10 * (10 * (a.toNat - 48) + (b.toNat - 48)) + (c.toNat - 48)) + (d.toNat - 48) := by simp [Nm.val]
        omega
    · exact hl
  have hf : Nm.form g = true := by
    unfold Nm.form
    rw [decide_eq_true h1, decide_eq_true h3]
    by_cases hl : 1 < g.length
    · have : (g.head? == some 48) = false := beq_eq_false_iff_ne.2 (hh hl)
      rw [this]; simp
    · rw [decide_eq_false hl]; rfl
  unfold Nm.ok
  rw [hf, hd, decide_eq_true hv]; rfl
/-- the numbers that are done, the last one first, each with its mark behind -/
def join : List (List UInt8) → List UInt8
  | [] => []
  | g :: rs => join rs ++ g ++ [Pm.mark rs.length]
/-- the numbers' values, the first one first -/
def vals (rs : List (List UInt8)) : List Nat := rs.reverse.map Nm.val
theorem vals_cons (g : List UInt8) (rs : List (List UInt8)) : vals (g :: rs) = vals rs ++ [Nm.val g] := by simp [vals]
theorem vals_len (rs : List (List UInt8)) : (vals rs).length = rs.length := by simp [vals]
/-- five numbers in range that are no prefix: what the scan comes to where Parse doesn't take the text -/
theorem scan_right {l : List UInt8} {r0 r1 r2 r3 g : List UInt8} (hl : l = join [r3, r2, r1, r0] ++ g) (hno : Pm.ok l = false)
    (g0 : Good r0) (g1 : Good r1) (g2 : Good r2) (g3 : Good r3) (gg : Good g) (v0 : Nm.val r0 ≤ 255) (v1 : Nm.val r1 ≤ 255) (v2 : Nm.val r2 ≤ 255) (v3 : Nm.val r3 ≤ 255) (v4 : Nm.val g ≤ 32) :
    Am.right (((Nm.val r0 * 256 + Nm.val r1) * 256 + Nm.val r2) * 256 + Nm.val r3) (Nm.val g) = false := by
  obtain ⟨c0, c1, c2, c3, c4⟩ := Tm.cuts r0 r1 r2 r3 g g0.1 g1.1 g2.1 g3.1
  have e : l = r0 ++ 46 :: (r1 ++ 46 :: (r2 ++ 46 :: (r3 ++ 47 :: g))) := by
    rw [hl]
    simp [join, show Pm.mark 0 = 46 from rfl, show Pm.mark 1 = 46 from rfl, show Pm.mark 2 = 46 from rfl, show Pm.mark 3 = 47 from rfl]
  rw [← e] at c0 c1 c2 c3 c4
  have hA := Tm.addr_eq l
  rw [c0, c1, c2, c3] at hA
  rw [Tm.ok_iff, c0, c1, c2, c3, c4, good_ok g0 v0 (by omega), good_ok g1 v1 (by omega), good_ok g2 v2 (by omega), good_ok g3 v3 (by omega), good_ok gg v4 (by omega), hA] at hno
  unfold Pm.len at hno
  rw [c4] at hno
  simpa using hno
end Go.Proofs.YtclfchdgagpahaaDoor.Cn
