/-
  The contract of package addr's number.
-/
import Derived.Test.YtclfchdgagpahaaDoorProg
import Derived.Test.YtclfchdgagpahaaDoorBase
import Derived.Test.YtclfchdgagpahaaDoorNumM
namespace Go.Proofs.YtclfchdgagpahaaDoor
open Go.RowKit

theorem take_snoc (s : ByteArray) (k : Nat) (h : k < s.size) : s.data.toList.take (k + 1) = s.data.toList.take k ++ [s[k]] := by
  rw [List.take_succ_eq_append_getElem (by simpa using h)]; rfl
theorem ret_pair {a b : Int} {p q : Bool} (h : a = b) (h' : p = q) : Ending.returned (.tuple #[.int .i64 a, .bool p]) = .returned (.tuple #[.int .i64 b, .bool q]) := by rw [h, h']

theorem head_eq (s : ByteArray) (h : 0 < s.size) : s.data.toList.head? = some s[0] := by
  have h' : 0 < s.data.toList.length := by simpa using h
  rw [List.head?_eq_getElem?, List.getElem?_eq_getElem h']
  rfl
theorem byte_beq (a : UInt8) (n : Nat) (hn : n < 256) : ((a.toNat : Int) == (n : Int)) = (a == UInt8.ofNat n) := by
  rw [Bool.eq_iff_iff, beq_iff_eq, beq_iff_eq, ← UInt8.toNat_inj, UInt8.toNat_ofNat', Nat.mod_eq_of_lt hn]
  omega
theorem form_one {s : ByteArray} (h : s.size = 1) : Nm.form s.data.toList = true := by
  have hl : s.data.toList.length = 1 := by simpa using h
  unfold Nm.form; rw [hl]; rfl
theorem form_more {s : ByteArray} (h1 : 1 < s.size) (h3 : s.size ≤ 3) : Nm.form s.data.toList = !(s[0]'(by omega) == 48) := by
  have hl : s.data.toList.length = s.size := by simp
  unfold Nm.form
  rw [hl, head_eq s (by omega), decide_eq_true (by omega), decide_eq_true h3, decide_eq_true h1]
  simp
theorem form_none {s : ByteArray} (h : s.size < 1) : Nm.form s.data.toList = false := by
  have hl : s.data.toList.length = s.size := by simp
  unfold Nm.form; rw [hl, decide_eq_false (by omega)]; rfl
theorem form_long {s : ByteArray} (h : 3 < s.size) : Nm.form s.data.toList = false := by
  have hl : s.data.toList.length = s.size := by simp
  unfold Nm.form; rw [hl, decide_eq_false (by omega : ¬ s.size ≤ 3)]; simp
theorem all_snoc (l : List UInt8) (c : UInt8) : (l ++ [c]).all Nm.digit = (l.all Nm.digit && Nm.digit c) := by simp
theorem all_take (l : List UInt8) (k : Nat) (h : (l.take k).all Nm.digit = false) : l.all Nm.digit = false := by
  rw [← List.take_append_drop k l, List.all_append, h]; rfl
/-- where the text has the form: what is still to be shown of its digits -/
def Told (s : ByteArray) : Prop := Nm.form s.data.toList = true
theorem Told.yes {s : ByteArray} {most : Nat} (h : Told s) (hd : s.data.toList.all Nm.digit = true) (hv : Nm.val s.data.toList ≤ most) : Nm.ok s.data.toList most = true := by
  unfold Told at h; unfold Nm.ok; rw [h, hd, decide_eq_true hv]; rfl
theorem Told.no {s : ByteArray} {most : Nat} (hv : ¬ Nm.val s.data.toList ≤ most) : Nm.ok s.data.toList most = false := by
  unfold Nm.ok; rw [decide_eq_false hv]; simp

set_option maxHeartbeats 1000000 in
theorem number_told (s : ByteArray) (most : Nat) (w : World) (hs1 : 1 ≤ s.size) (hs3 : s.size ≤ 3) (hf : Told s)
    (hone : s.size = 1 ∨ (1 < s.size ∧ ((s[0]'(by omega)).toNat : Int) ≠ 48)) :
    Calls Tryd.prog 21 #[.string s, .int .i64 most] w fun e w' => e = .returned (.tuple #[.int .i64 (Nm.out s.data.toList most : Nat), .bool (Nm.ok s.data.toList most)]) ∧ w = w' := by
  have HF := Lib.hid hf
  clear hf
  have hz : 0 < s.size := by omega
  have d1 : decide ((s.size : Int) < 1) = false := decide_eq_false (by omega)
  have d2 : decide (3 < (s.size : Int)) = false := decide_eq_false (by omega)
  rcases hone with h | ⟨h, hne⟩
  case' inl => have d3 : decide (1 < (s.size : Int)) = false := decide_eq_false (by omega)
  case' inr =>
    have d3 : decide (1 < (s.size : Int)) = true := decide_eq_true (by omega)
    have d4 : ((s[0].toNat : Int) == 48) = false := beq_eq_false_iff_ne.2 hne
    clear hne
  all_goals
    clear h
    go_enter Tryd.func21, Tryd.ntmps21
    go_wp2
    go_loop [6, 28] (fun n i => ∃ k : Nat, k ≤ s.size ∧ i = .int .i64 k ∧ n = .int .i64 (Nm.val (s.data.toList.take k) : Nat) ∧ (s.data.toList.take k).all Nm.digit = true) (fun _ i => s.size - (intOf i).toNat)
    case atStart => exact ⟨0, by omega, rfl, rfl, rfl⟩
    case round =>
      obtain ⟨k, hk, rfl, rfl, hd⟩ := hrel
      by_cases hlt : k < s.size
      · have hv : Nm.val (s.data.toList.take k) < 1000 := by
          have h := Nm.val_lt _ hd
          have h2 : (s.data.toList.take k).length = k := by simp; omega
          rw [h2] at h
          exact Nat.lt_of_lt_of_le h (by rw [show (1000 : Nat) = 10 ^ 3 from rfl]; exact Nat.pow_le_pow_right (by omega) (by omega))
        have E1 := Lib.hid (Nm.val_snoc (s.data.toList.take k) s[k])
        have E2 := Lib.hid (all_snoc (s.data.toList.take k) s[k])
        have ET := Lib.hid (take_snoc s k hlt)
        have HD := Lib.hid hd
        clear hd
        generalize Nm.val (s.data.toList.take k) = v at hv E1
        have hc : s[k].toNat < 256 := s[k].toNat_lt
        by_cases hdig : 48 ≤ s[k].toNat ∧ s[k].toNat ≤ 57
        · obtain ⟨hd1, hd2⟩ := hdig
          have DG : Hid (Nm.digit s[k] = true) := Lib.hid (by unfold Nm.digit; simp [hd1, hd2])
          go_wp2
          go_round
          case rel => exact ⟨k + 1, by omega, by go_num, by rw [ET.out, E1.out]; congr 1; omega, by rw [ET.out, E2.out, HD.out, DG.out]; rfl⟩
          case measure => simp [intOf]; omega
        · have O := Lib.hid (Nm.ok_digit (most := most) (all_take s.data.toList (k + 1) (by
            rw [ET.out, E2.out]
            have : Nm.digit s[k] = false := by unfold Nm.digit; rw [Bool.and_eq_false_iff]; simp only [decide_eq_false_iff_not]; omega
            rw [this, Bool.and_false])))
          have P := Lib.hid (Nm.out_no O.out)
          have hdig' : s[k].toNat < 48 ∨ 57 < s[k].toNat := by omega
          clear hdig
          rcases hdig' with hdd | hdd
          all_goals
            go_wp2
            go_ret2
            exact ⟨ret_pair (by rw [P.out]; rfl) O.out.symm, rfl⟩
      · obtain rfl : k = s.size := by omega
        have hT : s.data.toList.take s.size = s.data.toList := List.take_of_length_le (by simp)
        rw [hT] at hd ⊢
        have hv : Nm.val s.data.toList < 1000 := by
          have h := Nm.val_lt _ hd
          exact Nat.lt_of_lt_of_le h (by rw [show (1000 : Nat) = 10 ^ 3 from rfl]; exact Nat.pow_le_pow_right (by omega) (by simpa using hs3))
        have HD := Lib.hid hd
        clear hd
        by_cases hgt : most < Nm.val s.data.toList
        · have O := Lib.hid (Told.no (s := s) (most := most) (by omega))
          have P := Lib.hid (Nm.out_no O.out)
          go_wp2
          go_ret2
          exact ⟨ret_pair (by rw [P.out]; rfl) O.out.symm, rfl⟩
        · have O := Lib.hid (HF.out.yes (most := most) HD.out (by omega))
          have P := Lib.hid (Nm.out_yes O.out)
          go_wp2
          go_ret2
          exact ⟨ret_pair (by rw [P.out]) O.out.symm, rfl⟩

set_option maxHeartbeats 400000 in
theorem number_not (s : ByteArray) (most : Nat) (w : World) (hbig : s.size ≤ 9223372036854775807)
    (hno : s.size < 1 ∨ 3 < s.size ∨ ∃ h : 1 < s.size, s.size ≤ 3 ∧ ((s[0]'(by omega)).toNat : Int) = 48) :
    Calls Tryd.prog 21 #[.string s, .int .i64 most] w fun e w' => e = .returned (.tuple #[.int .i64 0, .bool false]) ∧ w = w' := by
  rcases hno with h | h | ⟨h, h3, hne⟩
  · have d1 : decide ((s.size : Int) < 1) = true := decide_eq_true (by omega)
    go_enter Tryd.func21, Tryd.ntmps21
    go_wp2
    go_ret2
    exact ⟨rfl, rfl⟩
  · have d1 : decide ((s.size : Int) < 1) = false := decide_eq_false (by omega)
    have d2 : decide (3 < (s.size : Int)) = true := decide_eq_true (by omega)
    go_enter Tryd.func21, Tryd.ntmps21
    go_wp2
    go_ret2
    exact ⟨rfl, rfl⟩
  · have hz : 0 < s.size := by omega
    have d1 : decide ((s.size : Int) < 1) = false := decide_eq_false (by omega)
    have d2 : decide (3 < (s.size : Int)) = false := decide_eq_false (by omega)
    have d3 : decide (1 < (s.size : Int)) = true := decide_eq_true (by omega)
    have d4 : ((s[0].toNat : Int) == 48) = true := beq_iff_eq.2 hne
    clear hne
    go_enter Tryd.func21, Tryd.ntmps21
    go_wp2
    go_ret2
    exact ⟨rfl, rfl⟩

/-- package addr's number, of whatever text -/
theorem number_any (s : ByteArray) (most : Nat) (w : World) (hbig : s.size ≤ 9223372036854775807) :
    Calls Tryd.prog 21 #[.string s, .int .i64 most] w fun e w' => e = .returned (.tuple #[.int .i64 (Nm.out s.data.toList most : Nat), .bool (Nm.ok s.data.toList most)]) ∧ w = w' := by
  have no : ∀ h : Nm.form s.data.toList = false, (Nm.out s.data.toList most = 0 ∧ Nm.ok s.data.toList most = false) := fun h => ⟨Nm.out_no (Nm.ok_form h), Nm.ok_form h⟩
  by_cases h1 : s.size < 1
  · obtain ⟨a, b⟩ := no (form_none h1)
    rw [a, b]
    exact number_not s most w hbig (.inl h1)
  · by_cases h3 : 3 < s.size
    · obtain ⟨a, b⟩ := no (form_long h3)
      rw [a, b]
      exact number_not s most w hbig (.inr (.inl h3))
    · by_cases h : s.size = 1
      · exact number_told s most w (by omega) (by omega) (form_one h) (.inl h)
      · have hf := form_more (s := s) (by omega) (by omega)
        have hb : (((s[0]'(by omega)).toNat : Int) == 48) = ((s[0]'(by omega)) == 48) := byte_beq (s[0]'(by omega)) 48 (by omega)
        by_cases hne : ((s[0]'(by omega)).toNat : Int) = 48
        · obtain ⟨a, b⟩ := no (by rw [hf, ← hb, beq_iff_eq.2 hne]; rfl)
          rw [a, b]
          exact number_not s most w hbig (.inr (.inr ⟨by omega, by omega, hne⟩))
        · exact number_told s most w (by omega) (by omega) (by unfold Told; rw [hf, ← hb, beq_eq_false_iff_ne.2 hne]; rfl) (.inr ⟨by omega, hne⟩)
end Go.Proofs.YtclfchdgagpahaaDoor
