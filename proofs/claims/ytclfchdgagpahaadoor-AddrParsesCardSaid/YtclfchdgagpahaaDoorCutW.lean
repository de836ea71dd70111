/-
  The contract of strings.Cut at one letter.
-/
import Derived.Test.YtclfchdgagpahaaDoorShelf
import Derived.Test.YtclfchdgagpahaaDoorBase
import Derived.Test.YtclfchdgagpahaaDoorCutM
import Derived.Lib.IndexBytes
namespace Go.Proofs.YtclfchdgagpahaaDoor
open Go.RowKit

/-- what it comes to -/
def CutPost (s : ByteArray) (c : UInt8) (w : World) (e : Ending) (w' : World) : Prop :=
  ∃ (p q : ByteArray) (b : Bool), e = .returned (.tuple #[.string p, .string q, .bool b]) ∧ p.data.toList = Cm.pre c s.data.toList ∧ q.data.toList = Cm.post c s.data.toList ∧ p.size ≤ s.size ∧ q.size ≤ s.size ∧ Below w.heap.size w w'

theorem one_size (c : UInt8) : (⟨#[c]⟩ : ByteArray).size = 1 := rfl
set_option maxHeartbeats 400000 in
theorem liteCut (s : ByteArray) (c : UInt8) (w : World) (hs : s.size ≤ 4294967295) : Calls Tryd.prog 26 #[.string s, .string ⟨#[c]⟩] w (CutPost s c w) := by
  have hl : s.data.toList.length = s.size := by simp
  rcases Int.lt_or_le (Lib.indexByte s.data.toList c) 0 with h | h
  · have h' : Lib.indexByte s.data.toList c = -1 := by have := Lib.indexByte_ge s.data.toList c; omega
    have C := Lib.hid (Cm.cut_none h')
    have I := Lib.hid h'
    clear h h' hl
    go_enter Tryd.func26, Tryd.ntmps26
    go_wp2_with fail
    refine (Tryd.stringslite_Index_one _ _ _).mono ?_
    rw [I.out]
    rintro e w' ⟨rfl, rfl⟩
    go_wp2_with fail
    go_ret3
    exact ⟨s, ⟨#[]⟩, false, rfl, C.out.1.symm, C.out.2.symm, Nat.le_refl _, Nat.zero_le _, Below.refl _ _⟩
  · obtain ⟨o, ho⟩ := Int.eq_ofNat_of_zero_le h
    obtain ⟨c1, c2, c3⟩ := Cm.cut_some ho
    rw [hl] at c3
    have C := Lib.hid (And.intro c1 c2)
    have I := Lib.hid ho
    clear h ho hl c1 c2
    have h1 : (0 : Int) ≤ (o : Int) := by omega
    have h2 : (o : Int) ≤ (s.size : Int) := by omega
    have h3 : (o : Int) + 1 ≤ (s.size : Int) := by omega
    go_enter Tryd.func26, Tryd.ntmps26
    go_wp2_with fail
    refine (Tryd.stringslite_Index_one _ _ _).mono ?_
    rw [I.out]
    rintro e w' ⟨rfl, rfl⟩
    go_wp2_with fail
    go_quiet (fail)
    go_wp2
    go_ret3
    refine ⟨s.extract 0 o, s.extract (o + 1) s.size, true, rfl, ?_, ?_, ?_, ?_, drewN_below (Below.refl _ _) _⟩
    · rw [Lib.extract_data, C.out.1]; simp
    · rw [Lib.extract_to_end, C.out.2]
    · rw [ByteArray.size_extract]; omega
    · rw [ByteArray.size_extract]; omega

/-- strings.Cut at one letter -/
theorem cut_any (s : ByteArray) (c : UInt8) (w : World) (hs : s.size ≤ 4294967295) : Calls Tryd.prog 20 #[.string s, .string ⟨#[c]⟩] w (CutPost s c w) := by
  go_enter Tryd.func20, Tryd.ntmps20
  go_wp2_with fail
  refine (liteCut s c _ hs).mono ?_
  rintro e w1 ⟨p, q, b, rfl, h1, h2, h3, h4, hb⟩
  have K := Lib.hid (And.intro h1 (And.intro h2 (And.intro h3 (And.intro h4 hb))))
  clear h1 h2 h3 h4 hb
  go_wp2_with fail
  go_ret3
  exact ⟨p, q, b, rfl, K.out⟩
end Go.Proofs.YtclfchdgagpahaaDoor
