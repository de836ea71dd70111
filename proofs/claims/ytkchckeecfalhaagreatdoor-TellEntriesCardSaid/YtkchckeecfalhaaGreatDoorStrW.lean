/-
  The contract of package addr's String.
-/
import Derived.Test.YtkchckeecfalhaaGreatDoorAddrH
import Derived.Test.YtkchckeecfalhaaGreatDoorShelf
import Derived.Test.YtkchckeecfalhaaGreatDoorStrM
import Derived.Lib.ItoaMem
namespace Go.Proofs.YtkchckeecfalhaaGreatDoor
open Go.RowKit

/-- the library's table of powers holds what its text says -/
def Tab (w : World) : Prop := Lib.TabIs Tryz.prog w "internal/strconv.uint64pow10" .u64 Lib.pow10Tab
theorem Tab.held {w w' : World} (h : Tab w) (hb : Below w.heap.size w w') : Tab w' := by
  unfold Tab Lib.TabIs World.var? at *
  cases hg : Tryz.prog.globalNamed "internal/strconv.uint64pow10" with
  | none => rw [hg] at h; cases h
  | some g =>
    rw [hg] at h
    simp only [Option.bind_some] at h ⊢
    have hlt : g < w.heap.size := by
      rcases Nat.lt_or_ge g w.heap.size with h' | h'
      · exact h'
      · rw [Array.getElem?_eq_none h'] at h; cases h
    rw [hb.block g hlt]
    exact h
theorem grow_below (w : World) (k : Nat) (os : Array Obj) : Below w.heap.size w (Sort.grow (w.drewN k) os) :=
  ⟨rfl, rfl, rfl, by simp [Sort.grow, World.drewN], fun i hi => by simp [Sort.grow, World.drewN, Array.getElem?_append, hi]⟩
/-- strconv.Itoa of a number that isn't below nought -/
theorem itoa_any (n : Nat) (hn : n ≤ 9223372036854775807) (w : World) (ht : Tab w) :
    Calls Tryz.prog 11 #[.int .i64 n] w fun e w' => e = .returned (.string ⟨(Lib.decDigits n).toArray⟩) ∧ Below w.heap.size w w' :=
  (Tryz.strconv_Itoa n (by omega) (by omega) w ht).mono fun _ _ ⟨he, k, os, hw⟩ => ⟨by rw [he, Lib.itoa_nonneg], hw ▸ grow_below w k os⟩

/-- what Itoa answers of a number of up to three digits -/
def Told3 (n : Nat) (w : World) (e : Ending) (w' : World) : Prop := ∃ b : ByteArray, e = .returned (.string b) ∧ b.data.toList = Lib.decDigits n ∧ b.size ≤ 3 ∧ Below w.heap.size w w'
theorem itoa_told (n : Nat) (hn : n < 1000) (w : World) (ht : Tab w) : Calls Tryz.prog 11 #[.int .i64 n] w (Told3 n w) :=
  (itoa_any n (by omega) w ht).mono fun _ _ ⟨he, hb⟩ => ⟨_, he, rfl, Sm.dec_len hn, hb⟩
theorem byte_val (a k : Nat) (ha : a < 4294967296) : wrap64 (bits .and .u32 ((a : Int) / 2 ^ (24 - 8 * k)) 255) = (Sm.byte a k : Nat) := by
  have e : ((a : Int) / 2 ^ (24 - 8 * k)) = ((a / 2 ^ (24 - 8 * k) : Nat) : Int) := by simp [Int.natCast_ediv]
  rw [e, show (255 : Int) = ((255 : Nat) : Int) from rfl, u32_and_nat _ 255 (Nat.lt_of_le_of_lt (Nat.div_le_self _ _) ha) (by omega), nat_mask8]
  unfold Sm.byte
  have := Nat.mod_lt (a / 2 ^ (24 - 8 * k)) (show 0 < 256 by omega)
  exact IntWalk.wrap64_in _ ⟨by omega, by omega⟩
theorem size_of {b : ByteArray} : b.data.toList.length = b.size := by simp
theorem cat_list (a b : ByteArray) : (a ++ b).data.toList = a.data.toList ++ b.data.toList := by rw [ByteArray.data_append, Array.toList_append]
theorem cat_size (a b : ByteArray) : (a ++ b).size = a.size + b.size := ByteArray.size_append

set_option maxHeartbeats 1000000 in
theorem string_right (a n : Nat) (ha : a < 4294967296) (hr : Am.right a n = true) (hn : n ≤ 32) (w : World) (ht : Tab w) :
    Calls Tryz.prog 19 #[.agg #[.int .u32 a, .int .i64 n]] w fun e w' => e = .returned (.string ⟨(Sm.text a n).toArray⟩) ∧ Below w.heap.size w w' := by
  have R := Lib.hid hr
  have HT := Lib.hid ht
  clear hr ht
  go_enter Tryz.func19, Tryz.ntmps19
  go_wp2_with fail
  obtain ⟨c0, c1⟩ := pre_new w 24 a n
  have hb := below_new w (.cells #[.int .u32 a, .int .i64 n] 24)
  generalize w.alloc (.cells #[.int .u32 a, .int .i64 n] 24) = w2 at *
  have HB := Lib.hid hb
  clear hb
  refine (right_eq ha R.out _).mono ?_
  rintro e w3 ⟨rfl, hb⟩
  replace c0 := held hb c0; replace c1 := held hb c1
  replace HB := Lib.hid (next HB.out hb); clear hb
  go_wp2_with fail
  have K := Lib.hid (And.intro c0 c1)
  clear c0 c1
  go_loopw [3, 8] (fun v i wr => ∃ (k : Nat) (t : ByteArray), i = .int .i64 k ∧ v = .string t ∧ k ≤ 4 ∧ t.data.toList = Sm.upTo a k ∧ (wr.cell? ⟨w.heap.size, 0, none⟩ = some (.int .u32 a) ∧ wr.cell? ⟨w.heap.size, 1, none⟩ = some (.int .i64 n)) ∧ Below w.heap.size w wr) (fun _ i _ => 4 - (intOf i).toNat)
  case atStart => exact ⟨0, ⟨#[]⟩, rfl, rfl, by omega, rfl, K.out, HB.out⟩
  case round =>
    clear K HB
    obtain ⟨k, t, rfl, rfl, hk, htx, ⟨c0, c1⟩, hb⟩ := hrel
    have hsz : t.size ≤ 16 := by
      have h1 := Sm.upTo_len a k
      rw [← htx] at h1
      have h2 : t.data.toList.length = t.size := by simp
      omega
    have HX := Lib.hid htx
    have HB := Lib.hid hb
    clear htx hb
    by_cases hlt : k < 4
    · have BV := Lib.hid (byte_val a k ha)
      have hbl := Sm.byte_lt a k
      go_wp2_with fail
      · have hk0 : 0 < k := by assumption
        rw [BV.out]
        refine (itoa_told (Sm.byte a k) (by omega) _ (HT.out.held HB.out)).mono ?_
        rintro e w4 ⟨b, rfl, hbt, hbs, hb⟩
        have BT := Lib.hid hbt
        replace c0 := held hb c0; replace c1 := held hb c1
        replace HB := Lib.hid (next HB.out hb)
        clear hb hbt
        have hcat : (t ++ (⟨#[46]⟩ : ByteArray)).size ≤ 17 := by rw [cat_size]; show t.size + 1 ≤ 17; omega
        go_wp2_with fail
        go_roundw
        case rel =>
          refine ⟨k + 1, _, by go_num, rfl, by omega, ?_, ⟨c0, c1⟩, HB.out⟩
          rw [cat_list, cat_list, HX.out, BT.out, Sm.upTo, if_pos hk0]
        case measure => simp [intOf]; omega
      · have hk0 : ¬ 0 < k := by assumption
        rw [BV.out]
        refine (itoa_told (Sm.byte a k) (by omega) _ (HT.out.held HB.out)).mono ?_
        rintro e w4 ⟨b, rfl, hbt, hbs, hb⟩
        have BT := Lib.hid hbt
        replace c0 := held hb c0; replace c1 := held hb c1
        replace HB := Lib.hid (next HB.out hb)
        clear hb hbt
        go_wp2_with fail
        go_roundw
        case rel =>
          refine ⟨k + 1, _, by go_num, rfl, by omega, ?_, ⟨c0, c1⟩, HB.out⟩
          rw [cat_list, HX.out, BT.out, Sm.upTo, if_neg hk0]
        case measure => simp [intOf]; omega
    · obtain rfl : k = 4 := by omega
      have hcat : (t ++ (⟨#[47]⟩ : ByteArray)).size ≤ 17 := by rw [cat_size]; show t.size + 1 ≤ 17; omega
      go_wp2_with fail
      refine (itoa_told n (by omega) _ (HT.out.held HB.out)).mono ?_
      rintro e w4 ⟨b, rfl, hbt, hbs, hb⟩
      have BT := Lib.hid hbt
      replace HB := Lib.hid (next HB.out hb)
      clear hb hbt
      go_wp2_with fail
      go_ret
      refine ⟨ret_string ?_, HB.out⟩
      have e : (t ++ (⟨#[47]⟩ : ByteArray) ++ b).data.toList = Sm.text a n := by rw [cat_list, cat_list, HX.out, BT.out]; rfl
      rw [← e]
set_option maxHeartbeats 400000 in
theorem string_not (a : Nat) (len : Int) (ha : a < 4294967296) (hr : Am.right a len = false) (w : World) :
    Calls Tryz.prog 19 #[.agg #[.int .u32 a, .int .i64 len]] w fun e w' => e = .returned (.string ⟨#[]⟩) ∧ Below w.heap.size w w' := by
  have R := Lib.hid hr
  clear hr
  go_enter Tryz.func19, Tryz.ntmps19
  go_wp2_with fail
  refine (right_eq ha R.out _).mono ?_
  rintro e w3 ⟨rfl, hb⟩
  have HB := Lib.hid (next (below_new w (.cells #[.int .u32 a, .int .i64 len] 24)) hb)
  clear hb
  go_wp2_with fail
  go_ret
  exact ⟨rfl, HB.out⟩
/-- package addr's String, of whatever prefix -/
theorem string_any (a : Nat) (len : Int) (ha : a < 4294967296) (w : World) (ht : Tab w) :
    Calls Tryz.prog 19 #[.agg #[.int .u32 a, .int .i64 len]] w fun e w' => e = .returned (.string ⟨(Sm.str a len).toArray⟩) ∧ Below w.heap.size w w' := by
  cases hr : Am.right a len
  · have e : Sm.str a len = [] := by unfold Sm.str; rw [hr]; rfl
    rw [e]
    exact string_not a len ha hr w
  · obtain ⟨n, hn, rfl, -⟩ := right_len hr
    have e : Sm.str a n = Sm.text a n := by unfold Sm.str; rw [hr]; simp
    rw [e]
    exact string_right a n ha hr hn w ht
end Go.Proofs.YtkchckeecfalhaaGreatDoor
