/-
  AddrTexts: the walk.
-/
import Derived.Test.YtclfchdgagpahaaDoorAddrHd
import Derived.Test.YtclfchdgagpahaaDoorTxtM
namespace Go.Proofs.YtclfchdgagpahaaDoor
open Go.RowKit

set_option maxHeartbeats 1000000 in
theorem atext_not (a : Nat) (len : Int) (ha : a < 4294967296) (hr : Am.right a len = false) (w : World) (ht : Tab w) :
    Calls Tryd.prog 4 #[.agg #[.int .u32 a, .int .i64 len]] w fun e w' => e = .returned (.bool true) ∧ Below w.heap.size w w' := by
  have R := Lib.hid hr
  have HT := Lib.hid ht
  clear hr ht
  go_enter Tryd.func4, Tryd.ntmps4
  go_wp2_with fail
  obtain ⟨c0, c1⟩ := pre_new w 24 a len
  have hb := below_new w (.cells #[.int .u32 a, .int .i64 len] 24)
  generalize w.alloc (.cells #[.int .u32 a, .int .i64 len] 24) = w2 at *
  have HB := Lib.hid hb
  clear hb
  refine (addr_head _ (HT.out.held HB.out)).mono ?_
  rintro e w3 ⟨rfl, hb⟩
  replace c0 := held hb c0; replace c1 := held hb c1
  replace HB := Lib.hid (next HB.out hb); clear hb
  go_wp2_with fail
  refine (refRight_eq ha R.out _).mono ?_
  rintro e w4 ⟨rfl, hb⟩
  replace c0 := held hb c0; replace c1 := held hb c1
  replace HB := Lib.hid (next HB.out hb); clear hb
  go_wp2_with fail
  refine (string_not a len ha R.out _).mono ?_
  rintro e w5 ⟨rfl, hb⟩
  replace HB := Lib.hid (next HB.out hb); clear hb
  go_wp2_with fail
  go_ret
  exact ⟨ret_bool (by first | rfl | decide | simp), HB.out⟩

theorem byte_val2 (a j : Nat) (ha : a < 4294967296) (hj : j < 4) : wrap64 (bits .and .u32 ((a : Int) / 2 ^ (8 * (3 - j))) 255) = (Sm.byte a j : Nat) := by
  rw [show 8 * (3 - j) = 24 - 8 * j from by omega]
  exact byte_val a j ha
/-- what stands over the loop -/
def TAt (a j : Nat) (n : Int) (w : World) (t : ByteArray) (wr : World) : Prop :=
  j ≤ 4 ∧ t.data.toList = Tm.ref a j ∧ (wr.cell? ⟨w.heap.size, 0, none⟩ = some (.int .u32 a) ∧ wr.cell? ⟨w.heap.size, 1, none⟩ = some (.int .i64 n)) ∧ Below w.heap.size w wr

set_option maxHeartbeats 2000000 in
theorem atext_right (a n : Nat) (ha : a < 4294967296) (hn : n ≤ 32) (hr : Am.right a n = true) (w : World) (ht : Tab w) :
    Calls Tryd.prog 4 #[.agg #[.int .u32 a, .int .i64 n]] w fun e w' => e = .returned (.bool true) ∧ Below w.heap.size w w' := by
  have R := Lib.hid hr
  have HT := Lib.hid ht
  clear hr ht
  go_enter Tryd.func4, Tryd.ntmps4
  go_wp2_with fail
  obtain ⟨c0, c1⟩ := pre_new w 24 a n
  have hb := below_new w (.cells #[.int .u32 a, .int .i64 n] 24)
  generalize w.alloc (.cells #[.int .u32 a, .int .i64 n] 24) = w2 at *
  have HB := Lib.hid hb
  clear hb
  refine (addr_head _ (HT.out.held HB.out)).mono ?_
  rintro e w3 ⟨rfl, hb⟩
  replace c0 := held hb c0; replace c1 := held hb c1
  replace HB := Lib.hid (next HB.out hb); clear hb
  go_wp2_with fail
  refine (refRight_eq ha R.out _).mono ?_
  rintro e w4 ⟨rfl, hb⟩
  replace c0 := held hb c0; replace c1 := held hb c1
  replace HB := Lib.hid (next HB.out hb); clear hb
  go_wp2_with fail
  have K := Lib.hid (And.intro c0 c1)
  clear c0 c1
  go_loopw [3, 4] (fun v i wr => ∃ (j : Nat) (t : ByteArray), i = .int .i64 (3 - (j : Int)) ∧ v = .string t ∧ TAt a j n w t wr) (fun _ i _ => (intOf i + 1).toNat)
  case atStart => exact ⟨0, ⟨#[]⟩, rfl, rfl, by omega, rfl, K.out, HB.out⟩
  case round =>
    clear K HB
    obtain ⟨j, t, rfl, rfl, hj, htx, ⟨c0, c1⟩, hb⟩ := hrel
    have hsz : t.size ≤ 17 := by
      have h1 := Tm.ref_len a j hj
      rw [← htx, size_of] at h1
      exact h1
    have HX := Lib.hid htx
    have HB := Lib.hid hb
    clear htx hb
    by_cases hlt : j < 4
    · have BV := Lib.hid (byte_val2 a j ha hlt)
      have hbl := Sm.byte_lt a j
      have RS := Lib.hid (Tm.ref_step a j hlt)
      by_cases h3 : j < 3
      · go_wp2_with fail
        rw [BV.out]
        refine (itoa_told (Sm.byte a j) (by omega) _ (HT.out.held HB.out)).mono ?_
        rintro e w5 ⟨b, rfl, hbt, hbs, hb⟩
        have BT := Lib.hid hbt
        replace c0 := held hb c0; replace c1 := held hb c1
        replace HB := Lib.hid (next HB.out hb)
        clear hb hbt
        have hcat : (t ++ b).size ≤ 20 := by rw [cat_size]; omega
        go_wp2_with fail
        go_roundw
        case rel =>
          refine ⟨j + 1, _, by go_num, rfl, by omega, ?_, ⟨c0, c1⟩, HB.out⟩
          rw [cat_list, cat_list, HX.out, BT.out, RS.out, if_pos h3]
        case measure => simp [intOf]; omega
      · go_wp2_with fail
        rw [BV.out]
        refine (itoa_told (Sm.byte a j) (by omega) _ (HT.out.held HB.out)).mono ?_
        rintro e w5 ⟨b, rfl, hbt, hbs, hb⟩
        have BT := Lib.hid hbt
        replace c0 := held hb c0; replace c1 := held hb c1
        replace HB := Lib.hid (next HB.out hb)
        clear hb hbt
        go_wp2_with fail
        go_roundw
        case rel =>
          refine ⟨j + 1, _, by go_num, rfl, by omega, ?_, ⟨c0, c1⟩, HB.out⟩
          rw [cat_list, HX.out, BT.out, RS.out, if_neg h3, List.append_nil]
        case measure => simp [intOf]; omega
    · obtain rfl : j = 4 := by omega
      have hcat : (t ++ (⟨#[47]⟩ : ByteArray)).size ≤ 18 := by rw [cat_size]; show t.size + 1 ≤ 18; omega
      go_wp2_with fail
      refine (itoa_told n (by omega) _ (HT.out.held HB.out)).mono ?_
      rintro e w5 ⟨b, rfl, hbt, hbs, hb⟩
      have BT := Lib.hid hbt
      replace c0 := held hb c0; replace c1 := held hb c1
      replace HB := Lib.hid (next HB.out hb)
      clear hb hbt
      have eS : Hid ((t ++ (⟨#[47]⟩ : ByteArray)) ++ b = ⟨(Sm.text a n).toArray⟩) := Lib.hid (by
        have e : ((t ++ (⟨#[47]⟩ : ByteArray)) ++ b).data.toList = Sm.text a n := by rw [cat_list, cat_list, HX.out, Tm.ref_four, BT.out]; rfl
        rw [← e])
      have hSs : ((t ++ (⟨#[47]⟩ : ByteArray)) ++ b).size ≤ 4294967295 := by rw [cat_size]; omega
      have PT := Lib.hid (Tm.parse_text a n ha hn R.out)
      go_wp2_with fail
      rw [eS.out] at hSs ⊢
      have oA : outA (⟨(Sm.text a n).toArray⟩ : ByteArray).data.toList = a := by rw [show (⟨(Sm.text a n).toArray⟩ : ByteArray).data.toList = Sm.text a n from rfl, outA_yes PT.out.1, PT.out.2.1]
      have oL : outL (⟨(Sm.text a n).toArray⟩ : ByteArray).data.toList = n := by rw [show (⟨(Sm.text a n).toArray⟩ : ByteArray).data.toList = Sm.text a n from rfl, outL_yes PT.out.1, PT.out.2.2]
      refine (parse_eq hSs oA oL PT.out.1 _).mono ?_
      clear oA oL hSs hcat
      rintro e w6 ⟨rfl, hb⟩
      replace c0 := held hb c0; replace c1 := held hb c1
      replace HB := Lib.hid (next HB.out hb); clear hb
      have hz : w.heap.size < w6.heap.size := cell_lt c0
      go_wp2_with fail
      obtain ⟨q0, q1⟩ := pre_new w6 24 a n
      have hb := below_new w6 (.cells #[.int .u32 a, .int .i64 n] 24)
      generalize w6.alloc (.cells #[.int .u32 a, .int .i64 n] 24) = w7 at *
      replace c0 := held hb c0; replace c1 := held hb c1
      replace HB := Lib.hid (next HB.out hb); clear hb
      generalize w6.heap.size = g at *
      refine (string_right a n ha R.out hn _ (HT.out.held HB.out)).mono ?_
      rintro e w8 ⟨rfl, hb⟩
      replace c0 := held hb c0; replace c1 := held hb c1; replace q0 := held hb q0; replace q1 := held hb q1
      replace HB := Lib.hid (next HB.out hb); clear hb
      generalize (⟨(Sm.text a n).toArray⟩ : ByteArray) = S at *
      go_wp2_with fail
      go_ret
      exact ⟨ret_bool (by first | rfl | decide | simp), HB.out⟩

theorem atext_any (a : Nat) (len : Int) (ha : a < 4294967296) (w : World) (ht : Tab w) :
    Calls Tryd.prog 4 #[.agg #[.int .u32 a, .int .i64 len]] w fun e w' => e = .returned (.bool true) ∧ Below w.heap.size w w' := by
  cases hr : Am.right a len
  · exact atext_not a len ha hr w ht
  · obtain ⟨n, hn, rfl, -⟩ := right_len hr
    exact atext_right a n ha hn hr w ht
end Go.Proofs.YtclfchdgagpahaaDoor
