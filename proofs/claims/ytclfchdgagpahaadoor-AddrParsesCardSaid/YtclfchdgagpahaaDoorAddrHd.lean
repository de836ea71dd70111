/-
  The document's example of package addr, as the statements ask it.
-/
import Derived.Test.YtclfchdgagpahaaDoorParW
import Derived.Test.YtclfchdgagpahaaDoorStrW
namespace Go.Proofs.YtclfchdgagpahaaDoor
open Go.RowKit

def exS : ByteArray := ⟨#[49, 48, 46, 49, 46, 48, 46, 48, 47, 49, 54]⟩
theorem exS_list : exS.toList = [49, 48, 46, 49, 46, 48, 46, 48, 47, 49, 54] := by rw [Lib.toList_data]; rfl
theorem ex_ok : Pm.ok exS.data.toList = true := by decide +kernel
theorem ex_addr : outA exS.data.toList = 167837696 := by decide +kernel
theorem ex_len : outL exS.data.toList = 16 := by decide +kernel
theorem ex_has1 : Am.has 167837696 (16 : Nat) 167838211 = true := by decide +kernel
theorem ex_has2 : Am.has 167837696 (16 : Nat) 167903232 = false := by decide +kernel
theorem d10 : Lib.decDigits 10 = [49, 48] := Sm.dec2 (by omega) (by omega)
theorem d16 : Lib.decDigits 16 = [49, 54] := Sm.dec2 (by omega) (by omega)
theorem d1 : Lib.decDigits 1 = [49] := Sm.dec1 (by omega)
theorem d0 : Lib.decDigits 0 = [48] := Sm.dec1 (by omega)
theorem ex_text : Sm.str 167837696 (16 : Nat) = exS.data.toList := by
  have r : Am.right 167837696 (16 : Nat) = true := by decide +kernel
  have b0 : Sm.byte 167837696 0 = 10 := by decide +kernel
  have b1 : Sm.byte 167837696 1 = 1 := by decide +kernel
  have b2 : Sm.byte 167837696 2 = 0 := by decide +kernel
  have b3 : Sm.byte 167837696 3 = 0 := by decide +kernel
  unfold Sm.str
  rw [if_pos r]
  simp only [Sm.text, Sm.upTo, b0, b1, b2, b3, d10, d16, d1, d0, Int.toNat_natCast]
  decide
theorem parse_eq {s : ByteArray} {a n : Nat} {b : Bool} (hs : s.size ≤ 4294967295) (h1 : outA s.data.toList = a) (h2 : outL s.data.toList = n) (h3 : Pm.ok s.data.toList = b) (w : World) :
    Calls Tryd.prog 14 #[.string s] w fun e w' => e = .returned (.tuple #[.agg #[.int .u32 a, .int .i64 n], .bool b]) ∧ Below w.heap.size w w' := by
  subst h1 h2 h3
  exact parse_any s w hs
theorem has_eq {a : Nat} {len : Int} {x : Nat} {r : Bool} (ha : a < 4294967296) (hx : x < 4294967296) (h : Am.has a len x = r) (w : World) :
    Calls Tryd.prog 10 #[.agg #[.int .u32 a, .int .i64 len], .int .u32 x] w fun e w' => e = .returned (.bool r) ∧ Below w.heap.size w w' := h ▸ has_any a len x ha hx w
theorem string_eq {a : Nat} {len : Int} {l : List UInt8} (ha : a < 4294967296) (h : Sm.str a len = l) (w : World) (ht : Tab w) :
    Calls Tryd.prog 12 #[.agg #[.int .u32 a, .int .i64 len]] w fun e w' => e = .returned (.string ⟨l.toArray⟩) ∧ Below w.heap.size w w' := h ▸ string_any a len ha w ht

theorem c_addr : (((167837696 : Nat) : Int)) = 167837696 := rfl
theorem c_x1 : (((167838211 : Nat) : Int)) = 167838211 := rfl
theorem c_x2 : (((167903232 : Nat) : Int)) = 167903232 := rfl
theorem c_len : (((16 : Nat) : Int)) = 16 := rfl
theorem ex_has_yes (w : World) : Calls Tryd.prog 10 #[.agg #[.int .u32 167837696, .int .i64 16], .int .u32 167838211] w fun e w' => e = .returned (.bool true) ∧ Below w.heap.size w w' := by
  have h := has_eq (by omega) (by omega) ex_has1 w
  rw [c_addr, c_x1, c_len] at h
  exact h
theorem ex_has_no (w : World) : Calls Tryd.prog 10 #[.agg #[.int .u32 167837696, .int .i64 16], .int .u32 167903232] w fun e w' => e = .returned (.bool false) ∧ Below w.heap.size w w' := by
  have h := has_eq (by omega) (by omega) ex_has2 w
  rw [c_addr, c_x2, c_len] at h
  exact h
theorem ex_string (w : World) (ht : Tab w) : Calls Tryd.prog 12 #[.agg #[.int .u32 167837696, .int .i64 16]] w fun e w' => e = .returned (.string exS) ∧ Below w.heap.size w w' := by
  have h := string_eq (by omega) ex_text w ht
  rw [c_addr, c_len] at h
  exact h

set_option maxHeartbeats 1000000 in
theorem addr_head (w : World) (ht : Tab w) : Calls Tryd.prog 7 #[] w fun e w' => e = .returned (.bool true) ∧ Below w.heap.size w w' := by
  have HT := Lib.hid ht
  clear ht
  go_enter Tryd.func7, Tryd.ntmps7
  go_wp2_with fail
  refine (parse_eq (s := exS) (by decide) ex_addr ex_len ex_ok _).mono ?_
  rintro e w1 ⟨rfl, hb⟩
  have HB := Lib.hid hb
  clear hb
  go_wp2_with fail
  obtain ⟨c0, c1⟩ := pre_new w1 24 167837696 16
  have hb := below_new w1 (.cells #[.int .u32 167837696, .int .i64 16] 24)
  generalize w1.alloc (.cells #[.int .u32 167837696, .int .i64 16] 24) = w2 at *
  replace HB := Lib.hid (next HB.out hb)
  generalize w1.heap.size = g at *
  clear hb
  refine (ex_has_yes _).mono ?_
  rintro e w3 ⟨rfl, hb⟩
  replace c0 := held hb c0; replace c1 := held hb c1
  replace HB := Lib.hid (next HB.out hb); clear hb
  go_wp2_with fail
  refine (ex_has_no _).mono ?_
  rintro e w4 ⟨rfl, hb⟩
  replace c0 := held hb c0; replace c1 := held hb c1
  replace HB := Lib.hid (next HB.out hb); clear hb
  go_wp2_with fail
  refine (ex_string _ (HT.out.held HB.out)).mono ?_
  rintro e w5 ⟨rfl, hb⟩
  replace HB := Lib.hid (next HB.out hb); clear hb
  go_wp2_with fail
  go_ret
  exact ⟨ret_bool (by show (exS.toList == _) = true; rw [exS_list]; rfl), HB.out⟩
end Go.Proofs.YtclfchdgagpahaaDoor
