/-
  AddrParses: the walks where the text is long, and where Parse takes it.
-/
import Derived.Test.YtclfchdgagpahaaDoorAddrHd
import Derived.Test.YtclfchdgagpahaaDoorScanM
namespace Go.Proofs.YtclfchdgagpahaaDoor
open Go.RowKit

set_option maxRecDepth 100000 in
set_option maxHeartbeats 1000000 in
theorem aparse_long (s : ByteArray) (hs : 60 < s.size) (hs2 : s.size ≤ 9223372036854775807) (w : World) (ht : Tab w) :
    Calls Tryd.prog 5 #[.string s] w fun e w' => e = .returned (.bool true) ∧ Below w.heap.size w w' := by
  have HT := Lib.hid ht
  clear ht
  have d : decide (60 < (s.size : Int)) = true := decide_eq_true (by omega)
  go_enter Tryd.func5, Tryd.ntmps5
  go_wp2_with fail
  refine (addr_head _ HT.out).mono ?_
  rintro e w1 ⟨rfl, hb⟩
  have HB := Lib.hid hb
  clear hb
  go_wp2_with fail
  go_ret
  exact ⟨rfl, HB.out⟩

theorem refRight_eqN {a n : Nat} {r : Bool} (ha : a < 4294967296) (h : Am.right a n = r) (w : World) :
    Calls Tryd.prog 9 #[.agg #[.int .u32 a, .int .i64 n]] w fun e w' => e = .returned (.bool r) ∧ Below w.heap.size w w' := refRight_eq ha h w

set_option maxRecDepth 100000 in
set_option maxHeartbeats 1000000 in
theorem aparse_ok (s : ByteArray) (hs : s.size ≤ 60) (hok : Pm.ok s.data.toList = true) (w : World) (ht : Tab w) :
    Calls Tryd.prog 5 #[.string s] w fun e w' => e = .returned (.bool true) ∧ Below w.heap.size w w' := by
  have HT := Lib.hid ht
  clear ht
  obtain ⟨hr, htx, ha, hn⟩ := Cn.ok_text _ hok
  have R := Lib.hid hr
  have oA := Lib.hid (outA_yes hok)
  have oL := Lib.hid (outL_yes hok)
  have O := Lib.hid hok
  have eS : Hid ((⟨(Sm.text (Pm.addr s.data.toList 4) (Pm.len s.data.toList)).toArray⟩ : ByteArray) = s) := Lib.hid (by rw [htx])
  clear hr htx hok
  generalize Pm.addr s.data.toList 4 = a at *
  generalize Pm.len s.data.toList = n at *
  have d : decide (60 < (s.size : Int)) = false := decide_eq_false (by omega)
  go_enter Tryd.func5, Tryd.ntmps5
  go_wp2_with fail
  refine (addr_head _ HT.out).mono ?_
  rintro e w1 ⟨rfl, hb⟩
  have HB := Lib.hid hb
  clear hb
  go_wp2_with fail
  refine (parse_eq (by omega) oA.out oL.out O.out _).mono ?_
  rintro e w2 ⟨rfl, hb⟩
  replace HB := Lib.hid (next HB.out hb); clear hb
  go_wp2_with fail
  obtain ⟨q0, q1⟩ := pre_new w2 24 a n
  have hb := below_new w2 (.cells #[.int .u32 a, .int .i64 n] 24)
  generalize w2.alloc (.cells #[.int .u32 a, .int .i64 n] 24) = w3 at *
  replace HB := Lib.hid (next HB.out hb); clear hb
  generalize w2.heap.size = g at *
  refine (refRight_eqN ha R.out _).mono ?_
  rintro e w4 ⟨rfl, hb⟩
  replace q0 := held hb q0; replace q1 := held hb q1
  replace HB := Lib.hid (next HB.out hb); clear hb
  go_wp2_with fail
  refine (string_right a n ha R.out hn _ (HT.out.held HB.out)).mono ?_
  rw [eS.out]
  rintro e w5 ⟨rfl, hb⟩
  replace HB := Lib.hid (next HB.out hb); clear hb
  go_wp2_with fail
  go_ret
  exact ⟨ret_bool (by first | rfl | decide | simp), HB.out⟩
end Go.Proofs.YtclfchdgagpahaaDoor
