/-
  The contract of package addr's Parse.
-/
import Derived.Test.YtclfchdgagpahaaDoorAddrH
import Derived.Test.YtclfchdgagpahaaDoorNumW
import Derived.Test.YtclfchdgagpahaaDoorCutW
import Derived.Test.YtclfchdgagpahaaDoorParM
namespace Go.Proofs.YtclfchdgagpahaaDoor
open Go.RowKit

def outA (l : List UInt8) : Nat := if Pm.ok l then Pm.addr l 4 else 0
def outL (l : List UInt8) : Nat := if Pm.ok l then Pm.len l else 0
theorem outA_no {l : List UInt8} (h : Pm.ok l = false) : outA l = 0 := by unfold outA; rw [h]; rfl
theorem outL_no {l : List UInt8} (h : Pm.ok l = false) : outL l = 0 := by unfold outL; rw [h]; rfl
theorem outA_yes {l : List UInt8} (h : Pm.ok l = true) : outA l = Pm.addr l 4 := by unfold outA; rw [h]; rfl
theorem outL_yes {l : List UInt8} (h : Pm.ok l = true) : outL l = Pm.len l := by unfold outL; rw [h]; rfl

theorem or_byte (a n : Nat) (ha : a < 16777216) (hn : n ≤ 255) : bits .or .u32 ((a : Int) * 256) (n : Int) = ((a * 256 + n : Nat) : Int) := by
  rw [show ((a : Int) * 256) = ((a * 256 : Nat) : Int) from by omega, u32_or_nat _ _ (by omega) (by omega)]
  rw [nat_join 8 (a * 256) n (by simp) (by omega)]

/-- what the answer is where it fails -/
def ParsePost (l : List UInt8) (w : World) (e : Ending) (w' : World) : Prop :=
  e = .returned (.tuple #[.agg #[.int .u32 (outA l : Nat), .int .i64 (outL l : Nat)], .bool (Pm.ok l)]) ∧ Below w.heap.size w w'
theorem parse_fails {l : List UInt8} {w w' : World} (h : Pm.ok l = false) (hb : Below w.heap.size w w') : ParsePost l w (.returned (.tuple #[.agg #[.int .u32 0, .int .i64 0], .bool false])) w' := by
  refine ⟨?_, hb⟩
  rw [outA_no h, outL_no h, h]
  rfl
/-- where the loop stands -/
def At (l : List UInt8) (w : World) (k : Nat) (t : ByteArray) (wr : World) : Prop :=
  k ≤ 4 ∧ t.data.toList = Pm.rest l k ∧ t.size ≤ 4294967295 ∧ Pm.okTo l k = true ∧ Blk 24 wr w.heap.size #[.int .u32 0, .int .i64 0] ∧ Blk 24 wr (w.heap.size + 1) #[.int .u32 (Pm.addr l k : Nat), .int .i64 0] ∧ Below w.heap.size w wr

set_option maxHeartbeats 2000000 in
theorem parse_any (s : ByteArray) (w : World) (hs : s.size ≤ 4294967295) : Calls Tryd.prog 14 #[.string s] w (ParsePost s.data.toList w) := by
  go_enter Tryd.func14, Tryd.ntmps14
  go_wp2_with fail
  have b0 := (Blk.new w 24 #[.int .u32 0, .int .i64 0]).more (.cells #[.int .u32 0, .int .i64 0] 24)
  have b1 := Blk.new (w.alloc (.cells #[.int .u32 0, .int .i64 0] 24)) 24 #[.int .u32 0, .int .i64 0]
  rw [size_new] at b1
  have hb := next (below_new w (.cells #[.int .u32 0, .int .i64 0] 24)) (below_new _ (.cells #[.int .u32 0, .int .i64 0] 24))
  generalize (w.alloc (.cells #[.int .u32 0, .int .i64 0] 24)).alloc (.cells #[.int .u32 0, .int .i64 0] 24) = w2 at *
  have K : At s.data.toList w 0 s w2 := ⟨by omega, rfl, hs, rfl, b0, b1, hb⟩
  clear b0 b1 hb
  go_loopw [0, 14] (fun v i wr => ∃ (k : Nat) (t : ByteArray), i = .int .i64 k ∧ v = .string t ∧ At s.data.toList w k t wr) (fun _ i _ => 4 - (intOf i).toNat)
  case atStart => exact ⟨0, s, rfl, rfl, K⟩
  case round =>
    clear K
    obtain ⟨k, t, rfl, rfl, hk, ht, hts, hok, b0, b1, hb⟩ := hrel
    have HB := Lib.hid hb
    have HT := Lib.hid ht
    have HO := Lib.hid hok
    have B0 := Lib.hid b0
    have B1 := Lib.hid b1
    clear hb ht hok b0 b1
    by_cases hlt : k < 4
    · have ways : (∃ d : ((k : Int) == 3) = true, Pm.mark k = 47) ∨ (∃ d : ((k : Int) == 3) = false, Pm.mark k = 46) := by
        by_cases h : k = 3
        · exact .inl ⟨beq_iff_eq.2 (by omega), by unfold Pm.mark; rw [if_pos h]⟩
        · exact .inr ⟨beq_eq_false_iff_ne.2 (by omega), by unfold Pm.mark; rw [if_neg h]⟩
      rcases ways with ⟨d, hm⟩ | ⟨d, hm⟩
      all_goals
        have M := Lib.hid hm
        clear hm
        go_wp2_with fail
        refine (cut_any t _ _ hts).mono ?_
        rintro e w3 ⟨p, q, f, rfl, h1, h2, h3, h4, hb⟩
        have HP : Hid (p.data.toList = Pm.head s.data.toList k) := Lib.hid (by rw [h1, HT.out, ← M.out]; rfl)
        have HQ : Hid (q.data.toList = Pm.rest s.data.toList (k + 1)) := Lib.hid (by rw [h2, HT.out, ← M.out]; rfl)
        have hps : p.size ≤ 9223372036854775807 := by omega
        have hqs : q.size ≤ 4294967295 := by omega
        replace B0 := Lib.hid (B0.out.held hb); replace B1 := Lib.hid (B1.out.held hb)
        replace HB := Lib.hid (next HB.out hb)
        clear h1 h2 hb h3 h4
        go_wp2_with fail
        refine (number_any p 255 _ hps).mono ?_
        rw [HP.out]
        rintro e w4 ⟨rfl, rfl⟩
        cases hnum : Nm.ok (Pm.head s.data.toList k) 255
        · have N := Lib.hid (Pm.okTo_stop hlt hnum)
          clear hnum
          have c0 := (B0.out.at_ 0).trans rfl
          have c1 := (B0.out.at_ 1).trans rfl
          have f0 := B0.out.free 0
          have f1 := B0.out.free 1
          go_wp2_with fail
          replace B0 := Lib.hid ((B0.out.store 0 (.int .u32 0)).store 1 (.int .i64 0))
          have hB := (HB.out.setCell (p := ⟨w.heap.size, 0, none⟩) (Nat.le_refl _) (.int .u32 0)).setCell (p := ⟨w.heap.size, 1, none⟩) (Nat.le_refl _) (.int .i64 0)
          generalize (w3.setCell ⟨w.heap.size, 0, none⟩ (.int .u32 0)).setCell ⟨w.heap.size, 1, none⟩ (.int .i64 0) = w5 at *
          replace c0 := (B0.out.at_ 0).trans rfl
          replace c1 := (B0.out.at_ 1).trans rfl
          exact bodyPost_ret (v := .tuple #[.agg #[.int .u32 0, .int .i64 0], .bool false]) (by simp [results, Tryd.results14, go_sem, c0, c1]) rfl (parse_fails N.out hB)
        · have hn := Pm.ok_val hnum
          have ha := Pm.addr_lt _ _ HO.out
          have ha2 : Pm.addr s.data.toList k < 16777216 := Nat.lt_of_lt_of_le ha (by rw [show (16777216 : Nat) = 256 ^ 3 from rfl]; exact Nat.pow_le_pow_right (by omega) (by omega))
          have hout := Nm.out_yes hnum
          have OK1 : Hid (Pm.okTo s.data.toList (k + 1) = true) := Lib.hid (by unfold Pm.okTo; rw [HO.out, hnum]; rfl)
          have A1 : Hid (Pm.addr s.data.toList (k + 1) = Pm.addr s.data.toList k * 256 + Nm.val (Pm.head s.data.toList k)) := Lib.hid rfl
          have OB := Lib.hid (or_byte _ _ ha2 hn)
          rw [hout]
          clear hnum hout ha
          generalize Pm.addr s.data.toList k = a at ha2 A1 OB B1
          generalize Nm.val (Pm.head s.data.toList k) = n at hn A1 OB
          have c0 := (B1.out.at_ 0).trans rfl
          have f0 := B1.out.free 0
          go_wp2_with fail
          go_roundw
          case rel =>
            refine ⟨k + 1, q, by go_num, rfl, by omega, HQ.out, hqs, OK1.out, B0.out.away (by simp) _, ?_, HB.out.setCell (by simp) _⟩
            rw [OB.out, ← A1.out]
            exact B1.out.store 0 _
          case measure => simp [intOf]; omega
    · obtain rfl : k = 4 := by omega
      have hts2 : t.size ≤ 9223372036854775807 := by omega
      go_wp2_with fail
      refine (number_any t 32 _ hts2).mono ?_
      rw [HT.out]
      rintro e w4 ⟨rfl, rfl⟩
      have c0 := (B1.out.at_ 0).trans rfl
      have c1 := (B1.out.at_ 1).trans rfl
      have f1 := B1.out.free 1
      have r0 := (B0.out.at_ 0).trans rfl
      have r1 := (B0.out.at_ 1).trans rfl
      have g0 := B0.out.free 0
      have g1 := B0.out.free 1
      cases hnum : Nm.ok (Pm.rest s.data.toList 4) 32
      · have N : Hid (Pm.ok s.data.toList = false) := Lib.hid (by unfold Pm.ok; rw [hnum]; simp)
        clear hnum
        go_wp2_with fail
        replace B0 := Lib.hid (((B0.out.away (p := ⟨w.heap.size + 1, 1, none⟩) (by simp) (.int .i64 (Nm.out (Pm.rest s.data.toList 4) 32 : Nat))).store 0 (.int .u32 0)).store 1 (.int .i64 0))
        have hB := ((HB.out.setCell (p := ⟨w.heap.size + 1, 1, none⟩) (by simp) (.int .i64 (Nm.out (Pm.rest s.data.toList 4) 32 : Nat))).setCell (p := ⟨w.heap.size, 0, none⟩) (Nat.le_refl _) (.int .u32 0)).setCell (p := ⟨w.heap.size, 1, none⟩) (Nat.le_refl _) (.int .i64 0)
        generalize ((wr.setCell ⟨w.heap.size + 1, 1, none⟩ (.int .i64 (Nm.out (Pm.rest s.data.toList 4) 32 : Nat))).setCell ⟨w.heap.size, 0, none⟩ (.int .u32 0)).setCell ⟨w.heap.size, 1, none⟩ (.int .i64 0) = w5 at *
        clear r0 r1 c0 c1
        have r0 := (B0.out.at_ 0).trans rfl
        have r1 := (B0.out.at_ 1).trans rfl
        exact bodyPost_ret (v := .tuple #[.agg #[.int .u32 0, .int .i64 0], .bool false]) (by simp [results, Tryd.results14, go_sem, r0, r1]) rfl (parse_fails N.out hB)
      · have hn := Pm.ok_val hnum
        have hout := Nm.out_yes hnum
        have ha : Pm.addr s.data.toList 4 < 4294967296 := Pm.addr_lt _ _ HO.out
        have OKF : Hid (Pm.ok s.data.toList = Am.right (Pm.addr s.data.toList 4) (Pm.len s.data.toList)) := Lib.hid (by unfold Pm.ok; rw [HO.out, hnum]; rfl)
        have L := Lib.hid (show Pm.len s.data.toList = Nm.val (Pm.rest s.data.toList 4) from rfl)
        rw [hout]
        clear hnum hout
        have B2 := Lib.hid (B1.out.store 1 (.int .i64 (Nm.val (Pm.rest s.data.toList 4) : Nat)))
        go_wp2_with fail
        rw [← L.out]
        rw [← L.out] at B2
        replace B0 := Lib.hid (B0.out.away (p := ⟨w.heap.size + 1, 1, none⟩) (by simp) (.int .i64 (Pm.len s.data.toList : Nat)))
        replace HB := Lib.hid (HB.out.setCell (p := ⟨w.heap.size + 1, 1, none⟩) (by simp) (.int .i64 (Pm.len s.data.toList : Nat)))
        generalize wr.setCell ⟨w.heap.size + 1, 1, none⟩ (.int .i64 (Pm.len s.data.toList : Nat)) = w5 at *
        refine (right_any _ _ ha _).mono ?_
        rw [← OKF.out]
        rintro e w6 ⟨rfl, hb⟩
        clear r0 r1 c0 c1 g0 g1 f1
        replace B0 := Lib.hid (B0.out.held hb)
        replace B2 := Lib.hid (B2.out.held hb)
        replace HB := Lib.hid (next HB.out hb)
        clear hb
        have c0 := (B2.out.at_ 0).trans rfl
        have c1 := (B2.out.at_ 1).trans rfl
        have r0 := (B0.out.at_ 0).trans rfl
        have r1 := (B0.out.at_ 1).trans rfl
        have g0 := B0.out.free 0
        have g1 := B0.out.free 1
        obtain ⟨b, hbv⟩ : ∃ b, Pm.ok s.data.toList = b := ⟨_, rfl⟩
        rw [hbv]
        have N := Lib.hid hbv
        clear hbv
        cases b
        · go_wp2_with fail
          replace B0 := Lib.hid ((B0.out.store 0 (.int .u32 0)).store 1 (.int .i64 0))
          have hB := (HB.out.setCell (p := ⟨w.heap.size, 0, none⟩) (Nat.le_refl _) (.int .u32 0)).setCell (p := ⟨w.heap.size, 1, none⟩) (Nat.le_refl _) (.int .i64 0)
          generalize (w6.setCell ⟨w.heap.size, 0, none⟩ (.int .u32 0)).setCell ⟨w.heap.size, 1, none⟩ (.int .i64 0) = w7 at *
          clear r0 r1 c0 c1 g0 g1
          have r0 := (B0.out.at_ 0).trans rfl
          have r1 := (B0.out.at_ 1).trans rfl
          exact bodyPost_ret (v := .tuple #[.agg #[.int .u32 0, .int .i64 0], .bool false]) (by simp [results, Tryd.results14, go_sem, r0, r1]) rfl (parse_fails N.out hB)
        · go_wp2_with fail
          replace B0 := Lib.hid ((B0.out.store 0 (.int .u32 (Pm.addr s.data.toList 4 : Nat))).store 1 (.int .i64 (Pm.len s.data.toList : Nat)))
          have hB := (HB.out.setCell (p := ⟨w.heap.size, 0, none⟩) (Nat.le_refl _) (.int .u32 (Pm.addr s.data.toList 4 : Nat))).setCell (p := ⟨w.heap.size, 1, none⟩) (Nat.le_refl _) (.int .i64 (Pm.len s.data.toList : Nat))
          generalize (w6.setCell ⟨w.heap.size, 0, none⟩ (.int .u32 (Pm.addr s.data.toList 4 : Nat))).setCell ⟨w.heap.size, 1, none⟩ (.int .i64 (Pm.len s.data.toList : Nat)) = w7 at *
          clear r0 r1 c0 c1 g0 g1
          have r0 := (B0.out.at_ 0).trans rfl
          have r1 := (B0.out.at_ 1).trans rfl
          exact bodyPost_ret (v := .tuple #[.agg #[.int .u32 (Pm.addr s.data.toList 4 : Nat), .int .i64 (Pm.len s.data.toList : Nat)], .bool true]) (by simp [results, Tryd.results14, go_sem, r0, r1]) rfl ⟨by rw [outA_yes N.out, outL_yes N.out, N.out], hB⟩
end Go.Proofs.YtclfchdgagpahaaDoor
