/-
  AddrParses: the walk of the statement's own scan, where Parse doesn't take the text.
-/
import Derived.Test.YtclfchdgagpahaaDoorScanA
import Derived.Test.YtclfchdgagpahaaDoorScanM
import Derived.OwnWalk
import Derived.Maps.AppendAt
namespace Go.Proofs.YtclfchdgagpahaaDoor
open Go.RowKit

theorem int_info : (Tryd.prog.info? 3).map (fun i => (i.zero, i.size, i.bytes)) = some (some (.int .i64 0), 1, 8) := by kernel_rfl

/-- where the scan stands: the numbers that are done, the digits so far, the place -/
def Scan (s : ByteArray) (w : World) (k : Nat) (rs : List (List UInt8)) (g : List UInt8) (v : Value) (wr : World) : Prop :=
  wr.ownsRow w.heap.size 3 1 v rs.length ((Cn.vals rs).map fun (n : Nat) => Value.int .i64 n) ∧ Below w.heap.size w wr ∧ (∀ r, r ∈ rs → Cn.Good r) ∧
  ((k ≤ s.size ∧ rs.length ≤ 4 ∧ Cn.Part g ∧ s.data.toList.take k = Cn.join rs ++ g) ∨ (k = s.size + 1 ∧ ∃ r rs', rs = r :: rs' ∧ rs'.length ≤ 4 ∧ s.data.toList = Cn.join rs' ++ r))
def ScanAt (s : ByteArray) (w : World) (n x z i : Value) (wr : World) : Prop :=
  ∃ (k : Nat) (rs : List (List UInt8)) (g : List UInt8) (A : Option Addr) (cap : Nat), i = .int .i64 k ∧ x = .int .i64 (Nm.val g : Nat) ∧ z = .int .i64 (g.length : Nat) ∧ n = .slice A rs.length cap ∧ Scan s w k rs g (.slice A rs.length cap) wr

/-- one digit more -/
theorem scan_digit {s : ByteArray} {w wr : World} {k : Nat} {rs : List (List UInt8)} {g : List UInt8} {v : Value} (h : Scan s w k rs g v wr) (hk : k < s.size) (hd : 48 ≤ s[k].toNat ∧ s[k].toNat ≤ 57) (hl : g.length < 4) (hx : g.length = 0 ∨ Nm.val g ≠ 0) :
    Scan s w (k + 1) rs (g ++ [s[k]]) v wr := by
  obtain ⟨ho, hb, hg, h⟩ := h
  rcases h with ⟨_, hr, hp, ht⟩ | ⟨h, _⟩
  · refine ⟨ho, hb, hg, .inl ⟨by omega, hr, Cn.part_more hp (by unfold Nm.digit; simp [hd]) hl hx, ?_⟩⟩
    rw [take_snoc s k hk, ht, List.append_assoc]
  · omega
/-- a number is done, its mark behind it -/
theorem scan_mark {s : ByteArray} {w wr w' : World} {k : Nat} {rs : List (List UInt8)} {g : List UInt8} {v v' : Value} (h : Scan s w k rs g v wr) (hk : k < s.size) (hr : rs.length ≤ 3) (hz : 0 < g.length) (hc : s[k] = Pm.mark rs.length)
    (ho' : w'.ownsRow w.heap.size 3 1 v' (rs.length + 1) (((Cn.vals rs).map fun (n : Nat) => Value.int .i64 n) ++ [.int .i64 (Nm.val g : Nat)])) (hb' : Below w.heap.size w w') :
    Scan s w (k + 1) (g :: rs) [] v' w' := by
  obtain ⟨ho, hb, hg, h⟩ := h
  rcases h with ⟨_, _, hp, ht⟩ | ⟨h, _⟩
  · refine ⟨?_, hb', fun r hr' => ?_, .inl ⟨by omega, by simp only [List.length_cons]; omega, Cn.part_nil, ?_⟩⟩
    · rw [Cn.vals_cons, List.map_append]; exact ho'
    · rcases List.mem_cons.1 hr' with rfl | hr'
      · exact Cn.part_good hp hz
      · exact hg r hr'
    · rw [take_snoc s k hk, ht, hc]; simp [Cn.join]
  · omega
/-- the last number is done -/
theorem scan_end {s : ByteArray} {w wr w' : World} {k : Nat} {rs : List (List UInt8)} {g : List UInt8} {v v' : Value} (h : Scan s w k rs g v wr) (hk : k = s.size) (hz : 0 < g.length)
    (ho' : w'.ownsRow w.heap.size 3 1 v' (rs.length + 1) (((Cn.vals rs).map fun (n : Nat) => Value.int .i64 n) ++ [.int .i64 (Nm.val g : Nat)])) (hb' : Below w.heap.size w w') :
    Scan s w (k + 1) (g :: rs) [] v' w' := by
  obtain ⟨ho, hb, hg, h⟩ := h
  rcases h with ⟨_, h4, hp, ht⟩ | ⟨h, _⟩
  · refine ⟨?_, hb', fun r hr' => ?_, .inr ⟨by omega, g, rs, rfl, h4, ?_⟩⟩
    · rw [Cn.vals_cons, List.map_append]; exact ho'
    · rcases List.mem_cons.1 hr' with rfl | hr'
      · exact Cn.part_good hp hz
      · exact hg r hr'
    · rw [← ht, hk, List.take_of_length_le (by simp)]
  · omega
theorem scan_k {s : ByteArray} {w wr : World} {k : Nat} {rs : List (List UInt8)} {g : List UInt8} {v : Value} (h : Scan s w k rs g v wr) (hk : k ≤ s.size) : rs.length ≤ 4 ∧ Cn.Part g := by
  rcases h.2.2.2 with ⟨_, a, b, _⟩ | ⟨h, _⟩
  · exact ⟨a, b⟩
  · omega

set_option maxRecDepth 100000 in
set_option maxHeartbeats 20000000 in
theorem aparse_no (s : ByteArray) (hs : s.size ≤ 60) (hno : Pm.ok s.data.toList = false) (w : World) (ht : Tab w) :
    Calls Tryd.prog 5 #[.string s] w fun e w' => e = .returned (.bool true) ∧ Below w.heap.size w w' := by
  have HT := Lib.hid ht
  have NO := Lib.hid hno
  clear ht hno
  obtain ⟨i0, hi0, hz0, hz1, hz2⟩ := info_parts int_info
  have II := Lib.hid (And.intro hi0 (And.intro hz0 (And.intro hz1 hz2)))
  clear hi0 hz0 hz1 hz2
  have d : decide (60 < (s.size : Int)) = false := decide_eq_false (by omega)
  go_enter Tryd.func5, Tryd.ntmps5
  go_wp2_with fail
  refine (addr_head _ HT.out).mono ?_
  rintro e w1 ⟨rfl, hb⟩
  have HB := Lib.hid hb
  clear hb
  go_wp2_with fail
  refine (parse_eq (a := 0) (n := 0) (by omega) (outA_no NO.out) (outL_no NO.out) NO.out _).mono ?_
  rintro e w2 ⟨rfl, hb⟩
  replace HB := Lib.hid (next HB.out hb); clear hb
  go_wp2_with fail
  have hown : ((w2.alloc (.cells #[.int .u32 0, .int .i64 0] 24)).alloc (.cells #[] 3)).ownsRow w.heap.size 3 1 (.slice (some ⟨w2.heap.size + 1, 0, none⟩) 0 0) 0 [] := by
    have h := World.ownsRow_made (base := w.heap.size) (e := 3) (size := 1) (w2.alloc (.cells #[.int .u32 0, .int .i64 0] 24)) #[] 0 (by rw [size_new]; have := HB.out.size; omega) (by unfold maxLen; omega) rfl
    rwa [size_new] at h
  have hb := next HB.out (next (below_new w2 (.cells #[.int .u32 0, .int .i64 0] 24)) (below_new _ (.cells #[] 3)))
  clear HB
  generalize (w2.alloc (.cells #[.int .u32 0, .int .i64 0] 24)).alloc (.cells #[] 3) = w3 at *
  have S0 : ScanAt s w (.slice (some ⟨w2.heap.size + 1, 0, none⟩) 0 0) (.int .i64 0) (.int .i64 0) (.int .i64 0) w3 :=
    ⟨0, [], [], some ⟨w2.heap.size + 1, 0, none⟩, 0, rfl, rfl, rfl, rfl, hown, hb, fun r hr => absurd hr (by simp), .inl ⟨Nat.zero_le _, Nat.zero_le _, Cn.part_nil, rfl⟩⟩
  clear hown hb
  go_loopw [5, 6, 7, 8] (fun n x z i wr => ScanAt s w n x z i wr) (fun _ _ _ i _ => s.size + 1 - (intOf i).toNat)
  case atStart => exact S0
  case round =>
    clear S0
    obtain ⟨k, rs, g, A, cap, rfl, rfl, rfl, rfl, hS⟩ := hrel
    have SC := Lib.hid hS
    have hle : k ≤ s.size + 1 := by rcases hS.2.2.2 with ⟨h, _⟩ | ⟨h, _⟩ <;> omega
    clear hS
    by_cases hin : k ≤ s.size
    · obtain ⟨hm4, hpart⟩ := scan_k SC.out hin
      have hx := Cn.part_lt hpart
      have hz4 := hpart.2.1
      have SZ : ∃ z, g.length = z := ⟨_, rfl⟩
      have SX : ∃ x, Nm.val g = x := ⟨_, rfl⟩
      have SM : ∃ m, rs.length = m := ⟨_, rfl⟩
      obtain ⟨z, hz⟩ := SZ
      obtain ⟨x, hxv⟩ := SX
      obtain ⟨m, hm⟩ := SM
      rw [hz] at hz4
      rw [hxv] at hx
      rw [hm] at hm4
      rw [hz, hxv, hm]
      have EZ := Lib.hid hz
      have EX := Lib.hid hxv
      have EM := Lib.hid hm
      clear hz hxv hm hpart
      by_cases hk : k < s.size
      · have hk0 : (0 : Int) ≤ (k : Int) := by omega
        have hk1 : (k : Int) < (s.size : Int) := by omega
        have hc : s[k].toNat < 256 := s[k].toNat_lt
        have dk : decide ((k : Int) < (s.size : Int)) = true := decide_eq_true hk1
        by_cases hdig : 48 ≤ s[k].toNat ∧ s[k].toNat ≤ 57
        · obtain ⟨hd1, hd2⟩ := hdig
          by_cases hz : z < 4
          · by_cases hz0 : z = 0
            · subst hz0
              go_wp2_with fail
              go_roundw
              case rel =>
                refine ⟨k + 1, rs, g ++ [s[k]], A, cap, by go_num, ?_, ?_, by rw [EM.out], scan_digit SC.out hk ⟨hd1, hd2⟩ (by rw [EZ.out]; omega) (.inl EZ.out)⟩
                · rw [Nm.val_snoc, EX.out]; congr 1; omega
                · rw [List.length_append, EZ.out]; rfl
              case measure => simp [intOf]; omega
            · by_cases hx0 : x = 0
              · subst hx0
                have hz1 : 0 < z := by omega
                clear hz0
                go_wp2_with fail
                go_ret
                exact ⟨rfl, SC.out.2.1⟩
              · have hz1 : 0 < z := by omega
                have dx : ((x : Int) == 0) = false := beq_eq_false_iff_ne.2 (by omega)
                have HX0 := Lib.hid hx0
                clear hz0 hx0
                go_wp2_with fail
                go_roundw
                case rel =>
                  refine ⟨k + 1, rs, g ++ [s[k]], A, cap, by go_num, ?_, ?_, by rw [EM.out], scan_digit SC.out hk ⟨hd1, hd2⟩ (by rw [EZ.out]; omega) (.inr (by rw [EX.out]; exact HX0.out))⟩
                  · rw [Nm.val_snoc, EX.out]; congr 1; omega
                  · rw [List.length_append, EZ.out]; rfl
                case measure => simp [intOf]; omega
          · obtain rfl : z = 4 := by omega
            have dz : ((4 : Int) == 0) = false := rfl
            rcases (show m < 3 ∨ m = 3 ∨ m = 4 by omega) with hm | hm | hm
            · skip
              have dm : decide (4 < (m : Int)) = false := decide_eq_false (by omega)
              have dm3 : ((m : Int) == 3) = false := beq_eq_false_iff_ne.2 (by omega)
              have dm4 : ((m : Int) == 4) = false := beq_eq_false_iff_ne.2 (by omega)
              have d46 : ((s[k].toNat : Int) == 46) = false := beq_eq_false_iff_ne.2 (by omega)
              have d46n : ((s[k].toNat : Int) != 46) = true := by unfold bne; rw [d46] <;> rfl
              have d47 : ((s[k].toNat : Int) == 47) = false := beq_eq_false_iff_ne.2 (by omega)
              have d47n : ((s[k].toNat : Int) != 47) = true := by unfold bne; rw [d47] <;> rfl
              go_wp2_with fail
              obtain ⟨E, hE⟩ : ∃ E : ByteArray, E = ⟨#[46, 46, 46, 46, 46, 47]⟩ := ⟨_, rfl⟩
              rw [← hE]
              have hEs : E.size = 6 := by subst hE; rfl
              have hEn : 5 < E.size := by omega
              have hEm : m + 1 < E.size := by omega
              have hE1 : E[m + 1] = 46 := by
                subst hE
                rcases (show m = 0 ∨ m = 1 ∨ m = 2 ∨ m = 3 by omega) with h | h | h | h <;> (subst h; rfl)
              clear hE
              go_quiet (fail)
              go_wp2_with fail
              go_ret
              exact ⟨rfl, drewN_below SC.out.2.1 _⟩
            · skip
              have dm : decide (4 < (m : Int)) = false := decide_eq_false (by omega)
              have dm3 : ((m : Int) == 3) = true := by rw [show m = 3 from hm] <;> rfl
              have dm4 : ((m : Int) == 4) = false := beq_eq_false_iff_ne.2 (by omega)
              have hle3 : m ≤ 3 := by omega
              have HM3 := Lib.hid hm
              clear hm
              have d46 : ((s[k].toNat : Int) == 46) = false := beq_eq_false_iff_ne.2 (by omega)
              have d46n : ((s[k].toNat : Int) != 46) = true := by unfold bne; rw [d46] <;> rfl
              have d47 : ((s[k].toNat : Int) == 47) = false := beq_eq_false_iff_ne.2 (by omega)
              have d47n : ((s[k].toNat : Int) != 47) = true := by unfold bne; rw [d47] <;> rfl
              go_wp2_with fail
              obtain ⟨E, hE⟩ : ∃ E : ByteArray, E = ⟨#[46, 46, 46, 46, 46, 47]⟩ := ⟨_, rfl⟩
              rw [← hE]
              have hEs : E.size = 6 := by subst hE; rfl
              have hEn : 5 < E.size := by omega
              have hEm : m + 1 < E.size := by omega
              have hE1 : E[m + 1] = 46 := by
                subst hE
                rcases (show m = 0 ∨ m = 1 ∨ m = 2 ∨ m = 3 by omega) with h | h | h | h <;> (subst h; rfl)
              clear hE
              go_quiet (fail)
              go_wp2_with fail
              go_ret
              exact ⟨rfl, drewN_below SC.out.2.1 _⟩
            · skip
              have dm : decide (4 < (m : Int)) = false := decide_eq_false (by omega)
              have dm3 : ((m : Int) == 3) = false := beq_eq_false_iff_ne.2 (by omega)
              have dm4 : ((m : Int) == 4) = true := by rw [show m = 4 from hm] <;> rfl
              go_wp2_with fail
              go_quiet (fail)
              go_wp2_with fail
              go_ret
              exact ⟨rfl, drewN_below SC.out.2.1 _⟩
        · rcases (show s[k].toNat < 48 ∨ 57 < s[k].toNat by omega) with hd | hd
          · skip
            by_cases hz0 : z = 0
            · subst hz0
              go_wp2_with fail
              go_quiet (fail)
              go_wp2_with fail
              go_ret
              exact ⟨rfl, drewN_below SC.out.2.1 _⟩
            · skip
              have hz1 : 0 < z := by omega
              have dz : ((z : Int) == 0) = false := beq_eq_false_iff_ne.2 (by omega)
              clear hz0
              rcases (show m < 3 ∨ m = 3 ∨ m = 4 by omega) with hm | hm | hm
              · skip
                have dm : decide (4 < (m : Int)) = false := decide_eq_false (by omega)
                have dm3 : ((m : Int) == 3) = false := beq_eq_false_iff_ne.2 (by omega)
                have dm4 : ((m : Int) == 4) = false := beq_eq_false_iff_ne.2 (by omega)
                by_cases hcc : s[k].toNat = 46
                · skip
                  have hmark := Lib.hid (show s[k] = Pm.mark m by rw [Pm.mark, if_neg (by omega), ← UInt8.toNat_inj]; exact hcc)
                  have d46 : ((s[k].toNat : Int) == 46) = true := by rw [hcc] <;> rfl
                  have d46n : ((s[k].toNat : Int) != 46) = false := by rw [hcc] <;> rfl
                  have d47 : ((s[k].toNat : Int) == 47) = false := beq_eq_false_iff_ne.2 (by omega)
                  have d47n : ((s[k].toNat : Int) != 47) = true := by unfold bne; rw [d47] <;> rfl
                  have hown := SC.out.1
                  rw [EM.out] at hown
                  have HO := Lib.hid hown
                  clear hown
                  go_wp2_with fail
                  obtain ⟨E, hE⟩ : ∃ E : ByteArray, E = ⟨#[46, 46, 46, 46, 46, 47]⟩ := ⟨_, rfl⟩
                  rw [← hE]
                  have hEs : E.size = 6 := by subst hE; rfl
                  have hEn : 5 < E.size := by omega
                  have hEm : m + 1 < E.size := by omega
                  have hE1 : E[m + 1] = 46 := by
                    subst hE
                    rcases (show m = 0 ∨ m = 1 ∨ m = 2 ∨ m = 3 by omega) with h | h | h | h <;> (subst h; rfl)
                  clear hE
                  go_quiet (fail)
                  have hlt : w.heap.size ≤ (wr.alloc (.cells #[.int .i64 (x : Nat)] 3)).heap.size := by rw [size_new]; have := SC.out.2.1.size; omega
                  go_wp2_with (at_builtin; refine wpList_append_own _ rfl _ _ 34 rfl w.heap.size 3 i0 (.int .i64 0) 1 8 Tryd.underlying34 II.out.1 II.out.2.1 II.out.2.2.1 II.out.2.2.2 rfl (by decide) _ _ _ rfl ((show (wr.drewN nq).ownsRow _ _ _ _ _ _ from HO.out).alloc _) ⟨wr.heap.size, 0, none⟩ 1 1 [.int .i64 (x : Nat)] rfl rfl (cell_one_new _ _ _) (by intro u hu; simp at hu; subst hu; rfl) (by unfold maxLen; omega) (by omega) hlt ?_; intro v' w' hown' hgrow hnil)
                  have hb' : Below w.heap.size w w' := (next (drewN_below SC.out.2.1 nq) (below_new _ _)).grown hgrow hlt (fun j hj => (HO.out.lt j hj).1)
                  have hv : ∃ A' cap', v' = .slice A' (m + 1) cap' := by
                    rcases hown'.2 with ⟨_, h0⟩ | ⟨g', cap', cur, hv, _⟩
                    · omega
                    · exact ⟨_, _, hv⟩
                  clear hgrow hnil
                  obtain ⟨A', cap', rfl⟩ := hv
                  go_roundw
                  case rel =>
                    refine ⟨k + 1, g :: rs, [], A', cap', by go_num, rfl, rfl, by rw [List.length_cons, EM.out], ?_⟩
                    rw [List.length_cons, EM.out]
                    exact scan_mark SC.out hk (by rw [EM.out]; omega) (by rw [EZ.out]; omega) (by rw [EM.out]; exact hmark.out) (by rw [EM.out, EX.out]; exact hown') hb'
                  case measure => first | (simp [intOf]; done) | (simp [intOf]; omega)
                · by_cases hc7 : s[k].toNat = 47
                  · skip
                    have hcc := hc7
                    have d46 : ((s[k].toNat : Int) == 46) = false := beq_eq_false_iff_ne.2 (by omega)
                    have d46n : ((s[k].toNat : Int) != 46) = true := by unfold bne; rw [d46] <;> rfl
                    have d47 : ((s[k].toNat : Int) == 47) = true := by rw [hcc] <;> rfl
                    have d47n : ((s[k].toNat : Int) != 47) = false := by rw [hcc] <;> rfl
                    go_wp2_with fail
                    obtain ⟨E, hE⟩ : ∃ E : ByteArray, E = ⟨#[46, 46, 46, 46, 46, 47]⟩ := ⟨_, rfl⟩
                    rw [← hE]
                    have hEs : E.size = 6 := by subst hE; rfl
                    have hEn : 5 < E.size := by omega
                    have hEm : m + 1 < E.size := by omega
                    have hE1 : E[m + 1] = 46 := by
                      subst hE
                      rcases (show m = 0 ∨ m = 1 ∨ m = 2 ∨ m = 3 by omega) with h | h | h | h <;> (subst h; rfl)
                    clear hE
                    go_quiet (fail)
                    go_wp2_with fail
                    go_ret
                    exact ⟨rfl, drewN_below SC.out.2.1 _⟩
                  · skip
                    have d46 : ((s[k].toNat : Int) == 46) = false := beq_eq_false_iff_ne.2 (by omega)
                    have d46n : ((s[k].toNat : Int) != 46) = true := by unfold bne; rw [d46] <;> rfl
                    have d47 : ((s[k].toNat : Int) == 47) = false := beq_eq_false_iff_ne.2 (by omega)
                    have d47n : ((s[k].toNat : Int) != 47) = true := by unfold bne; rw [d47] <;> rfl
                    go_wp2_with fail
                    obtain ⟨E, hE⟩ : ∃ E : ByteArray, E = ⟨#[46, 46, 46, 46, 46, 47]⟩ := ⟨_, rfl⟩
                    rw [← hE]
                    have hEs : E.size = 6 := by subst hE; rfl
                    have hEn : 5 < E.size := by omega
                    have hEm : m + 1 < E.size := by omega
                    have hE1 : E[m + 1] = 46 := by
                      subst hE
                      rcases (show m = 0 ∨ m = 1 ∨ m = 2 ∨ m = 3 by omega) with h | h | h | h <;> (subst h; rfl)
                    clear hE
                    go_quiet (fail)
                    go_wp2_with fail
                    go_ret
                    exact ⟨rfl, drewN_below SC.out.2.1 _⟩
              · skip
                have dm : decide (4 < (m : Int)) = false := decide_eq_false (by omega)
                have dm3 : ((m : Int) == 3) = true := by rw [show m = 3 from hm] <;> rfl
                have dm4 : ((m : Int) == 4) = false := beq_eq_false_iff_ne.2 (by omega)
                have hle3 : m ≤ 3 := by omega
                have HM3 := Lib.hid hm
                clear hm
                by_cases hcc : s[k].toNat = 47
                · skip
                  have hmark := Lib.hid (show s[k] = Pm.mark m by rw [HM3.out, ← UInt8.toNat_inj]; exact hcc)
                  have d46 : ((s[k].toNat : Int) == 46) = false := beq_eq_false_iff_ne.2 (by omega)
                  have d46n : ((s[k].toNat : Int) != 46) = true := by unfold bne; rw [d46] <;> rfl
                  have d47 : ((s[k].toNat : Int) == 47) = true := by rw [hcc] <;> rfl
                  have d47n : ((s[k].toNat : Int) != 47) = false := by rw [hcc] <;> rfl
                  have hown := SC.out.1
                  rw [EM.out] at hown
                  have HO := Lib.hid hown
                  clear hown
                  go_wp2_with fail
                  obtain ⟨E, hE⟩ : ∃ E : ByteArray, E = ⟨#[46, 46, 46, 46, 46, 47]⟩ := ⟨_, rfl⟩
                  rw [← hE]
                  have hEs : E.size = 6 := by subst hE; rfl
                  have hEn : 5 < E.size := by omega
                  have hEm : m + 1 < E.size := by omega
                  have hE1 : E[m + 1] = 46 := by
                    subst hE
                    rcases (show m = 0 ∨ m = 1 ∨ m = 2 ∨ m = 3 by omega) with h | h | h | h <;> (subst h; rfl)
                  clear hE
                  go_quiet (fail)
                  have hlt : w.heap.size ≤ (wr.alloc (.cells #[.int .i64 (x : Nat)] 3)).heap.size := by rw [size_new]; have := SC.out.2.1.size; omega
                  go_wp2_with (at_builtin; refine wpList_append_own _ rfl _ _ 34 rfl w.heap.size 3 i0 (.int .i64 0) 1 8 Tryd.underlying34 II.out.1 II.out.2.1 II.out.2.2.1 II.out.2.2.2 rfl (by decide) _ _ _ rfl ((show (wr.drewN nq).ownsRow _ _ _ _ _ _ from HO.out).alloc _) ⟨wr.heap.size, 0, none⟩ 1 1 [.int .i64 (x : Nat)] rfl rfl (cell_one_new _ _ _) (by intro u hu; simp at hu; subst hu; rfl) (by unfold maxLen; omega) (by omega) hlt ?_; intro v' w' hown' hgrow hnil)
                  have hb' : Below w.heap.size w w' := (next (drewN_below SC.out.2.1 nq) (below_new _ _)).grown hgrow hlt (fun j hj => (HO.out.lt j hj).1)
                  have hv : ∃ A' cap', v' = .slice A' (m + 1) cap' := by
                    rcases hown'.2 with ⟨_, h0⟩ | ⟨g', cap', cur, hv, _⟩
                    · omega
                    · exact ⟨_, _, hv⟩
                  clear hgrow hnil
                  obtain ⟨A', cap', rfl⟩ := hv
                  go_roundw
                  case rel =>
                    refine ⟨k + 1, g :: rs, [], A', cap', by go_num, rfl, rfl, by rw [List.length_cons, EM.out], ?_⟩
                    rw [List.length_cons, EM.out]
                    exact scan_mark SC.out hk (by rw [EM.out]; omega) (by rw [EZ.out]; omega) (by rw [EM.out]; exact hmark.out) (by rw [EM.out, EX.out]; exact hown') hb'
                  case measure => first | (simp [intOf]; done) | (simp [intOf]; omega)
                · by_cases hc6 : s[k].toNat = 46
                  · skip
                    have hcc := hc6
                    have d46 : ((s[k].toNat : Int) == 46) = true := by rw [hcc] <;> rfl
                    have d46n : ((s[k].toNat : Int) != 46) = false := by rw [hcc] <;> rfl
                    have d47 : ((s[k].toNat : Int) == 47) = false := beq_eq_false_iff_ne.2 (by omega)
                    have d47n : ((s[k].toNat : Int) != 47) = true := by unfold bne; rw [d47] <;> rfl
                    go_wp2_with fail
                    obtain ⟨E, hE⟩ : ∃ E : ByteArray, E = ⟨#[46, 46, 46, 46, 46, 47]⟩ := ⟨_, rfl⟩
                    rw [← hE]
                    have hEs : E.size = 6 := by subst hE; rfl
                    have hEn : 5 < E.size := by omega
                    have hEm : m + 1 < E.size := by omega
                    have hE1 : E[m + 1] = 46 := by
                      subst hE
                      rcases (show m = 0 ∨ m = 1 ∨ m = 2 ∨ m = 3 by omega) with h | h | h | h <;> (subst h; rfl)
                    clear hE
                    go_quiet (fail)
                    go_wp2_with fail
                    go_ret
                    exact ⟨rfl, drewN_below SC.out.2.1 _⟩
                  · skip
                    have d46 : ((s[k].toNat : Int) == 46) = false := beq_eq_false_iff_ne.2 (by omega)
                    have d46n : ((s[k].toNat : Int) != 46) = true := by unfold bne; rw [d46] <;> rfl
                    have d47 : ((s[k].toNat : Int) == 47) = false := beq_eq_false_iff_ne.2 (by omega)
                    have d47n : ((s[k].toNat : Int) != 47) = true := by unfold bne; rw [d47] <;> rfl
                    go_wp2_with fail
                    obtain ⟨E, hE⟩ : ∃ E : ByteArray, E = ⟨#[46, 46, 46, 46, 46, 47]⟩ := ⟨_, rfl⟩
                    rw [← hE]
                    have hEs : E.size = 6 := by subst hE; rfl
                    have hEn : 5 < E.size := by omega
                    have hEm : m + 1 < E.size := by omega
                    have hE1 : E[m + 1] = 46 := by
                      subst hE
                      rcases (show m = 0 ∨ m = 1 ∨ m = 2 ∨ m = 3 by omega) with h | h | h | h <;> (subst h; rfl)
                    clear hE
                    go_quiet (fail)
                    go_wp2_with fail
                    go_ret
                    exact ⟨rfl, drewN_below SC.out.2.1 _⟩
              · skip
                have dm : decide (4 < (m : Int)) = false := decide_eq_false (by omega)
                have dm3 : ((m : Int) == 3) = false := beq_eq_false_iff_ne.2 (by omega)
                have dm4 : ((m : Int) == 4) = true := by rw [show m = 4 from hm] <;> rfl
                go_wp2_with fail
                go_quiet (fail)
                go_wp2_with fail
                go_ret
                exact ⟨rfl, drewN_below SC.out.2.1 _⟩
          · skip
            by_cases hz0 : z = 0
            · subst hz0
              go_wp2_with fail
              go_quiet (fail)
              go_wp2_with fail
              go_ret
              exact ⟨rfl, drewN_below SC.out.2.1 _⟩
            · skip
              have hz1 : 0 < z := by omega
              have dz : ((z : Int) == 0) = false := beq_eq_false_iff_ne.2 (by omega)
              clear hz0
              rcases (show m < 3 ∨ m = 3 ∨ m = 4 by omega) with hm | hm | hm
              · skip
                have dm : decide (4 < (m : Int)) = false := decide_eq_false (by omega)
                have dm3 : ((m : Int) == 3) = false := beq_eq_false_iff_ne.2 (by omega)
                have dm4 : ((m : Int) == 4) = false := beq_eq_false_iff_ne.2 (by omega)
                have d46 : ((s[k].toNat : Int) == 46) = false := beq_eq_false_iff_ne.2 (by omega)
                have d46n : ((s[k].toNat : Int) != 46) = true := by unfold bne; rw [d46] <;> rfl
                have d47 : ((s[k].toNat : Int) == 47) = false := beq_eq_false_iff_ne.2 (by omega)
                have d47n : ((s[k].toNat : Int) != 47) = true := by unfold bne; rw [d47] <;> rfl
                go_wp2_with fail
                obtain ⟨E, hE⟩ : ∃ E : ByteArray, E = ⟨#[46, 46, 46, 46, 46, 47]⟩ := ⟨_, rfl⟩
                rw [← hE]
                have hEs : E.size = 6 := by subst hE; rfl
                have hEn : 5 < E.size := by omega
                have hEm : m + 1 < E.size := by omega
                have hE1 : E[m + 1] = 46 := by
                  subst hE
                  rcases (show m = 0 ∨ m = 1 ∨ m = 2 ∨ m = 3 by omega) with h | h | h | h <;> (subst h; rfl)
                clear hE
                go_quiet (fail)
                go_wp2_with fail
                go_ret
                exact ⟨rfl, drewN_below SC.out.2.1 _⟩
              · skip
                have dm : decide (4 < (m : Int)) = false := decide_eq_false (by omega)
                have dm3 : ((m : Int) == 3) = true := by rw [show m = 3 from hm] <;> rfl
                have dm4 : ((m : Int) == 4) = false := beq_eq_false_iff_ne.2 (by omega)
                have hle3 : m ≤ 3 := by omega
                have HM3 := Lib.hid hm
                clear hm
                have d46 : ((s[k].toNat : Int) == 46) = false := beq_eq_false_iff_ne.2 (by omega)
                have d46n : ((s[k].toNat : Int) != 46) = true := by unfold bne; rw [d46] <;> rfl
                have d47 : ((s[k].toNat : Int) == 47) = false := beq_eq_false_iff_ne.2 (by omega)
                have d47n : ((s[k].toNat : Int) != 47) = true := by unfold bne; rw [d47] <;> rfl
                go_wp2_with fail
                obtain ⟨E, hE⟩ : ∃ E : ByteArray, E = ⟨#[46, 46, 46, 46, 46, 47]⟩ := ⟨_, rfl⟩
                rw [← hE]
                have hEs : E.size = 6 := by subst hE; rfl
                have hEn : 5 < E.size := by omega
                have hEm : m + 1 < E.size := by omega
                have hE1 : E[m + 1] = 46 := by
                  subst hE
                  rcases (show m = 0 ∨ m = 1 ∨ m = 2 ∨ m = 3 by omega) with h | h | h | h <;> (subst h; rfl)
                clear hE
                go_quiet (fail)
                go_wp2_with fail
                go_ret
                exact ⟨rfl, drewN_below SC.out.2.1 _⟩
              · skip
                have dm : decide (4 < (m : Int)) = false := decide_eq_false (by omega)
                have dm3 : ((m : Int) == 3) = false := beq_eq_false_iff_ne.2 (by omega)
                have dm4 : ((m : Int) == 4) = true := by rw [show m = 4 from hm] <;> rfl
                go_wp2_with fail
                go_quiet (fail)
                go_wp2_with fail
                go_ret
                exact ⟨rfl, drewN_below SC.out.2.1 _⟩
      · obtain rfl : k = s.size := by omega
        have dk : decide ((s.size : Int) < (s.size : Int)) = false := decide_eq_false (by omega)
        by_cases hz0 : z = 0
        · subst hz0
          go_wp2_with fail
          go_quiet (fail)
          go_wp2_with fail
          go_ret
          exact ⟨rfl, drewN_below SC.out.2.1 _⟩
        · have hz1 : 0 < z := by omega
          have dz : ((z : Int) == 0) = false := beq_eq_false_iff_ne.2 (by omega)
          have dm : decide (4 < (m : Int)) = false := decide_eq_false (by omega)
          clear hz0
          have hown := SC.out.1
          rw [EM.out] at hown
          have HO := Lib.hid hown
          clear hown
          go_wp2_with fail
          go_quiet (fail)
          have hlt : w.heap.size ≤ (wr.alloc (.cells #[.int .i64 (x : Nat)] 3)).heap.size := by rw [size_new]; have := SC.out.2.1.size; omega
          go_wp2_with (at_builtin; refine wpList_append_own _ rfl _ _ 34 rfl w.heap.size 3 i0 (.int .i64 0) 1 8 Tryd.underlying34 II.out.1 II.out.2.1 II.out.2.2.1 II.out.2.2.2 rfl (by decide) _ _ _ rfl ((show (wr.drewN nq).ownsRow _ _ _ _ _ _ from HO.out).alloc _) ⟨wr.heap.size, 0, none⟩ 1 1 [.int .i64 (x : Nat)] rfl rfl (cell_one_new _ _ _) (by intro u hu; simp at hu; subst hu; rfl) (by unfold maxLen; omega) (by omega) hlt ?_; intro v' w' hown' hgrow hnil)
          have hb' : Below w.heap.size w w' := (next (drewN_below SC.out.2.1 nq) (below_new _ _)).grown hgrow hlt (fun j hj => (HO.out.lt j hj).1)
          have hv : ∃ A' cap', v' = .slice A' (m + 1) cap' := by
            rcases hown'.2 with ⟨_, h0⟩ | ⟨g', cap', cur, hv, _⟩
            · omega
            · exact ⟨_, _, hv⟩
          clear hgrow hnil
          obtain ⟨A', cap', rfl⟩ := hv
          go_roundw
          case rel =>
            refine ⟨s.size + 1, g :: rs, [], A', cap', by go_num, rfl, rfl, by rw [List.length_cons, EM.out], ?_⟩
            rw [List.length_cons, EM.out]
            exact scan_end SC.out rfl (by rw [EZ.out]; omega) (by rw [EM.out, EX.out]; exact hown') hb'
          case measure => first | (simp [intOf]; done) | (simp [intOf]; omega)
    · skip
      obtain rfl : k = s.size + 1 := by omega
      have hsc := SC.out
      obtain ⟨ho, hb, hg, hc⟩ := hsc
      rcases hc with ⟨h, _⟩ | ⟨_, r, rs', hrs, hl4, htx⟩
      · omega
      have HB := Lib.hid hb
      clear hb hin
      by_cases h5 : rs'.length = 4
      · match rs', h5, hrs, htx with
        | [r3, r2, r1, r0], _, hrs, htx =>
        subst hrs
        have HG := Lib.hid hg
        have HTX := Lib.hid htx
        have HFIN := Lib.hid (Cn.scan_right htx NO.out (hg r0 (by simp)) (hg r1 (by simp)) (hg r2 (by simp)) (hg r3 (by simp)) (hg r (by simp)))
        have l0 := Cn.good_lt (hg r0 (by simp))
        have l1 := Cn.good_lt (hg r1 (by simp))
        have l2 := Cn.good_lt (hg r2 (by simp))
        have l3 := Cn.good_lt (hg r3 (by simp))
        have l4 := Cn.good_lt (hg r (by simp))
        obtain ⟨g', hA, hcells⟩ : ∃ g', A = some ⟨g', 0, none⟩ ∧ ∀ j, j < 5 → wr.cell? ⟨g', j, none⟩ = ([Value.int .i64 (Nm.val r0 : Nat), .int .i64 (Nm.val r1 : Nat), .int .i64 (Nm.val r2 : Nat), .int .i64 (Nm.val r3 : Nat), .int .i64 (Nm.val r : Nat)] : List Value)[j]? := by
          rcases ho.2 with ⟨_, h0⟩ | ⟨g', cap', cur, hv, _⟩
          · simp at h0
          · injection hv with h1 _ h2
            subst h1 h2
            exact ⟨g', rfl, fun j hj => World.ownsRow.cellAt ho j (by simpa using hj)⟩
        subst hA
        have q0 := hcells 0 (by omega)
        have q1 := hcells 1 (by omega)
        have q2 := hcells 2 (by omega)
        have q3 := hcells 3 (by omega)
        have q4 := hcells 4 (by omega)
        simp only [List.getElem?_cons_zero, List.getElem?_cons_succ] at q0 q1 q2 q3 q4
        clear hcells ho hg htx SC
        generalize Nm.val r0 = v0 at *
        generalize Nm.val r1 = v1 at *
        generalize Nm.val r2 = v2 at *
        generalize Nm.val r3 = v3 at *
        generalize Nm.val r = v4 at *
        by_cases e0 : 255 < v0
        · have dv0 : decide ((255 : Int) < (v0 : Int)) = true := decide_eq_true (by omega)
          go_wp2_with fail
          go_ret
          exact ⟨rfl, HB.out⟩
        · have dv0 : decide ((255 : Int) < (v0 : Int)) = false := decide_eq_false (by omega)
          by_cases e1 : 255 < v1
          · have dv1 : decide ((255 : Int) < (v1 : Int)) = true := decide_eq_true (by omega)
            go_wp2_with fail
            go_ret
            exact ⟨rfl, HB.out⟩
          · have dv1 : decide ((255 : Int) < (v1 : Int)) = false := decide_eq_false (by omega)
            by_cases e2 : 255 < v2
            · have dv2 : decide ((255 : Int) < (v2 : Int)) = true := decide_eq_true (by omega)
              go_wp2_with fail
              go_ret
              exact ⟨rfl, HB.out⟩
            · have dv2 : decide ((255 : Int) < (v2 : Int)) = false := decide_eq_false (by omega)
              by_cases e3 : 255 < v3
              · have dv3 : decide ((255 : Int) < (v3 : Int)) = true := decide_eq_true (by omega)
                go_wp2_with fail
                go_ret
                exact ⟨rfl, HB.out⟩
              · have dv3 : decide ((255 : Int) < (v3 : Int)) = false := decide_eq_false (by omega)
                by_cases e4 : 32 < v4
                · have dv4 : decide ((32 : Int) < (v4 : Int)) = true := decide_eq_true (by omega)
                  go_wp2_with fail
                  go_ret
                  exact ⟨rfl, HB.out⟩
                · have dv4 : decide ((32 : Int) < (v4 : Int)) = false := decide_eq_false (by omega)
                  go_wp2_with fail
                  go_quiet (fail)
                  go_wp2_with fail
                  have ea : (v0 : Int) * 16777216 + (v1 : Int) * 65536 + (v2 : Int) * 256 + (v3 : Int) = ((((v0 * 256 + v1) * 256 + v2) * 256 + v3 : Nat) : Int) := by omega
                  have hR := refRight_eqN (a := ((v0 * 256 + v1) * 256 + v2) * 256 + v3) (n := v4) (by omega) (HFIN.out (by omega) (by omega) (by omega) (by omega) (by omega)) (wr.drewN nq)
                  rw [← ea] at hR
                  refine hR.mono ?_
                  clear hR
                  rintro e w4 ⟨rfl, hb⟩
                  replace HB := Lib.hid (next (drewN_below HB.out nq) hb)
                  clear hb
                  go_wp2_with fail
                  go_ret
                  exact ⟨ret_bool (by first | rfl | decide | simp), HB.out⟩
      · have hm5 : rs.length < 5 := by subst hrs; simp only [List.length_cons]; omega
        have EM : ∃ m, rs.length = m := ⟨_, rfl⟩
        obtain ⟨m, hm⟩ := EM
        rw [hm] at hm5 ⊢
        have dm5 : ((m : Int) != 5) = true := by
          have h : ((m : Int) == 5) = false := beq_eq_false_iff_ne.2 (by omega)
          unfold bne; rw [h]; rfl
        clear hm hrs ho hg htx SC
        go_wp2_with fail
        go_ret
        exact ⟨rfl, HB.out⟩
end Go.Proofs.YtclfchdgagpahaaDoor
