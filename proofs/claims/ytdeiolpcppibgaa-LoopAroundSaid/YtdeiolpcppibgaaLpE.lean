/-
  LoopWalks: the walk.
-/
import Derived.Test.YtdeiolpcppibgaaLpJ
namespace Go.Proofs.Ytdeiolpcppibgaa
open Go.RowKit Go.Maps Fm
attribute [local go_sem] Oper.semAt_some

theorem InT.held {w w' : World} {A : Option Addr} {len cap : Nat} {f : Nat → Nat → Int} (h : InT w A len cap f) (hb : Below w.heap.size w w') : InT w' A len cap f := ⟨h.hm, h.hc, h.hA, fun b off e i hi j hj => Go.Proofs.Ytdeiolpcppibgaa.held hb (h.hR b off e i hi j hj)⟩
set_option maxRecDepth 100000 in
set_option maxHeartbeats 2000000 in
theorem walks_walk {w : World} {A : Option Addr} {len cap : Nat} {f : Nat → Nat → Int} (h : InT w A len cap f) (n0 from_ : Int) {a : Nat} (ha : a < 4294967296) :
    Calls Try.prog 3 #[.int .i64 n0, .slice A len cap, .int .i64 from_, .int .u32 a] w fun e w' => e = .returned (.bool true) ∧ Below w.heap.size w w' := by
  have hmx := h.hm
  unfold maxLen at hmx
  have mixed : Try.prog.follows .mixedOrders = true := by decide
  have H := Lib.hid (And.intro h ha)
  clear h ha
  obtain ⟨nm, hnm, hmm⟩ := mask_i n0 7 (by omega)
  replace hmm : bits .and .i64 n0 7 = (nm : Int) := hmm
  obtain ⟨n, q, hn, hq, hcq, hq0, hq1⟩ : ∃ (n : Nat) (q : Int), n = 1 + nm ∧ q = (nm : Int) ∧ (n : Int) = 1 + q ∧ 0 ≤ q ∧ q ≤ 7 := ⟨_, _, rfl, rfl, by omega, by omega, by omega⟩
  rw [← hq] at hmm
  clear hq
  have h1 : 1 ≤ n := by omega
  have h8 : n ≤ 8 := by omega
  clear hn hnm
  go_enter Try.func3, Try.ntmps3
  by_cases hl : len ≤ 40
  case neg =>
    have dl : decide ((len : Int) ≤ 40) = false := decide_eq_false (by omega)
    go_wp2_with (first | (go_at_call 5; refine (loop_head w).mono ?_; rintro e w1 ⟨rfl, hb1⟩) | (go_at_call 6; refine (few_any w1 A len cap dl).mono ?_; rintro e w2 ⟨rfl, rfl⟩) | fail)
    go_ret
    exact ⟨rfl, hb1⟩
  case pos =>
  have dl : decide ((len : Int) ≤ 40) = true := decide_eq_true (by omega)
  go_upto_region 6 with (first | (go_at_call 5; refine (loop_head w).mono ?_; rintro e w1 ⟨rfl, hb1⟩) | (go_at_call 6; refine (few_any w1 A len cap dl).mono ?_; rintro e w2 ⟨rfl, rfl⟩) | fail)
  rw [← hcq]
  clear hcq hq0 hq1 hmm dl
  have HF := fibs_any (H.out.1.held hb1) hl h1 h8
  have X := Lib.hid hb1
  clear hb1
  go_upto_region 7 with (go_at_call 7; refine HF.mono ?_; rintro e w3 ⟨fss, rfl, hfl, hI, hb3, -⟩; clear HF)
  have HW := walk_any hI H.out.2 from_
  rw [hfl] at HW
  have Y := Lib.hid (And.intro hI (And.intro hfl (next X.out hb3)))
  clear hI hfl hb3
  go_upto_region 8 with (go_at_call 8; refine HW.mono ?_; rintro e w4 ⟨v1, p, how, ok, rfl, hw1, hP, hO1, hb4⟩; clear HW)
  have HR := refWalk_any (Y.out.1.held hb4) H.out.2 from_
  rw [Y.out.2.1] at HR
  have hpl : p.length ≤ n := by rw [← Y.out.2.1]; exact hP.len
  obtain ⟨q1, c1, rfl, hc1⟩ := hO1.form
  have B4 := Lib.hid (And.intro (next Y.out.2.2 hb4) (And.intro hO1 hw1))
  clear hb4 hw1 hP hO1
  go_upto_region 9 with (go_at_call 9; refine HR.mono ?_; rintro e w5 ⟨v2, p', how', ok', rfl, hw2, -, hO2, hb5⟩; clear HR)
  obtain ⟨rfl, rfl, rfl⟩ := hw2.unique B4.out.2.2
  obtain ⟨q2, c2, rfl, hc2⟩ := hO2.form
  have B5 := Lib.hid (And.intro (next B4.out.1 hb5) (And.intro (B4.out.2.1.held hb5) hO2))
  clear hw2 hO2 hb5 B4
  obtain ⟨L, hL⟩ : ∃ L, p'.length = L := ⟨_, rfl⟩
  have HL := Lib.hid hL
  rw [hL] at hpl hc1 hc2 ⊢
  clear hL
  have d1 : decide ((n : Int) < (L : Int)) = false := decide_eq_false (by omega)
  have d2 : decide (n < L) = false := decide_eq_false (by omega)
  go_wp2_with fail
  go_loopw [67] (fun i wr => ∃ k : Nat, i = .int .i64 k ∧ k ≤ L ∧ Hid (∃ m, wr = w5.drewN m)) (fun i _ => L - (intOf i).toNat)
  case atStart => exact ⟨0, rfl, Nat.zero_le _, 0, rfl⟩
  case round =>
    obtain ⟨k, rfl, hk, R⟩ := hrel
    obtain ⟨m, rfl⟩ := R.out
    by_cases hkl : k < L
    · have hkz : (k : Int) < (L : Int) := by omega
      have hk2 : k < p'.length := by rw [HL.out]; exact hkl
      obtain ⟨g1, cp1, e1, -, -, r1⟩ := B5.out.2.1.at_ elemI.len hk2
      obtain ⟨g2, cp2, e2, -, -, r2⟩ := B5.out.2.2.at_ elemI.len hk2
      cases e1
      cases e2
      have s1 := r1 0 (by omega)
      have s2 := r2 0 (by omega)
      rw [Nat.mul_one, Nat.add_zero] at s1 s2
      replace s1 : w5.cell? ⟨g1, k, none⟩ = some (.int .i64 p'[k]) := s1
      replace s2 : w5.cell? ⟨g2, k, none⟩ = some (.int .i64 p'[k]) := s2
      generalize p'[k] = zz at s1 s2
      clear r1 r2
      go_wp2_with fail
      go_big_region_o
      all_goals go_wp2_with fail
      go_roundw
      case rel => exact ⟨k + 1, by go_num, by omega, m + 1, rfl⟩
      case measure => simp [intOf]; omega
    · have dk : decide ((k : Int) < (L : Int)) = false := decide_eq_false (by omega)
      go_wp2_with fail
      go_ret
      exact ⟨rfl, drewN_below B5.out.1 m⟩
end Go.Proofs.Ytdeiolpcppibgaa
