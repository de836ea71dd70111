/-
  StateApplies: its walk.
-/
import Derived.Test.YtncliolkdkofhaaStL
import Derived.Test.YtncliolkdkofhaaShw
namespace Go.Proofs.Ytncliolkdkofhaa
open Go.RowKit Rm

theorem LR.shows {W0 w : World} {sd md mo mf id N1 N2 : Nat} {S : Sm} (h : LR W0 sd md mo mf id S N1 S N2 w) :
    Calls Try.prog 11 #[.pointer (some ⟨md, 0, none⟩), .pointer (some ⟨sd, 0, none⟩)] w fun e w' => e = .returned (.bool true) ∧ LR W0 sd md mo mf id S N1 S N2 w' := by
  have h0 := h
  obtain ⟨o, fl, h1, h2, h3⟩ := h0
  exact (shows_any h1 h2).mono fun e w' k => ⟨k.1, h.held k.2⟩

/-! ### what is never noted -/
def NoOdd (S : Sm) : Prop := S.own ⟨1, 40⟩ = none ∧ S.floor ⟨0, 0, 0⟩ = none
theorem right2_addr {r : Rc} (h : right2 r = true) : Am.right r.a r.len = true := by
  unfold right2 at h
  split at h
  · cases h
  · rename_i h1
    simp only [Bool.or_eq_true, Bool.not_eq_true', not_or, Bool.not_eq_false] at h1
    exact h1.1.1
theorem right2_id {r : Rc} (h : right2 r = true) (hk : r.kind = 4) : 0 < r.id := by
  unfold right2 at h
  split at h
  · cases h
  · simp [hk] at h
    exact h.1
theorem NoOdd.app {S : Sm} (h : NoOdd S) {r : Rc} (hr : right2 r = true) : NoOdd (app S r) := by
  have ha := right2_addr hr
  have hid := right2_id hr
  unfold Go.Proofs.Ytncliolkdkofhaa.app
  split
  · refine ⟨?_, h.2⟩
    show (if (⟨1, 40⟩ : Pk) = ⟨r.a, r.len⟩ then some r.on else S.own ⟨1, 40⟩) = none
    rw [if_neg]
    · exact h.1
    · intro e
      have := congrArg Pk.n e
      rw [Am.right_big (by dsimp only at this; omega)] at ha
      cases ha
  · split
    · exact h
    · split
      · rename_i h4
        have hi := hid h4
        split
        · refine ⟨h.1, ?_⟩
          show (if (⟨0, 0, 0⟩ : Ky) = ⟨r.a, r.len, r.id⟩ then some (r.seq, r.met) else S.floor ⟨0, 0, 0⟩) = none
          rw [if_neg]
          · exact h.2
          · intro e
            have := congrArg Ky.id e
            simp at this
            omega
        · exact h
      · exact h
theorem noOdd_appN {rs : List Rc} (h : rs.all right2 = true) : ∀ k, k ≤ rs.length → NoOdd (appN rs k)
  | 0, _ => ⟨rfl, rfl⟩
  | k + 1, hk => by
    rw [appN_succ rs (show k < rs.length by omega)]
    exact (noOdd_appN h k (by omega)).app (List.all_eq_true.1 h _ (List.getElem_mem _))

set_option maxHeartbeats 2000000 in
theorem applies_any (id : Nat) (a : Option Addr) (len cap : Nat) (rs : List Rc) (hl : rs.length = len) (hm : len ≤ maxLen) (hc : len ≤ cap) (hA : 0 < len → ∃ b off, a = some ⟨b, off, none⟩) (hF : ∀ r ∈ rs, r.Fits) (w : World)
    (hR : ∀ b off, a = some ⟨b, off, none⟩ → Recs w b off rs) :
    Calls Try.prog 3 #[.int .u32 id, .slice a len cap] w fun e w' => e = .returned (.bool true) ∧ Below w.heap.size w w' := by
  go_enter Try.func3, Try.ntmps3
  go_wp2_with fail
  refine (head_any _).mono ?_
  rintro e w3 ⟨rfl, HB3⟩
  go_wp2_with fail
  refine (few_any a len cap rs hl hm hc hA hF w3 (fun b off e => (hR b off e).held HB3)).mono ?_
  rintro e w4 ⟨rfl, hb4⟩
  have HB4 := next HB3 hb4
  clear hb4 HB3
  cases hfew : fewR rs with
  | false =>
    go_wp2_with fail
    go_ret
    exact ⟨rfl, HB4⟩
  | true =>
    have hsixty : len ≤ 60 ∧ rs.all right2 = true := by
      unfold fewR at hfew
      rw [Bool.and_eq_true, decide_eq_true_eq] at hfew
      exact ⟨by omega, hfew.1⟩
    obtain ⟨hsixty, hall⟩ := hsixty
    have HALL := Lib.hid hall
    clear hfew hall
    go_wp2_with fail
    refine (new_any id w4).mono ?_
    rintro e w5 ⟨rfl, hS, hb5⟩
    go_wp2_with fail
    refine (model_new id w5).mono ?_
    rintro e w6 ⟨md, mo, mf, rfl, hM, hb6, g1, g2, g3⟩
    have z5 := hb5.size
    have z4 : w4.heap.size < w5.heap.size := hS.head.lt
    have L0 : LR w4 w4.heap.size md mo mf id (appN rs 0) 0 (appN rs 0) 0 w6 := ⟨none, none, ⟨0, 0, by omega, hS.held hb6⟩, hM, next hb5 hb6, (fun y hy => by
      rcases mem_fp.1 hy with rfl | h | h
      · exact ⟨by omega, by omega, by omega, by omega⟩
      · cases h
      · cases h), by omega, by omega, by omega⟩
    clear hS hM hb5 hb6 g1 g2 g3 z5
    have hRw : ∀ b off, a = some ⟨b, off, none⟩ → Recs w4 b off rs := fun b off e => (hR b off e).held HB4
    clear hR
    go_wp2_with fail
    unfold maxLen at hm
    go_loopw [24] (fun i wr => ∃ k : Nat, k ≤ len ∧ i = .int .i64 k ∧ LR w4 w4.heap.size md mo mf id (appN rs k) k (appN rs k) k wr) (fun i _ => len - (intOf i).toNat)
    case atStart => exact ⟨0, by omega, rfl, L0⟩
    case round =>
      obtain ⟨k, hk, rfl, hL⟩ := hrel
      by_cases hlt : k < len
      · obtain ⟨b, off, rfl⟩ := hA (by omega)
        have hk' : k < rs.length := by omega
        have hRk := (hRw b off rfl).held hL.below
        have hfit := hF rs[k] (List.getElem_mem hk')
        have hnext := appN_succ rs hk'
        generalize hrk : rs[k] = r at *
        have hr0 := hrk
        obtain ⟨kd, g, l, i, ra, n, on, rs', rm⟩ := r
        obtain ⟨c0, c1, c2, c3, c4, c5, c6, c7, c8⟩ := hRk.cells hk' hrk
        have HH := Lib.hid (And.intro hL (And.intro hfit hnext))
        have B0 := Blk.new wr 37 (rcl ⟨kd, g, l, i, ra, n, on, rs', rm⟩)
        clear hL hfit hnext hrk hr0 hRk hRw hF hA L0 HALL
        go_wp2_with fail
        refine (LR.apply_at HH.out.1 (below_new _ _) (by omega) ⟨kd, g, l, i, ra, n, on, rs', rm⟩ HH.out.2.1).mono ?_
        rintro e x1 ⟨rfl, hL1, hX⟩
        have RB := hX _ _ _ (Nat.le_refl _) B0
        clear hX B0 c0 c1 c2 c3 c4 c5 c6 c7 c8
        have c0 := RB.at_ 0
        have c1 := RB.at_ 1
        have c2 := RB.at_ 2
        have c3 := RB.at_ 3
        have c4 := RB.at_ 4
        have c5 := RB.at_ 5
        have c6 := RB.at_ 6
        have c7 := RB.at_ 7
        have c8 := RB.at_ 8
        simp only [rcl] at c0 c1 c2 c3 c4 c5 c6 c7 c8
        clear RB
        go_wp2_with fail
        refine (LR.mapply hL1 (by omega) ⟨kd, g, l, i, ra, n, on, rs', rm⟩ HH.out.2.1).mono ?_
        rintro e x2 ⟨rfl, hL2⟩
        rw [← HH.out.2.2] at hL2
        clear c0 c1 c2 c3 c4 c5 c6 c7 c8 hL1 HH
        go_wp2_with fail
        refine (LR.shows hL2).mono ?_
        rintro e x3 ⟨rfl, hL3⟩
        clear hL2
        go_wp2_with fail
        go_roundw
        case rel => exact ⟨k + 1, by omega, by go_num, hL3⟩
        case measure => simp [intOf]; omega
      · obtain rfl : k = len := by omega
        have hodd := noOdd_appN HALL.out k (by omega)
        have hB5 := next HB4 hL.below
        obtain ⟨o, fl, hN, -⟩ := hL
        obtain ⟨_, _, -, hS⟩ := hN
        generalize appN rs k = S at *
        have HOw := own_any hS (ka := 1) (kn := 40) ⟨by decide, by decide, by decide⟩ (v := false) (ok := false) (by rw [hodd.1]; rfl) (by rw [hodd.1]; rfl)
        have HR := Lib.hid (And.intro hS (And.intro hB5 hodd))
        clear hRw hF hA L0 hS hB5 hodd HALL
        go_wp2_with fail
        refine HOw.mono ?_
        rintro e x1 ⟨rfl, hb⟩
        obtain ⟨hS, hB5, hodd⟩ := HR.out
        have HFl := floor_any (hS.held hb) (ka := 0) (kn := 0) (kid := 0) ⟨by decide, ⟨by decide, by decide⟩, by decide⟩ (s := 0) (x := 0) (ok := false) (by rw [hodd.2]; rfl) (by rw [hodd.2]; rfl)
        have HB6 := Lib.hid (next hB5 hb)
        clear HOw HR hS hB5 hodd hb
        go_wp2_with fail
        refine HFl.mono ?_
        rintro e x2 ⟨rfl, hb⟩
        have HB7 := next (next HB6.out hb) (below_new x2 (.cells #[.int .u32 0, .int .u16 0] 35))
        clear HFl HB6 hb
        go_wp2_with fail
        go_ret
        exact ⟨rfl, HB7⟩
end Go.Proofs.Ytncliolkdkofhaa
