/-
  StateAnew: its walk.
-/
import Derived.Test.YtncliolkdkofhaaStT
namespace Go.Proofs.Ytncliolkdkofhaa
open Go.RowKit Rm

set_option maxHeartbeats 4000000 in
theorem anew_any (id : Nat) (a : Option Addr) (len cap : Nat) (at' : Int) (rs : List Rc) (hl : rs.length = len) (hm : len ≤ maxLen) (hc : len ≤ cap) (hA : 0 < len → ∃ b off, a = some ⟨b, off, none⟩) (hF : ∀ r ∈ rs, r.Fits) (w : World)
    (hR : ∀ b off, a = some ⟨b, off, none⟩ → Recs w b off rs) :
    Calls Try.prog 4 #[.int .u32 id, .slice a len cap, .int .i64 at'] w fun e w' => e = .returned (.bool true) ∧ Below w.heap.size w w' := by
  obtain ⟨c, hc1, hc2⟩ := mask_cut at'
  go_enter Try.func4, Try.ntmps4
  go_wp2_with fail
  refine (head_any _).mono ?_
  rintro e w3 ⟨rfl, HB3⟩
  go_wp2_with fail
  refine (few_any a len cap rs hl hm hc hA hF w3 (fun b off e => (hR b off e).held HB3)).mono ?_
  rintro e w4 ⟨rfl, hb4⟩
  have HB4 := next HB3 hb4
  clear hb4 HB3
  cases hfew : fewR rs with
  | false =>
    go_wp2_with fail
    go_ret
    exact ⟨rfl, HB4⟩
  | true =>
    have hsixty : len ≤ 60 ∧ rs.all right2 = true := by
      unfold fewR at hfew
      rw [Bool.and_eq_true, decide_eq_true_eq] at hfew
      exact ⟨by omega, hfew.1⟩
    obtain ⟨hsixty, hall⟩ := hsixty
    have HALL := Lib.hid hall
    have HFIT := Lib.hid hF
    clear hfew hall
    go_wp2_with fail
    refine (new_any id w4).mono ?_
    rintro e w5 ⟨rfl, hS, hb5⟩
    go_wp2_with fail
    refine (model_new id w5).mono ?_
    rintro e w6 ⟨md, mo, mf, rfl, hM, hb6, g1, g2, g3⟩
    have z5 := hb5.size
    have z4 : w4.heap.size < w5.heap.size := hS.head.lt
    have L0 : LR w4 w4.heap.size md mo mf id (appN rs 0) 0 (appN rs 0) 0 w6 := ⟨none, none, ⟨0, 0, by omega, hS.held hb6⟩, hM, next hb5 hb6, (fun y hy => by
      rcases mem_fp.1 hy with rfl | h | h
      · exact ⟨by omega, by omega, by omega, by omega⟩
      · cases h
      · cases h), by omega, by omega, by omega⟩
    clear hS hM hb5 hb6 g1 g2 g3 z5
    have hRw : ∀ b off, a = some ⟨b, off, none⟩ → Recs w4 b off rs := fun b off e => (hR b off e).held HB4
    clear hR
    go_wp2_with fail
    unfold maxLen at hm
    go_loopw [28] (fun i wr => ∃ k : Nat, k ≤ len ∧ i = .int .i64 k ∧ LR w4 w4.heap.size md mo mf id (appN rs k) k (appN rs k) k wr) (fun i _ => len - (intOf i).toNat)
    case atStart => exact ⟨0, by omega, rfl, L0⟩
    case round =>
      obtain ⟨k, hk, rfl, hL⟩ := hrel
      by_cases hlt : k < len
      · obtain ⟨b, off, rfl⟩ := hA (by omega)
        have hk' : k < rs.length := by omega
        have hRk := (hRw b off rfl).held hL.below
        have hfit := hF rs[k] (List.getElem_mem hk')
        have hnext := appN_succ rs hk'
        generalize hrk : rs[k] = r at *
        have hr0 := hrk
        obtain ⟨kd, g, l, i, ra, n, on, rs', rm⟩ := r
        obtain ⟨c0, c1, c2, c3, c4, c5, c6, c7, c8⟩ := hRk.cells hk' hrk
        have HH := Lib.hid (And.intro hL (And.intro hfit hnext))
        have B0 := Blk.new wr 37 (rcl ⟨kd, g, l, i, ra, n, on, rs', rm⟩)
        clear hL hfit hnext hrk hr0 hRk hRw hF hA L0 HALL HFIT
        go_wp2_with fail
        refine (LR.apply_at HH.out.1 (below_new _ _) (by omega) ⟨kd, g, l, i, ra, n, on, rs', rm⟩ HH.out.2.1).mono ?_
        rintro e x1 ⟨rfl, hL1, hX⟩
        have RB := hX _ _ _ (Nat.le_refl _) B0
        clear hX B0 c0 c1 c2 c3 c4 c5 c6 c7 c8
        have c0 := RB.at_ 0
        have c1 := RB.at_ 1
        have c2 := RB.at_ 2
        have c3 := RB.at_ 3
        have c4 := RB.at_ 4
        have c5 := RB.at_ 5
        have c6 := RB.at_ 6
        have c7 := RB.at_ 7
        have c8 := RB.at_ 8
        simp only [rcl] at c0 c1 c2 c3 c4 c5 c6 c7 c8
        clear RB
        go_wp2_with fail
        refine (LR.mapply hL1 (by omega) ⟨kd, g, l, i, ra, n, on, rs', rm⟩ HH.out.2.1).mono ?_
        rintro e x2 ⟨rfl, hL2⟩
        rw [← HH.out.2.2] at hL2
        clear c0 c1 c2 c3 c4 c5 c6 c7 c8 hL1 HH
        go_wp2_with fail
        go_roundw
        case rel => exact ⟨k + 1, by omega, by go_num, hL2⟩
        case measure => simp [intOf]; omega
      · obtain rfl : k = len := by omega
        have hgood := good_appN HALL.out HFIT.out k (by omega)
        have hB5 := next HB4 hL.below
        obtain ⟨o, fl, hN, hM, -, hfp, hz1, hz2, hz3⟩ := hL
        generalize appN rs k = S at *
        have HRec := records_any hN
        have HG := Lib.hid (And.intro hgood (And.intro hB5 hM))
        clear hRw hF hA L0 HALL HFIT hgood hB5 hM hN hfp hz1 hz2 hz3 HB4 z4 hl hm hc
        go_wp2_with fail
        refine HRec.mono ?_
        rintro e w7 ⟨v, xs, ys, es, fs, rfl, hE, hxs, hx, hE2, hys, hy, hrow, hnil, hb7⟩
        obtain ⟨a2, cap2, rfl, hm2, hc2', hA2, hR2⟩ := row_recs (L := recsOf S es fs) hrow
        obtain ⟨hgood, hB5, hM⟩ := HG.out
        have hB7 := next hB5 hb7
        obtain ⟨mn, mm, hNm, hM7⟩ := hM.turn (.of_below [] hb7) (by simp) (by simp) (by simp)
        have hcnt1 : es.length = mn := by
          rw [← hM7.owns.card (chainP_nodup hxs) (fun k => by rw [hx k]; show _ ↔ k.ok ∧ _; cases S.own k <;> simp), ← show es.map (·.key) = xs from hE]; simp
        have hcnt2 : fs.length = mm := by
          rw [← hM7.floors.card (chainK_nodup hys) (fun k => by rw [hy k]; show _ ↔ k.ok ∧ _; cases S.floor k <;> simp), ← show fs.map (·.key) = ys from hE2]; simp
        have hcnt : (recsOf S es fs).length = mn + mm + (rL S.lease).length := by
          unfold recsOf
          rw [List.length_append, List.length_append, List.length_map, List.length_map]
          omega
        have hkl : mn + mm ≤ 60 := Nat.le_trans hNm hsixty
        have hrl : (rL S.lease).length ≤ 1 := by unfold rL; split <;> simp
        have HW := Lib.hid (fun L hL hR => recs_whole (L := L) hgood hE hx hE2 hy hL hR)
        have HRR := Lib.hid (recs_right (es := es) (fs := fs) hgood)
        have LEN1 := (Mk.of_block (w' := w7.drew) hM7.owns rfl).len (t := 48) (e := 4) (by kernel_rfl) 3
        have LEN2 := (Mk.of_block (w' := w7.drew) hM7.floors rfl).len (t := 49) (e := 35) (by kernel_rfl) 3
        generalize recsOf S es fs = L at *
        have q1 := hM7.head.at_ 1
        have q2 := hM7.head.at_ 2
        have q3 := hM7.head.at_ 3
        have mdl := hM7.head.lt
        have HM := Lib.hid (And.intro hM7 (And.intro hB7 hR2))
        have HC := Lib.hid hcnt
        generalize hLn : L.length = n2 at *
        have HLN := Lib.hid hLn
        clear hrow hnil hb7 HRec HG hB5 hM hM7 hE hxs hx hE2 hys hy hcnt1 hcnt2 hgood hR2 hNm hB7 hLn hcnt
        go_wp2_with fail
        go_region_held3 (fun w' => w' = w7.drew ∧ w'.cell? ⟨md, 2, none⟩ = some (.map (some mo)) ∧ w'.cell? ⟨md, 3, none⟩ = some (.map (some mf))) (go_keep) (fail)
        obtain ⟨hM7, hB7, hR2⟩ := HM.out
        have hM8 := hM7.drew
        have hB8 := hB7.drew
        have hR8 : ∀ b off, a2 = some ⟨b, off, none⟩ → Recs w7.drew b off L := fun b off e => (hR2 b off e).of_block rfl
        have q1 := hM8.head.at_ 1
        clear HM LEN1 LEN2 q2 q3 mdl hM7 hB7 hR2
        generalize w7.drew = w8 at *
        have HM := Lib.hid (And.intro hM8 (And.intro hB8 hR8))
        have mdl := hM8.head.lt
        clear hM8 hB8 hR8
        by_cases hls : S.lease = 0
        · have hn2 : n2 = mn + mm := by
            have h1 := HC.out
            unfold rL at h1
            rw [if_pos hls] at h1
            simpa using h1
          have hw1 : IntKind.i64.wrap ((mn : Int) + (mm : Int)) = (n2 : Int) := wrap_small (by omega) (by omega)
          have hgt : decide ((0 : Int) < (S.lease : Int)) = false := by rw [hls]; rfl
          have hgt2 : decide (0 < S.lease) = false := by rw [hls]; rfl
          have hsz2 : n2 ≤ 61 := by omega
          clear hls hn2 hkl hrl HC
          rw [hw1]
          clear hw1
          go_wp2_with fail
          refine (new_any id w8).mono ?_
          rintro e w9 ⟨rfl, hS9, hb9⟩
          have LT0 : LS w8 w8.heap.size id (appT L c 0) 0 w9 := ⟨none, none, ⟨0, 0, by omega, hS9⟩, hb9, fun y hy => by
            rcases mem_fp.1 hy with rfl | h | h
            · exact Nat.le_refl _
            · cases h
            · cases h⟩
          clear hS9 hb9 q1
          go_wp2_with fail
          go_loopw [68] (fun i wr => ∃ j : Nat, j ≤ n2 ∧ i = .int .i64 j ∧ LS w8 w8.heap.size id (appT L c j) j wr) (fun i _ => n2 - (intOf i).toNat)
          case atStart => exact ⟨0, by omega, rfl, LT0⟩
          case round =>
            obtain ⟨j, hj, rfl, hT⟩ := hrel
            by_cases hlt2 : j < n2
            · obtain ⟨b2, off2, rfl⟩ := hA2 (by omega)
              obtain ⟨q, hq⟩ : ∃ q, q = (j + c) % n2 := ⟨_, rfl⟩
              obtain ⟨s, hs⟩ : ∃ s, s = j + c := ⟨_, rfl⟩
              have hqn : q < n2 := by rw [hq]; exact Nat.mod_lt _ (by omega)
              have hwa : IntKind.i64.wrap ((j : Int) + (c : Int)) = (s : Int) := wrap_small (by omega) (by omega)
              have hrem : (s : Int).tmod (n2 : Int) = (q : Int) := by rw [tmod_nat, hq, hs]
              have hwq : IntKind.i64.wrap (q : Int) = (q : Int) := wrap_small rfl (by omega)
              have hnz : ((n2 : Int) == 0) = false := by rw [beq_eq_false_iff_ne]; omega
              obtain ⟨hqL, hnext⟩ := appT_next L c j n2 q HLN.out (by omega) hq
              have hRk := (HM.out.2.2 b2 off2 rfl).held hT.below
              obtain ⟨hr1, hfit, hgen, hlsn⟩ := HRR.out L[q] (List.getElem_mem hqL)
              generalize hrk : L[q] = r at *
              obtain ⟨kd, g, l, i, ra, n, on, rs', rm⟩ := r
              obtain ⟨c0, c1, c2, c3, c4, c5, c6, c7, c8⟩ := hRk.cells hqL hrk
              have hg0 : ((g : Int) != 0) = false := by rw [show g = 0 from hgen]; rfl
              have hl0 : ((l : Int) != 0) = false := by rw [show l = 0 from hlsn]; rfl
              have ha := hfit.a
              have HH := Lib.hid (And.intro hT (And.intro hfit (And.intro hnext (And.intro hr1 ha))))
              have HQ := Lib.hid (And.intro hq hs)
              have B0 := Blk.new wr 37 (rcl ⟨kd, g, l, i, ra, n, on, rs', rm⟩)
              have hbn := below_new wr (.cells (rcl ⟨kd, g, l, i, ra, n, on, rs', rm⟩) 37)
              have HBN := Lib.hid hbn
              clear hT hfit hnext hrk hRk hgen hlsn hr1 ha hA2 LT0 hq hs hbn
              go_wp2_with fail
              refine (rright_eq HH.out.2.2.2.2 HH.out.2.2.2.1 _).mono ?_
              rintro e x ⟨rfl, hb⟩
              have RB := B0.held hb
              have HB2 := Lib.hid (next HBN.out hb)
              have HRB := Lib.hid RB
              clear B0 hb c0 c1 c2 c3 c4 c5 c6 c7 c8 HBN
              have c0 := RB.at_ 0
              have c1 := RB.at_ 1
              have c2 := RB.at_ 2
              have c3 := RB.at_ 3
              have c4 := RB.at_ 4
              have c5 := RB.at_ 5
              have c6 := RB.at_ 6
              have c7 := RB.at_ 7
              have c8 := RB.at_ 8
              simp only [rcl] at c0 c1 c2 c3 c4 c5 c6 c7 c8
              clear RB
              go_wp2_with fail
              refine (LS.apply_at HH.out.1 HB2.out (by omega) ⟨kd, g, l, i, ra, n, on, rs', rm⟩ HH.out.2.1).mono ?_
              rintro e x1 ⟨rfl, hL1, -⟩
              rw [← HH.out.2.2.1] at hL1
              clear c0 c1 c2 c3 c4 c5 c6 c7 c8 HH HB2 HRB
              go_wp2_with fail
              go_roundw
              case rel => exact ⟨j + 1, by omega, by go_num, hL1⟩
              case measure => simp [intOf]; omega
            · obtain rfl : j = n2 := by omega
              have hln := HLN.out
              have hap : appT L c j = S := by
                have h1 := HW.out (turnd L c L.length) turnd_sub turnd_sup
                rw [hln] at h1
                exact h1
              rw [hap] at hT
              have hbw := next HM.out.2.1 hT.below
              have hM9 := HM.out.1.turn (.of_below [] hT.below) (by simp) (by simp) (by simp)
              obtain ⟨o2, fl2, hN2, -⟩ := hT
              have HSH := shows_any hN2 (N2 := mn + mm) ⟨mn, mm, Nat.le_refl _, hM9⟩
              clear hN2 hM9 LT0 hA2 hln hap
              go_wp2_with fail
              refine HSH.mono ?_
              rintro e x ⟨rfl, hb⟩
              have hbw2 := next hbw hb
              clear HSH hb hbw
              go_wp2_with fail
              go_ret
              exact ⟨rfl, hbw2⟩
        · have hn2 : n2 = mn + mm + 1 := by
            have h1 := HC.out
            unfold rL at h1
            rw [if_neg hls] at h1
            simpa using h1
          obtain ⟨n0, hn0⟩ : ∃ n0, n0 = mn + mm := ⟨_, rfl⟩
          have hw1 : IntKind.i64.wrap ((mn : Int) + (mm : Int)) = (n0 : Int) := wrap_small (by omega) (by omega)
          have hw2 : IntKind.i64.wrap ((n0 : Int) + 1) = (n2 : Int) := wrap_small (by omega) (by omega)
          have hgt : decide ((0 : Int) < (S.lease : Int)) = true := decide_eq_true (by omega)
          have hgt2 : decide (0 < S.lease) = true := decide_eq_true (by omega)
          have hsz2 : n2 ≤ 61 := by omega
          clear hls hn2 hkl hrl HC hn0
          rw [hw1]
          clear hw1
          go_wp2_with fail
          refine (new_any id w8).mono ?_
          rintro e w9 ⟨rfl, hS9, hb9⟩
          have LT0 : LS w8 w8.heap.size id (appT L c 0) 0 w9 := ⟨none, none, ⟨0, 0, by omega, hS9⟩, hb9, fun y hy => by
            rcases mem_fp.1 hy with rfl | h | h
            · exact Nat.le_refl _
            · cases h
            · cases h⟩
          clear hS9 hb9 q1
          go_wp2_with fail
          go_loopw [68] (fun i wr => ∃ j : Nat, j ≤ n2 ∧ i = .int .i64 j ∧ LS w8 w8.heap.size id (appT L c j) j wr) (fun i _ => n2 - (intOf i).toNat)
          case atStart => exact ⟨0, by omega, rfl, LT0⟩
          case round =>
            obtain ⟨j, hj, rfl, hT⟩ := hrel
            by_cases hlt2 : j < n2
            · obtain ⟨b2, off2, rfl⟩ := hA2 (by omega)
              obtain ⟨q, hq⟩ : ∃ q, q = (j + c) % n2 := ⟨_, rfl⟩
              obtain ⟨s, hs⟩ : ∃ s, s = j + c := ⟨_, rfl⟩
              have hqn : q < n2 := by rw [hq]; exact Nat.mod_lt _ (by omega)
              have hwa : IntKind.i64.wrap ((j : Int) + (c : Int)) = (s : Int) := wrap_small (by omega) (by omega)
              have hrem : (s : Int).tmod (n2 : Int) = (q : Int) := by rw [tmod_nat, hq, hs]
              have hwq : IntKind.i64.wrap (q : Int) = (q : Int) := wrap_small rfl (by omega)
              have hnz : ((n2 : Int) == 0) = false := by rw [beq_eq_false_iff_ne]; omega
              obtain ⟨hqL, hnext⟩ := appT_next L c j n2 q HLN.out (by omega) hq
              have hRk := (HM.out.2.2 b2 off2 rfl).held hT.below
              obtain ⟨hr1, hfit, hgen, hlsn⟩ := HRR.out L[q] (List.getElem_mem hqL)
              generalize hrk : L[q] = r at *
              obtain ⟨kd, g, l, i, ra, n, on, rs', rm⟩ := r
              obtain ⟨c0, c1, c2, c3, c4, c5, c6, c7, c8⟩ := hRk.cells hqL hrk
              have hg0 : ((g : Int) != 0) = false := by rw [show g = 0 from hgen]; rfl
              have hl0 : ((l : Int) != 0) = false := by rw [show l = 0 from hlsn]; rfl
              have ha := hfit.a
              have HH := Lib.hid (And.intro hT (And.intro hfit (And.intro hnext (And.intro hr1 ha))))
              have HQ := Lib.hid (And.intro hq hs)
              have B0 := Blk.new wr 37 (rcl ⟨kd, g, l, i, ra, n, on, rs', rm⟩)
              have hbn := below_new wr (.cells (rcl ⟨kd, g, l, i, ra, n, on, rs', rm⟩) 37)
              have HBN := Lib.hid hbn
              clear hT hfit hnext hrk hRk hgen hlsn hr1 ha hA2 LT0 hq hs hbn
              go_wp2_with fail
              refine (rright_eq HH.out.2.2.2.2 HH.out.2.2.2.1 _).mono ?_
              rintro e x ⟨rfl, hb⟩
              have RB := B0.held hb
              have HB2 := Lib.hid (next HBN.out hb)
              have HRB := Lib.hid RB
              clear B0 hb c0 c1 c2 c3 c4 c5 c6 c7 c8 HBN
              have c0 := RB.at_ 0
              have c1 := RB.at_ 1
              have c2 := RB.at_ 2
              have c3 := RB.at_ 3
              have c4 := RB.at_ 4
              have c5 := RB.at_ 5
              have c6 := RB.at_ 6
              have c7 := RB.at_ 7
              have c8 := RB.at_ 8
              simp only [rcl] at c0 c1 c2 c3 c4 c5 c6 c7 c8
              clear RB
              go_wp2_with fail
              refine (LS.apply_at HH.out.1 HB2.out (by omega) ⟨kd, g, l, i, ra, n, on, rs', rm⟩ HH.out.2.1).mono ?_
              rintro e x1 ⟨rfl, hL1, -⟩
              rw [← HH.out.2.2.1] at hL1
              clear c0 c1 c2 c3 c4 c5 c6 c7 c8 HH HB2 HRB
              go_wp2_with fail
              go_roundw
              case rel => exact ⟨j + 1, by omega, by go_num, hL1⟩
              case measure => simp [intOf]; omega
            · obtain rfl : j = n2 := by omega
              have hln := HLN.out
              have hap : appT L c j = S := by
                have h1 := HW.out (turnd L c L.length) turnd_sub turnd_sup
                rw [hln] at h1
                exact h1
              rw [hap] at hT
              have hbw := next HM.out.2.1 hT.below
              have hM9 := HM.out.1.turn (.of_below [] hT.below) (by simp) (by simp) (by simp)
              obtain ⟨o2, fl2, hN2, -⟩ := hT
              have HSH := shows_any hN2 (N2 := mn + mm) ⟨mn, mm, Nat.le_refl _, hM9⟩
              clear hN2 hM9 LT0 hA2 hln hap
              go_wp2_with fail
              refine HSH.mono ?_
              rintro e x ⟨rfl, hb⟩
              have hbw2 := next hbw hb
              clear HSH hb hbw
              go_wp2_with fail
              go_ret
              exact ⟨rfl, hbw2⟩
end Go.Proofs.Ytncliolkdkofhaa
