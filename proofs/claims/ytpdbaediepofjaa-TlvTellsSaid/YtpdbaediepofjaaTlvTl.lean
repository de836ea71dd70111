/-
  TlvTells' walk.
-/
import Derived.Test.YtpdbaediepofjaaTlvP
import Derived.Deep.RegionHeld3
import Derived.Deep.Cut
import Derived.Deep.CutRange
import Derived.Deep.RegionWith
namespace Go.Proofs.Ytpdbaediepofjaa
open Go.RowKit Tm

/-- while what can be told is sifted -/
def TlR (w1 : World) (al : List Up) (na : Nat) (pv wv kv : Value) (wr : World) : Prop :=
  ∃ i : Nat, kv = .int .i64 i ∧ i ≤ na ∧ Lv w1.heap.size pv al wr ∧ Lv w1.heap.size wv ((al.take i).filter (fun u => right u)) wr ∧ Below w1.heap.size w1 wr ∧ pv.ownBlock ≠ wv.ownBlock

/-- while the datagrams are read again -/
def TlB (W5 W6 : World) (LL : List (List Up)) (nr : Nat) (bv kv : Value) (wr : World) : Prop :=
  ∃ i : Nat, kv = .int .i64 i ∧ i ≤ nr ∧ Lv W5.heap.size bv (LL.take i).flatten wr ∧ Below W5.heap.size W6 wr

set_option maxRecDepth 100000 in
set_option maxHeartbeats 1500000 in
theorem tells_any {A : Option Addr} {n cap : Nat} {us : List Up} {w : World} (often : Int) (h : Ulw w A n cap us) :
    Calls Try.prog 3 #[.slice A n cap, .int .i64 often] w fun e w' => e = .returned (.bool true) ∧ Below w.heap.size w w' := by
  have hn := h.len
  have hmx := h.max
  unfold maxLen at hmx
  have H := Lib.hid h
  clear h
  obtain ⟨c, hc7, ec⟩ := and_seven often
  by_cases h40 : 40 < n
  · have d1 : decide ((40 : Int) < (n : Int)) = true := decide_eq_true (by omega)
    clear ec hc7
    go_enter Try.func3, Try.ntmps3
    go_wp2_with fail
    refine (head_any _).mono ?_
    rintro e w1 ⟨rfl, hb1⟩
    have V := Lib.hid hb1
    clear hb1
    go_wp2_with fail
    go_ret
    exact ⟨rfl, V.out⟩
  have d1 : decide ((40 : Int) < (n : Int)) = false := decide_eq_false (by omega)
  go_enter Try.func3, Try.ntmps3
  go_wp2_with fail
  refine (head_any _).mono ?_
  rintro e w1 ⟨rfl, hb1⟩
  have hbA := below_new w1 (.cells #[] 31)
  have hsA := size_new w1 (.cells #[] 31)
  have hbC := below_new (w1.alloc (.cells #[] 31)) (.cells #[] 31)
  have hA0 := (Lv.empty (B := w1.heap.size) w1 (Nat.le_refl _)).held hbC
  have hW0 := Lv.empty (B := w1.heap.size) (w1.alloc (.cells #[] 31)) hbA.size
  rw [hsA] at hW0
  have hb0 := next hbA hbC
  have V := Lib.hid hb1
  have ST := Lib.hid (And.intro hA0 (And.intro hW0 hb0))
  clear hbA hsA hbC hA0 hW0 hb0 hb1
  go_wp2_with fail
  generalize (w1.alloc (.cells #[] 31)).alloc (.cells #[] 31) = W2 at *
  go_loopw [5, 7] (fun av kv wr => ∃ j : Nat, kv = .int .i64 j ∧ j ≤ 1 + c ∧ Lv w1.heap.size av (List.replicate j us).flatten wr ∧ Lv w1.heap.size (.slice (some ⟨w1.heap.size + 1, 0, none⟩) 0 0) [] wr ∧ Below w1.heap.size w1 wr ∧ (Value.slice (some ⟨w1.heap.size + 1, 0, none⟩) 0 0).ownBlock ≠ av.ownBlock) (fun _ kv _ => 1 + c - (intOf kv).toNat)
  case atStart => exact ⟨0, rfl, by omega, ST.out.1, ST.out.2.1, ST.out.2.2, by simp [Value.ownBlock]⟩
  case round =>
    clear ST
    obtain ⟨j, rfl, hj, hLa, hLw, hb, hne⟩ := hrel
    by_cases hlt : j < 1 + c
    · have hU := (H.out.ul (by omega)).held (next V.out hb)
      have hrl := rep_length us j
      have hjn : j * us.length ≤ 8 * 40 := Nat.mul_le_mul (by omega) (by omega)
      obtain ⟨v', W', hr, hL', hb', hap⟩ := hLa.add' hb.size hU (by omega) 22
      obtain ⟨hLw', hne'⟩ := hap _ _ hLw hne
      have hne2 : (Value.slice (some ⟨w1.heap.size + 1, 0, none⟩) 0 0).ownBlock ≠ v'.ownBlock := hne'.elim id (fun h => by cases h)
      rw [rep_succ] at hL'
      have q1 : IntKind.i64.wrap ((j : Int) + 1) = ((j + 1 : Nat) : Int) := by rw [IntKind.wrap_i64]; omega
      obtain ⟨p0, cp0, hv0, -⟩ := hLa.form
      have d2 : decide ((j : Int) < 1 + (c : Int)) = true := decide_eq_true (by omega)
      have R := Lib.hid (And.intro hL' (And.intro hLw' (And.intro (hb.trans hb') hne2)))
      clear hLa hLw hb hne hU hrl hjn hL' hb' hap hLw' hne' hne2 hv0
      go_wp2_with (first
        | (at_builtin; refine Lib.wpList_append_run _ rfl (.tmp 31) (.tmp 32) 22 22 rfl _ _ rfl rfl _ _ hr ?_)
        | fail)
      go_roundw
      case rel => exact ⟨j + 1, by rfl, by omega, R.out.1, R.out.2.1, R.out.2.2.1, R.out.2.2.2⟩
      case measure => simp only [intOf]; omega
    · have d2 : decide ((j : Int) < 1 + (c : Int)) = false := decide_eq_false (by omega)
      have hal : (List.replicate j us).flatten.length ≤ 320 := by rw [rep_length, hn]; exact Nat.le_trans (Nat.mul_le_mul (show j ≤ 8 by omega) (show n ≤ 40 by omega)) (by omega)
      have hfa : ∀ u ∈ (List.replicate j us).flatten, u.Fits := fun u hu => H.out.fits u (rep_mem hu)
      generalize (List.replicate j us).flatten = al at *
      obtain ⟨p5, c5, rfl, -⟩ := hLa.form
      obtain ⟨na, hna⟩ : ∃ na, na = al.length := ⟨_, rfl⟩
      rw [← hna] at hLa hne ⊢
      obtain ⟨W3, rfl⟩ : ∃ W3, W3 = wr := ⟨_, rfl⟩
      have Z := Lib.hid (And.intro hLa (And.intro hLw (And.intro hb (And.intro hne (And.intro hfa (And.intro hal hna))))))
      have hna3 : na ≤ 320 := by omega
      clear hLa hLw hb hne hfa hal hna H hj hlt
      go_wp2_with fail
      clear ec d2
      go_loopw [6, 36] (fun wv kv wr => TlR w1 al na (.slice p5 na c5) wv kv wr) (fun _ kv _ => na - (intOf kv).toNat)
      case atStart =>
        obtain ⟨hLa, hLw, hb, hne, -, -, -⟩ := Z.out
        exact ⟨0, rfl, by omega, hLa, hLw, hb, fun e => hne e.symm⟩
      case round =>
        obtain ⟨i, rfl, hi, hLa, hLw, hb, hne⟩ := hrel
        by_cases hlt : i < na
        · obtain ⟨-, -, -, -, hfa, hal, hna⟩ := Z.out
          obtain ⟨A5, c5', hv5, hUl⟩ := hLa.ul hfa (by omega)
          simp only [Value.slice.injEq] at hv5
          obtain ⟨rfl, -, rfl⟩ := hv5
          rw [← hna] at hUl
          obtain ⟨b5, o5, rfl⟩ := hUl.plain (by omega)
          have hk : i < al.length := by omega
          have hfit := hfa al[i] (List.getElem_mem hk)
          have htk : al.take (i + 1) = al.take i ++ [al[i]] := List.take_succ_eq_append_getElem hk
          generalize hu : al[i] = u at *
          obtain ⟨c0, c1, c2, c3, c4⟩ := hUl.at_ hk (a := u.a) (len := u.len) (id := u.id) (seq := u.seq) (met := u.met) hu
          have q1 : IntKind.i64.wrap ((i : Int) + 1) = ((i + 1 : Nat) : Int) := by rw [IntKind.wrap_i64]; omega
          have TR : ∀ W, _ := fun W => tright_any u.a u.len u.id u.seq u.met hfit.a W
          have LR : ∀ W, _ := fun W => lright_any u.a u.len u.id u.seq u.met hfit.a W
          have X := Lib.hid (And.intro hLa (And.intro hLw (And.intro hb (And.intro hne (And.intro htk hfit)))))
          clear hLa hLw hb hne htk hfit hUl hu hfa hal hna
          go_upto_region 14 with (fail)
          clear c0 c1 c2 c3 c4
          have hA := Blk.new wr 31 #[.int .u32 u.a, .int .i64 u.len, .int .u32 u.id, .int .u32 u.seq, .int .u16 u.met]
          have hb1 := below_new wr (.cells #[.int .u32 u.a, .int .i64 u.len, .int .u32 u.id, .int .u32 u.seq, .int .u16 u.met] 31)
          generalize wr.alloc _ = W4 at *
          obtain ⟨gu, hgu⟩ : ∃ gu, gu = wr.heap.size := ⟨_, rfl⟩
          rw [← hgu] at hA ⊢
          have x0 : W4.drew.cell? ⟨gu, 0, none⟩ = some (.int .u32 u.a) := hA.at_ 0
          have x1 : W4.drew.cell? ⟨gu, 0 + 1, none⟩ = some (.int .i64 u.len) := hA.at_ 1
          have x2 : W4.drew.cell? ⟨gu, 0 + 2, none⟩ = some (.int .u32 u.id) := hA.at_ 2
          have x3 : W4.drew.cell? ⟨gu, 0 + 3, none⟩ = some (.int .u32 u.seq) := hA.at_ 3
          have x4 : W4.drew.cell? ⟨gu, 0 + 4, none⟩ = some (.int .u16 u.met) := hA.at_ 4
          have Y := Lib.hid (And.intro hb1.drew hA.drew)
          clear hA hb1 hgu
          have hue : (⟨u.a, u.len, u.id, u.seq, u.met⟩ : Up) = u := rfl
          rw [hue] at TR LR
          clear hue
          replace TR := Lib.hid TR
          replace LR := Lib.hid LR
          go_cut [44] from 37 to 51 (fun v wx => v = .bool false ∧ Below wr.heap.size wr wx ∧ Blk 31 wx gu #[.int .u32 u.a, .int .i64 u.len, .int .u32 u.id, .int .u32 u.seq, .int .u16 u.met])
          case first =>
            clear X
            cases hr : right u
            · have TRr := fun W => TR.out W
              have LRr := fun W => LR.out W
              rw [hr] at TRr LRr
              replace TRr := Lib.hid TRr
              replace LRr := Lib.hid LRr
              clear TR LR hr
              go_region_with (first | (go_at_call 8; refine (TRr.out _).mono ?_; rintro e y2 ⟨rfl, hb6⟩; have k0 := held hb6 x0; have k1 := held hb6 x1; have k2 := held hb6 x2; have k3 := held hb6 x3; have k4 := held hb6 x4) | (go_at_call 9; refine (LRr.out _).mono ?_; rintro e y3 ⟨rfl, hb7⟩; have Y3 := Lib.hid (And.intro (next (next Y.out.1 hb6) hb7) ((Y.out.2.held hb6).held hb7)); clear k0 k1 k2 k3 k4 hb6 hb7 x0 x1 x2 x3 x4))
              all_goals
                go_wp2_with fail
                go_meet
                case rel => exact ⟨rfl, Y3.out⟩
            · have TRr := fun W => TR.out W
              have LRr := fun W => LR.out W
              rw [hr] at TRr LRr
              replace TRr := Lib.hid TRr
              replace LRr := Lib.hid LRr
              clear TR LR hr
              go_region_with (first | (go_at_call 8; refine (TRr.out _).mono ?_; rintro e y2 ⟨rfl, hb6⟩; have k0 := held hb6 x0; have k1 := held hb6 x1; have k2 := held hb6 x2; have k3 := held hb6 x3; have k4 := held hb6 x4) | (go_at_call 9; refine (LRr.out _).mono ?_; rintro e y3 ⟨rfl, hb7⟩; have Y3 := Lib.hid (And.intro (next (next Y.out.1 hb6) hb7) ((Y.out.2.held hb6).held hb7)); clear k0 k1 k2 k3 k4 hb6 hb7 x0 x1 x2 x3 x4))
              all_goals
                go_wp2_with fail
                go_meet
                case rel => exact ⟨rfl, Y3.out⟩
          case rest =>
            clear x0 x1 x2 x3 x4 Y TR
            obtain ⟨rfl, hcb, hcX⟩ := hcut
            have m0 : wc.cell? ⟨gu, 0, none⟩ = some (.int .u32 u.a) := hcX.at_ 0
            have m1 : wc.cell? ⟨gu, 0 + 1, none⟩ = some (.int .i64 u.len) := hcX.at_ 1
            have m2 : wc.cell? ⟨gu, 0 + 2, none⟩ = some (.int .u32 u.id) := hcX.at_ 2
            have m3 : wc.cell? ⟨gu, 0 + 3, none⟩ = some (.int .u32 u.seq) := hcX.at_ 3
            have m4 : wc.cell? ⟨gu, 0 + 4, none⟩ = some (.int .u16 u.met) := hcX.at_ 4
            have LRr := LR.out wc
            clear LR
            replace hcb := Lib.hid hcb
            replace hcX := Lib.hid hcX
            go_wp2_with fail
            refine LRr.mono ?_
            rintro e V ⟨rfl, hb8⟩
            replace hcb := hcb.out
            replace hcX := hcX.out
            cases hr : right u
            · skip
              obtain ⟨hLa, hLw, hb, hne, htk, hfit⟩ := X.out
              have hX := hcX.held hb8
              have hb9 := next hcb hb8
              have hLa := hLa.held hb9
              have hLw := hLw.held hb9
              have hb := next hb hb9
              clear m0 m1 m2 m3 m4 LRr hb8 hb9 X hcX hcb
              have R := Lib.hid (And.intro hLa (And.intro (show Lv w1.heap.size u6 ((al.take (i + 1)).filter (fun u => right u)) V by rw [htk, List.filter_append]; simpa [hr] using hLw) (And.intro hb hne)))
              clear hLa hLw hb hne htk hfit hX hr
              go_wp2_with fail
              go_roundw
              case rel => exact ⟨i + 1, by rfl, by omega, R.out.1, R.out.2.1, R.out.2.2.1, R.out.2.2.2⟩
              case measure => simp only [intOf]; omega
            · skip
              obtain ⟨hLa, hLw, hb, hne, htk, hfit⟩ := X.out
              have hX := hcX.held hb8
              have hb9 := next hcb hb8
              have hLa := hLa.held hb9
              have hLw := hLw.held hb9
              have hb := next hb hb9
              clear m0 m1 m2 m3 m4 LRr hb8 hb9 X hcX hcb
              have hwl : ((al.take i).filter (fun u => right u)).length ≤ 320 := Nat.le_trans (List.length_filter_le _ _) (by rw [List.length_take]; omega)
              obtain ⟨g', cap', W', hrun, hL', hb', hap⟩ := hLw.push1' hb.size u (by omega) rfl
              obtain ⟨hLa', hne'⟩ := hap _ _ hLa hne
              obtain ⟨q', hq'⟩ : ∃ q', q' = ((al.take i).filter (fun u => right u)).length + 1 := ⟨_, rfl⟩
              rw [← hq'] at hrun hL' hne'
              have hrun2 : (Builtin.append_ #[22, 22] 22 #[u6, .slice (some ⟨V.heap.size, 0, none⟩) 1 1]).run Try.prog (V.alloc (.cells #[.int .u32 u.a, .int .i64 u.len, .int .u32 u.id, .int .u32 u.seq, .int .u16 u.met] 31)) = .ok (.slice (some ⟨g', 0, none⟩) q' cap') W' := hrun
              have R := Lib.hid (And.intro hLa' (And.intro (show Lv w1.heap.size (.slice (some ⟨g', 0, none⟩) q' cap') ((al.take (i + 1)).filter (fun u => right u)) W' by rw [htk, List.filter_append]; simpa [hr] using hL') (And.intro (hb.trans hb') (hne'.elim id (fun h => by cases h)))))
              have n0 : V.cell? ⟨gu, 0, none⟩ = some (.int .u32 (u.a : Nat)) := hX.at_ 0
              have n1 : V.cell? ⟨gu, 0 + 1, none⟩ = some (.int .i64 u.len) := hX.at_ 1
              have n2 : V.cell? ⟨gu, 0 + 2, none⟩ = some (.int .u32 (u.id : Nat)) := hX.at_ 2
              have n3 : V.cell? ⟨gu, 0 + 3, none⟩ = some (.int .u32 (u.seq : Nat)) := hX.at_ 3
              have n4 : V.cell? ⟨gu, 0 + 4, none⟩ = some (.int .u16 (u.met : Nat)) := hX.at_ 4
              clear hLa hLw hb hne htk hfit hX hr hwl hrun hL' hb' hap hLa' hne' hq'
              go_wp2_with (first
                | (at_builtin; refine Lib.wpList_append_run _ rfl (.tmp 47) (.tmp 49) 22 22 rfl _ _ rfl rfl _ _ hrun2 ?_)
                | fail)
              go_roundw
              case rel => exact ⟨i + 1, by rfl, by omega, R.out.1, R.out.2.1, R.out.2.2.1, R.out.2.2.2⟩
              case measure => simp only [intOf]; omega
        · obtain rfl : i = na := by omega
          obtain ⟨-, -, -, -, hfa, hal, hna⟩ := Z.out
          rw [List.take_of_length_le (by omega)] at hLw
          obtain ⟨A5, c5', hv5, hUl⟩ := hLa.ul hfa (by omega)
          simp only [Value.slice.injEq] at hv5
          obtain ⟨rfl, -, rfl⟩ := hv5
          rw [← hna] at hUl
          have hcnt := encode_count al
          obtain ⟨LL, hLd, hLf⟩ := encode_back al hfa
          have hfe := encode_fine al
          have hwf : ∀ u ∈ al.filter (fun u => right u), u.Fits := fun u hu => hfa u (List.mem_filter.1 hu).1
          have hwl : (al.filter (fun u => right u)).length ≤ 320 := Nat.le_trans (List.length_filter_le _ _) (by omega)
          obtain ⟨A6, c6, rfl, hUw⟩ := hLw.ul hwf (by omega)
          obtain ⟨nw, hnw⟩ : ∃ nw, nw = (al.filter (fun u => right u)).length := ⟨_, rfl⟩
          rw [← hnw] at hUw ⊢
          have EN := encode_any hUl
          obtain ⟨rows, hrows⟩ : ∃ rows, rows = Tm.encode al := ⟨_, rfl⟩
          rw [← hrows] at hcnt hLd hfe EN
          have RH := Lib.hid hrows
          have Y := Lib.hid (And.intro hUl (And.intro hUw (And.intro hcnt (And.intro hLd (And.intro hLf (And.intro hfe (And.intro hwf (And.intro hwl (And.intro (next V.out hb) (And.intro hnw hna))))))))))
          clear hLa hLw hb hne hfa hal hna hUl hUw hcnt hLd hLf hfe hwf hwl hnw hrows Z hi hlt V
          go_wp2_with fail
          refine EN.mono ?_
          rintro e W4 ⟨v10, rfl, hL10, hb4⟩
          clear EN
          obtain ⟨hUl, hUw, hcnt, hLd, hLf, hfe, hwf, hwl, hbb, hnw, hna⟩ := Y.out
          have LE := lencode_any (hUl.held hb4)
          rw [← RH.out] at LE
          obtain ⟨p10, cp10, rfl, -⟩ := hL10.form
          obtain ⟨nr, hnr⟩ : ∃ nr, nr = rows.length := ⟨_, rfl⟩
          rw [← hnr] at hL10 hcnt ⊢
          have hnrs : nr ≤ 321 := by omega
          have Y2 := Lib.hid (And.intro (hUw.held hb4) (And.intro hLd (And.intro hLf (And.intro hfe (And.intro hwf (And.intro hwl (And.intro (next hbb hb4) (And.intro hnw (And.intro hnr hL10)))))))))
          clear hUl hUw hcnt hLd hLf hfe hwf hwl hbb hnw hna hnr hL10 hb4 Y RH
          go_wp2_with fail
          refine LE.mono ?_
          rintro e W5 ⟨v11, rfl, hL11, hb5⟩
          clear LE
          obtain ⟨hUw, hLd, hLf, hfe, hwf, hwl, hbb, hnw, hnr, hL10⟩ := Y2.out
          obtain ⟨p11, cp11, rfl, -⟩ := hL11.form
          rw [← hnr] at hL11 ⊢
          have hLl : LL.length = nr := by have := congrArg List.length hLd; simp at this; omega
          have hL0 := Lv.empty (B := W5.heap.size) W5 (Nat.le_refl _)
          have Y3 := Lib.hid (And.intro (hUw.held hb5) (And.intro hLd (And.intro hLf (And.intro hfe (And.intro hwf (And.intro hwl (And.intro (next hbb hb5) (And.intro hnw (And.intro hnr (And.intro (hL10.held hb5) (And.intro hL11 (And.intro hLl (And.intro hL0 (below_new W5 (.cells #[] 31)))))))))))))))
          clear hUw hLd hLf hfe hwf hwl hbb hnw hnr hL10 hL11 hb5 hLl hL0 Y2
          go_wp2_with fail
          generalize W5.alloc (.cells #[] 31) = W6 at *
          go_loopw [12, 64] (fun bv kv wr => TlB W5 W6 LL nr bv kv wr) (fun _ kv _ => nr - (intOf kv).toNat)
          case atStart => exact ⟨0, rfl, by omega, Y3.out.2.2.2.2.2.2.2.2.2.2.2.2.1, Below.refl _ _⟩
          case round =>
            obtain ⟨i, rfl, hi, hLb, hb⟩ := hrel
            by_cases hlt : i < nr
            · obtain ⟨-, hLd, hLf, hfe, hwf, hwl, -, -, hnr, hL10, hL11, hLl, -, hbW⟩ := Y3.out
              have hW := hbW.trans hb
              have hszW := hW.size
              have hil : i < rows.length := by omega
              obtain ⟨gb, cpb, gi, ci, hv, k0, hO, -, -⟩ := (hL10.held hW).inplace (i := i) hil
              simp only [Value.slice.injEq] at hv
              obtain ⟨rfl, -, rfl⟩ := hv
              obtain ⟨gb2, cpb2, gi2, ci2, hv, k02, hO2, -, -⟩ := (hL11.held hW).inplace (i := i) hil
              simp only [Value.slice.injEq] at hv
              obtain ⟨rfl, -, rfl⟩ := hv
              have hp : rows.getD i [] = rows[i] := by simp [List.getD, hil]
              rw [hp] at k0 hO k02 hO2
              obtain ⟨hp4, hp1024, hpb, -⟩ := hfe rows[i] (List.getElem_mem hil)
              have hiL : i < LL.length := by omega
              have hdec : Tm.decode rows[i] = some LL[i] := by
                have : (rows.map Tm.decode)[i]? = (LL.map some)[i]? := by rw [hLd]
                simpa [hil, hiL] using this
              have hft := flat_take' hiL
              have hfl := flat_le' LL (i + 1)
              rw [hft, hLf, List.length_append] at hfl
              have hfL : ∀ u ∈ LL[i], u.Fits := fun u hu => by
                have : u ∈ LL.flatten := List.mem_flatten.2 ⟨_, List.getElem_mem hiL, hu⟩
                rw [hLf] at this
                exact hwf u this
              generalize rows[i] = P at *
              generalize LL[i] = us' at *
              have hS := hO.sl hpb (by omega)
              obtain ⟨q, hq⟩ : ∃ q, q = P.length := ⟨_, rfl⟩
              rw [← hq] at k0 k02 hS
              have D1 := decode_any hS hdec
              have q1 : IntKind.i64.wrap ((i : Int) + 1) = ((i + 1 : Nat) : Int) := by rw [IntKind.wrap_i64]; omega
              have dq : decide ((1024 : Int) < (q : Int)) = false := decide_eq_false (by omega)
              have X := Lib.hid (And.intro hO (And.intro hO2 (And.intro hpb (And.intro hq (And.intro hLb (And.intro hb (And.intro hft (And.intro hfl (And.intro hfL (And.intro hwl hp1024))))))))))
              clear hLd hLf hfe hwf hwl hnr hL10 hL11 hLl hbW hW hil hp hp4 hp1024 hpb hiL hdec hft hfl hfL hS hq hLb hb hO hO2
              go_wp2_with fail
              refine D1.mono ?_
              rintro e V ⟨hb2, hD⟩
              clear D1
              rcases hD with ⟨h, -⟩ | ⟨us2, v15, hus, rfl, hLu⟩
              · cases h
              · cases hus
                obtain ⟨hO, hO2, hpb, hq, hLb, hb, hft, hfl, hfL, hwl, hp1024⟩ := X.out
                have cv1 : ∀ x : World, (∃ k, x = V.drewN k) → (convert 35 9 (.slice (some ⟨gi, 0, none⟩) q ci)).run Try.prog x = .ok (.string ⟨(toU P).toArray⟩) x := by
                  rintro _ ⟨k, rfl⟩
                  have h1 : Ob (V.drewN k) gi ci P := (hO.held hb2).of_block rfl
                  rw [hq]
                  exact conv_str (h1.bytes hpb (by omega))
                have cv2 : ∀ x : World, (∃ k, x = V.drewN k) → (convert 35 9 (.slice (some ⟨gi2, 0, none⟩) q ci2)).run Try.prog x = .ok (.string ⟨(toU P).toArray⟩) x := by
                  rintro _ ⟨k, rfl⟩
                  have h1 : Ob (V.drewN k) gi2 ci2 P := (hO2.held hb2).of_block rfl
                  rw [hq]
                  exact conv_str (h1.bytes hpb (by omega))
                have kk := held hb2 k02
                obtain ⟨A8, c8, rfl, hU8⟩ := hLu.ul hfL (by omega)
                obtain ⟨m8, hm8⟩ : ∃ m8, m8 = us'.length := ⟨_, rfl⟩
                rw [← hm8] at hU8 ⊢
                have hszW2 := Nat.le_trans hszW hb2.size
                have X2 := Lib.hid (And.intro (hLb.held hb2) (And.intro (hb.trans (hb2.mono hszW)) (And.intro hft (And.intro hfl (And.intro hU8 (And.intro hwl hm8))))))
                clear hO hO2 hpb hq hLb hb hft hfl hfL hwl hp1024 hLu hU8 hm8 X hb2 k0 k02
                go_upto_region 28 with (fail)
                refine wp_region_quiet_lit (by kernel_rfl) (by kernel_rfl) ?_
                iterate 4 (go_big_quiet_step (fail))
                go_big_quiet_want
                refine conv_op rfl rfl cv1 ?_
                go_frame
                go_big_quiet_on
                iterate 4 (go_big_quiet_step (fail))
                go_big_quiet_want
                refine conv_op rfl rfl cv2 ?_
                go_frame
                go_big_quiet_on
                iterate 7 (go_big_quiet_step (fail))
                refine wpQuiet_nil ?_
                intro wq hw'
                obtain ⟨nq, hw''⟩ := hw'
                subst hw''
                clear cv1 cv2 kk dq
                obtain ⟨hLb, hb, hft, hfl, hU8, hwl, hm8⟩ := X2.out
                have hbd : ∀ k, Below V.heap.size V (V.drewN k) := fun k => drewN_below (Below.refl _ _) _
                have hszV := hb.size
                obtain ⟨v', W', hr, hL', hb', -⟩ := (hLb.held (hbd nq)).add' (A := A8) (c := c8) (W := V.drewN nq) (by show W5.heap.size ≤ V.heap.size; have := hb.size; have := hszW2; omega) (hU8.held (hbd nq)) (by omega) 22
                rw [← hft] at hL'
                have R := Lib.hid (And.intro hL' ((hb.trans ((hbd nq).mono (by have := hszW2; omega))).trans hb'))
                obtain ⟨p0, cp0, hv0, -⟩ := hLb.form
                clear hLb hb hft hfl hU8 hwl hm8 hbd hszV hL' hb' hv0 X2
                go_wp2_with (first
                  | (at_builtin; refine Lib.wpList_append_run _ rfl (.tmp 91) (.tmp 92) 22 22 rfl _ _ rfl rfl _ _ hr ?_)
                  | fail)
                go_roundw
                case rel => exact ⟨i + 1, by rfl, by omega, R.out.1, R.out.2⟩
                case measure => simp only [intOf]; omega
            · obtain rfl : i = nr := by omega
              obtain ⟨hUw, -, hLf, -, hwf, hwl, hbb, hnw, -, -, -, hLl, -, hbW⟩ := Y3.out
              have hW := hbW.trans hb
              rw [List.take_of_length_le (by omega), hLf] at hLb
              obtain ⟨A9, c9, rfl, hU9⟩ := hLb.ul hwf (by omega)
              rw [← hnw] at hU9 ⊢
              have SA := same_any hU9 (hUw.held (hW.mono (Nat.le_refl _)))
              rw [decide_eq_true rfl] at SA
              have HB := Lib.hid (next hbb hW)
              clear hUw hLf hwf hwl hbb hnw hLl hbW hW hLb hb hU9 Y3
              go_wp2_with fail
              refine SA.mono ?_
              rintro e V ⟨rfl, hb4⟩
              have hz := Lib.hid (next HB.out hb4)
              clear SA hb4 HB
              go_wp2_with fail
              go_ret
              exact ⟨rfl, hz.out⟩
end Go.Proofs.Ytpdbaediepofjaa
