/-
  TlvReads' walk.
-/
import Derived.Test.YtpdbaediepofjaaTlvA
namespace Go.Proofs.Ytpdbaediepofjaa
open Go.RowKit Tm

/-- Decode's answer, whatever the bytes -/
theorem decode_all {A : Option Addr} {n cap : Nat} {bs : List Nat} {w : World} (h : Sl w A n cap bs) {D : Option (List Up)} (hD : Tm.decode bs = D) :
    Calls Try.prog 12 #[.slice A n cap] w fun e w' => ∃ v, e = .returned (.tuple #[v, .bool D.isSome]) ∧ Lu w.heap.size v (D.getD []) w' ∧ Below w.heap.size w w' := by
  refine (decode_any h hD).mono ?_
  rintro e w' ⟨hb, h⟩
  rcases h with ⟨rfl, rfl⟩ | ⟨us, v, rfl, rfl, hL⟩
  · exact ⟨_, rfl, Lu.nil _ _, hb⟩
  · exact ⟨_, rfl, hL, hb⟩
theorem ldecode_all {A : Option Addr} {n cap : Nat} {bs : List Nat} {w : World} (h : Sl w A n cap bs) {D : Option (List Up)} (hD : Tm.decode bs = D) :
    Calls Try.prog 14 #[.slice A n cap] w fun e w' => ∃ v, e = .returned (.tuple #[v, .bool D.isSome]) ∧ Lv w.heap.size v (D.getD []) w' ∧ Below w.heap.size w w' := by
  refine (ldecode_any h hD).mono ?_
  rintro e w' ⟨hb, h⟩
  rcases h with ⟨rfl, rfl⟩ | ⟨us, v, rfl, rfl, hL⟩
  · exact ⟨_, rfl, ⟨rfl, .inl ⟨rfl, rfl⟩⟩, hb⟩
  · exact ⟨_, rfl, hL, hb⟩
theorem Lv.none {B : Nat} {v : Value} {us : List Up} {W : World} (h : Lv B v us W) (A : Option Addr) (c : Nat) (ty : TypeId) :
    (Builtin.append_ #[22, 22] ty #[v, .slice A 0 c]).run Try.prog W = .ok v W := by
  obtain ⟨i0, hi, hz0, hz1, hz2⟩ := info_parts infoUp
  have ht : Try.prog.underlying 22 = some (.slice 31) := by kernel_rfl
  have hl : ∀ (a : Addr) (W : World), (loadCells a 0).run Try.prog W = .ok #[] W := fun a W => by simp [loadCells, loadCellsFrom]
  have hs : ∀ (a : Addr) (W : World), (storeCells a []).run Try.prog W = .ok () W := fun a W => by simp [storeCells]
  rcases h.2 with ⟨rfl, h0⟩ | ⟨g, cap, cur, rfl, _, _, hnc, _⟩
  · cases A <;> simp [Builtin.append_, run_underlying ht, sizeOf, typeInfo, hi, Builtin.lenOf, Builtin.firstCells, hl]
  · cases A <;> simp [Builtin.append_, run_underlying ht, sizeOf, typeInfo, hi, Builtin.lenOf, Builtin.firstCells, hnc, hl, hs]
/-- behind 'append(list, news...)', where news may be none -/
theorem Lv.add {B : Nat} {v : Value} {us news : List Up} {W : World} (h : Lv B v us W) (hB : B ≤ W.heap.size) {A : Option Addr} {m c : Nat} (hx : Ul W A m c news) (hbig : us.length + m ≤ 100000) (ty : TypeId) :
    ∃ v' W', (Builtin.append_ #[22, 22] ty #[v, .slice A m c]).run Try.prog W = .ok v' W' ∧ Lv B v' (us ++ news) W' ∧ Below B W W' := by
  by_cases h0 : 0 < m
  · obtain ⟨b, off, rfl⟩ := hx.plain h0
    obtain ⟨g', cap', W', hr, hL, hg, -⟩ := h.push hB (ad := ⟨b, off, Option.none⟩) (c := c) hx.len (fun j u hu => by
      have hj : j < (news.flatMap ucl).length := (List.getElem?_eq_some_iff.1 hu).1
      rw [flat_length] at hj
      have e : j = 5 * (j / 5) + j % 5 := by omega
      have hi : j / 5 < news.length := by omega
      rw [Addr.add_mid]
      rw [e] at hu ⊢
      rw [flat_get hi (by omega)] at hu
      rw [← hu]
      exact hx.cells b off rfl (j / 5) hi (j % 5) (by omega)) h0 hbig ty
    exact ⟨_, W', hr, hL, (Below.refl B W).grown hg hB (fun k e => (h.lt e).2)⟩
  · obtain rfl : m = 0 := by omega
    have e : news = [] := List.length_eq_zero_iff.1 hx.len
    subst e
    exact ⟨v, W, h.none A c ty, by rw [List.append_nil]; exact h, .refl _ _⟩
/-- blocks of other things than what is told read as they did -/
def KeepU (W W' : World) : Prop := ∀ x t C, t ≠ 31 → Blk t W x C → Blk t W' x C
theorem KeepU.refl (W : World) : KeepU W W := fun _ _ _ _ h => h
theorem KeepU.trans {W W' W2 : World} (h : KeepU W W') (k : KeepU W' W2) : KeepU W W2 := fun x t C ht hb => k x t C ht (h x t C ht hb)
theorem KeepU.of_below {W W' : World} (h : Below W.heap.size W W') : KeepU W W' := fun _ _ _ _ hb => hb.held h
theorem Lv.addU {B : Nat} {v : Value} {us news : List Up} {W : World} (h : Lv B v us W) (hB : B ≤ W.heap.size) {A : Option Addr} {m c : Nat} (hx : Ul W A m c news) (hbig : us.length + m ≤ 100000) (ty : TypeId) :
    ∃ v' W', (Builtin.append_ #[22, 22] ty #[v, .slice A m c]).run Try.prog W = .ok v' W' ∧ Lv B v' (us ++ news) W' ∧ Below B W W' ∧ KeepU W W' := by
  by_cases h0 : 0 < m
  · obtain ⟨b, off, rfl⟩ := hx.plain h0
    obtain ⟨g', cap', W', hr, hL, hg, -⟩ := h.push hB (ad := ⟨b, off, Option.none⟩) (c := c) hx.len (fun j u hu => by
      have hj : j < (news.flatMap ucl).length := (List.getElem?_eq_some_iff.1 hu).1
      rw [flat_length] at hj
      have e : j = 5 * (j / 5) + j % 5 := by omega
      have hi : j / 5 < news.length := by omega
      rw [Addr.add_mid]
      rw [e] at hu ⊢
      rw [flat_get hi (by omega)] at hu
      rw [← hu]
      exact hx.cells b off rfl (j / 5) hi (j % 5) (by omega)) h0 hbig ty
    refine ⟨_, W', hr, hL, (Below.refl B W).grown hg hB (fun k e => (h.lt e).2), fun x t C ht hb => (hg.block x hb.lt (fun e => ?_)).trans hb⟩
    rcases h.2 with ⟨e2, _⟩ | ⟨gq, _, curq, e2, _, hq, _⟩
    · rw [e2] at e; cases e
    · rw [e2] at e
      cases e
      have e3 := hb.symm.trans hq
      cases e3
      exact ht rfl
  · obtain rfl : m = 0 := by omega
    have e : news = [] := List.length_eq_zero_iff.1 hx.len
    subst e
    exact ⟨v, W, h.none A c ty, by rw [List.append_nil]; exact h, .refl _ _, .refl _⟩
theorem Las.keepU {B : Nat} {v : Value} {rows : List (List Nat)} {W W' : World} (h : Las B v rows W) (k : KeepU W W') : Las B v rows W' := by
  obtain ⟨g, cap, h⟩ := h
  refine ⟨g, cap, h.of_block (fun b e => ?_) (fun i hi => ?_)⟩
  · rcases h.own.2 with ⟨e2, _⟩ | ⟨gq, _, curq, e2, _, hq, _⟩
    · rw [e2] at e; cases e
    · rw [e2] at e
      cases e
      exact (k _ _ _ (by decide) hq).trans hq.symm
  · obtain ⟨cur, h1, _⟩ := h.ob i hi
    exact (k _ _ _ (by decide) h1).trans h1.symm
/-- while what was told again is read -/
def RdR (B : Nat) (W : World) (LL : List (List Up)) (nr : Nat) (av kv : Value) (wr : World) : Prop :=
  ∃ i : Nat, kv = .int .i64 i ∧ i ≤ nr ∧ Lv B av (LL.take i).flatten wr ∧ Below B W wr ∧ KeepU W wr
theorem Lv.own {B : Nat} {v : Value} {us : List Up} {W : World} (h : Lv B v us W) : ∃ p cap, v = .slice p us.length cap := by
  obtain ⟨p, cap, e, -⟩ := h.form
  exact ⟨p, cap, e⟩
theorem flat_take {α : Type} {L : List (List α)} {i : Nat} (hi : i < L.length) : (L.take (i + 1)).flatten = (L.take i).flatten ++ L[i] := by
  rw [List.take_succ_eq_append_getElem hi, List.flatten_append]; simp
theorem flat_le {α : Type} (L : List (List α)) (i : Nat) : (L.take i).flatten.length ≤ L.flatten.length := by
  have : L.flatten = (L.take i).flatten ++ (L.drop i).flatten := by rw [← List.flatten_append, List.take_append_drop]
  rw [this, List.length_append]; omega

set_option maxRecDepth 100000 in
set_option maxHeartbeats 2000000 in
theorem reads_any {A : Option Addr} {n cap : Nat} {bs : List Nat} {w : World} (h : Sl w A n cap bs) :
    Calls Try.prog 4 #[.slice A n cap] w fun e w' => e = .returned (.bool true) ∧ Below w.heap.size w w' := by
  have hmx := h.bytes.2.1
  unfold maxLen at hmx
  have H := Lib.hid h
  clear h
  by_cases h1100 : n ≤ 1100
  · go_enter Try.func4, Try.ntmps4
    go_wp2_with fail
    refine (head_any _).mono ?_
    rintro e w1 ⟨rfl, hb1⟩
    obtain ⟨D, hD⟩ : ∃ D, D = Tm.decode bs := ⟨_, rfl⟩
    have DE := decode_all (H.out.held hb1) hD.symm
    have HD := Lib.hid (And.intro hD hb1)
    clear hD hb1
    go_wp2_with fail
    refine DE.mono ?_
    rintro e w2 ⟨v, rfl, hL, hb2⟩
    clear DE
    have hbb := next HD.out.2 hb2
    have LE := ldecode_all (H.out.held hbb) HD.out.1.symm
    obtain ⟨us, hus⟩ : ∃ us, us = D.getD [] := ⟨_, rfl⟩
    obtain ⟨ok, hok⟩ : ∃ ok, ok = D.isSome := ⟨_, rfl⟩
    rw [← hus] at hL
    rw [← hus, ← hok] at LE
    rw [← hok]
    have hfine : (∀ u ∈ us, right u = true ∧ u.Fits) ∧ us.length ≤ 1100 := by
      cases D with
      | none => rw [hus]; simp
      | some l =>
        have hbs := H.out.bytes.2.2.1
        have hln := H.out.bytes.1
        have e := HD.out.1.symm
        have hcl : l.length ≤ bs.length := by
          unfold Tm.decode at e
          split at e
          · have := walk_count _ _ 0 (Nat.le_refl _) l e
            rw [List.length_drop] at this; omega
          · cases e
        rw [hus]
        exact ⟨decode_fine hbs e, by simp only [Option.getD_some]; omega⟩
    obtain ⟨hri, hlen⟩ := hfine
    have hfi : ∀ u ∈ us, u.Fits := fun u hu => (hri u hu).2
    obtain ⟨A1, cap1, rfl, hU⟩ := hL.ul hfi (by omega)
    obtain ⟨n1, hn1⟩ : ∃ n1, n1 = us.length := ⟨_, rfl⟩
    rw [← hn1] at hU ⊢
    have Y := Lib.hid (And.intro hU (And.intro hbb (And.intro hri (And.intro hfi hn1))))
    clear hU hbb hri hfi hL hb2 hus hok
    have hlen1 : n1 ≤ 1100 := by omega
    clear hn1 hlen HD
    go_wp2_with fail
    refine LE.mono ?_
    rintro e w3 ⟨v', rfl, hL', hb3⟩
    clear LE
    obtain ⟨hU, hbb, hri, hfi, hn1⟩ := Y.out
    obtain ⟨A2, cap2, rfl, hU2⟩ := hL'.ul hfi (by omega)
    rw [← hn1] at hU2 ⊢
    have SA := same_any (hU.held hb3) hU2
    rw [decide_eq_true rfl] at SA
    have hbb3 := next hbb hb3
    have Y2 := Lib.hid (And.intro (hU.held hb3) (And.intro hbb3 (And.intro hri (And.intro hfi hn1))))
    clear hU hbb hri hfi hn1 hL' hU2 hb3 hbb3 Y
    have hokk : (ok != ok) = false := by cases ok <;> rfl
    go_wp2_with fail
    refine SA.mono ?_
    rintro e w4 ⟨rfl, hb4⟩
    clear SA
    obtain ⟨hU, hbb, hri, hfi, hn1⟩ := Y2.out
    have hb5 := next hb4 (below_new w4 (.cells #[] 31))
    have hL0 := Lv.empty w4 (Nat.le_refl _)
    have hU5 := hU.held hb5
    have hbb5 := next hbb hb5
    have EN := encode_any hU5
    obtain ⟨L, hLd, hLf⟩ := encode_back us hfi
    have hfil : us.filter (fun u => right u) = us := List.filter_eq_self.2 fun u hu => (hri u hu).1
    rw [hfil] at hLf
    have hfe := encode_fine us
    have hcnt := encode_count us
    generalize Tm.encode us = rows at *
    have hs5 := size_new w4 (.cells #[] 31)
    have Y3 := Lib.hid (And.intro hU5 (And.intro hbb5 (And.intro hL0 (And.intro hLd (And.intro hLf (And.intro hfe (And.intro hcnt (And.intro hn1 (And.intro hfi (And.intro hs5 (And.intro (hU.held hb4) (below_new w4 (.cells #[] 31)))))))))))))
    have Y5 := Lib.hid (next hbb hb4)
    clear hU hbb hri hfi hb4 hb5 hL0 hU5 hbb5 hLd hLf hfil hfe hcnt hn1 Y2 hokk hs5
    go_wp2_with fail
    refine EN.mono ?_
    rintro e W ⟨v, rfl, hLa, hB⟩
    clear EN
    obtain ⟨hU, hbb, hL0, hLd, hLf, hfe, hcnt, hn1, hfi, hs5, hU4, hb45⟩ := Y3.out
    obtain ⟨p, cp, rfl, hcp⟩ := hLa.form
    obtain ⟨nr, hnr⟩ : ∃ nr, nr = rows.length := ⟨_, rfl⟩
    rw [← hnr] at hcp hLa ⊢
    have hLl : L.length = nr := by have := congrArg List.length hLd; simp at this; omega
    have hnrs : nr ≤ 1101 := by omega
    have hb4W := hb45.trans (hB.mono (by omega))
    have Z := Lib.hid (And.intro hU4 (And.intro hb4W (And.intro (hL0.held hB) (And.intro hLd (And.intro hLf (And.intro hfe (And.intro hn1 (And.intro hfi (And.intro hLa (And.intro hnr (And.intro hLl (next hbb hB))))))))))))
    have hWs := hb4W.size
    clear hU hbb hL0 hLd hLf hfe hcnt hn1 hfi hLa hB Y3 hnr hLl hs5 hU4 hb45 hb4W hcp
    go_wp2_with fail
    go_loopw [7, 40] (fun a k wr => RdR w4.heap.size W L nr a k wr) (fun _ k _ => nr - (intOf k).toNat)
    case atStart => exact ⟨0, rfl, by omega, Z.out.2.2.1, Below.refl _ _, KeepU.refl _⟩
    case round =>
      obtain ⟨i, rfl, hi, hLb, hb, hkeep⟩ := hrel
      by_cases hlt : i < nr
      · obtain ⟨-, -, -, hLd, hLf, hfe, hn1, hfi, hLa, hnr, hLl, -⟩ := Z.out
        have hil : i < rows.length := by omega
        obtain ⟨gb, cpb, gi, ci, hv, k0, hO, -, -⟩ := (hLa.keepU hkeep).inplace (i := i) hil
        simp only [Value.slice.injEq] at hv
        obtain ⟨rfl, -, rfl⟩ := hv
        have hp : rows.getD i [] = rows[i] := by simp [List.getD, hil]
        rw [hp] at k0 hO
        obtain ⟨hp4, hp1024, hpb, -⟩ := hfe rows[i] (List.getElem_mem hil)
        have hiL : i < L.length := by omega
        have hdec : Tm.decode rows[i] = some L[i] := by
          have : (rows.map Tm.decode)[i]? = (L.map some)[i]? := by rw [hLd]
          simpa [hil, hiL] using this
        have hft := flat_take hiL
        have hfl := flat_le L (i + 1)
        rw [hft, hLf, List.length_append] at hfl
        have hfL : ∀ u ∈ L[i], u.Fits := fun u hu => by
          have : u ∈ L.flatten := List.mem_flatten.2 ⟨_, List.getElem_mem hiL, hu⟩
          rw [hLf] at this
          exact hfi u this
        generalize rows[i] = P at *
        generalize L[i] = us' at *
        have hS := hO.sl hpb (by omega)
        obtain ⟨q, hq⟩ : ∃ q, q = P.length := ⟨_, rfl⟩
        rw [← hq] at k0 hS
        have D1 := decode_any hS hdec
        have q1 : IntKind.i64.wrap ((i : Int) + 1) = ((i + 1 : Nat) : Int) := by rw [IntKind.wrap_i64]; omega
        have hszr := hb.size
        have X := Lib.hid (And.intro hLb (And.intro hb (And.intro hkeep (And.intro hft (And.intro hfl (And.intro hfL (And.intro hn1 hszr)))))))
        clear hLd hLf hfe hfi hn1 hnr hLa hLl hil hp hp4 hp1024 hpb hiL hdec hft hfl hfL hS hq hLb hb hO hkeep hszr
        go_wp2_with fail
        refine D1.mono ?_
        rintro e V ⟨hb2, hD⟩
        clear D1
        rcases hD with ⟨h, -⟩ | ⟨us2, v15, hus, rfl, hLu⟩
        · cases h
        · cases hus
          obtain ⟨hLb, hb, hkeep, hft, hfl, hfL, hn1, hszr⟩ := X.out
          obtain ⟨A8, c8, rfl, hU8⟩ := hLu.ul hfL (by omega)
          obtain ⟨m8, hm8⟩ : ∃ m8, m8 = us'.length := ⟨_, rfl⟩
          rw [← hm8] at hU8 ⊢
          have hVs := hb2.size
          obtain ⟨v', W', hr, hL', hb', hk'⟩ := (hLb.held hb2).addU (A := A8) (c := c8) (W := V) (by omega) hU8 (by omega) 22
          rw [← hft] at hL'
          have R := Lib.hid (And.intro hL' (And.intro ((hb.trans (hb2.mono (by omega))).trans hb') ((hkeep.trans (KeepU.of_below hb2)).trans hk')))
          obtain ⟨p0, cp0, hv0, -⟩ := hLb.form
          clear hLb hb hkeep hft hfl hfL hn1 hLu hU8 hm8 X hb2 k0 hL' hb' hk' hv0 hszr hVs
          go_wp2_with (first
            | (at_builtin; refine Lib.wpList_append_run _ rfl (.tmp 51) (.tmp 52) 22 22 rfl _ _ rfl rfl _ _ hr ?_)
            | fail)
          go_roundw
          case rel => exact ⟨i + 1, by rfl, by omega, R.out.1, R.out.2.1, R.out.2.2⟩
          case measure => simp only [intOf]; omega
      · obtain rfl : i = nr := by omega
        obtain ⟨hU4, hb4W, -, -, hLf, -, hn1, hfi, -, -, hLl, hbb⟩ := Z.out
        rw [List.take_of_length_le (by omega), hLf] at hLb
        obtain ⟨A9, c9, rfl, hU9⟩ := hLb.ul hfi (by omega)
        rw [← hn1] at hU9 ⊢
        have SA := same_any hU9 (hU4.held (hb4W.trans hb))
        rw [decide_eq_true rfl] at SA
        have HB := Lib.hid (And.intro hbb hb)
        have HW := Lib.hid hb4W
        have HA := Lib.hid Y5.out
        clear hU4 hb4W hLf hn1 hfi hLl hbb hLb hb hU9 Z hkeep
        go_wp2_with fail
        refine SA.mono ?_
        rintro e V ⟨rfl, hb4⟩
        have hz := Lib.hid (next (next HA.out (HW.out.trans HB.out.2)) hb4)
        clear SA hb4 HB HW HA
        go_wp2_with fail
        go_ret
        exact ⟨rfl, hz.out⟩
  · go_enter Try.func4, Try.ntmps4
    go_wp2_with fail
    refine (head_any _).mono ?_
    rintro e w1 ⟨rfl, hb1⟩
    have V := Lib.hid hb1
    clear hb1
    go_wp2_with fail
    go_ret
    exact ⟨rfl, V.out⟩
end Go.Proofs.Ytpdbaediepofjaa
