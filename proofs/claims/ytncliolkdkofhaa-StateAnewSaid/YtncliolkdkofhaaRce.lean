/-
  Package state: Records.
-/
import Derived.Test.YtncliolkdkofhaaRcd
import Derived.Deep.RegionLaw
namespace Go.Proofs.Ytncliolkdkofhaa
open Go.RowKit Rm
attribute [local go_sem] Oper.semAt_some

theorem enter_owns1 : ∀ args w, (callFunc 35 args).run Try.prog w = .ok (.enter 35 args) w := enters_of Try.func35 (by kernel_rfl) rfl
theorem enter_inOrdK : ∀ args w, (callFunc 48 args).run Try.prog w = .ok (.enter 48 args) w := enters_of Try.func48 (by kernel_rfl) rfl
theorem KeepT.of_below {t : TypeId} {W W' : World} (h : Below W.heap.size W W') : KeepT t W W' := fun _ _ hb => hb.held h
theorem KeepT.put {t : TypeId} (W : World) (l : Nat) (o o' : Obj) (h : W.heap[l]? = some o) (hc : o.isCells = false) : KeepT t W (W.putObj l o') := fun b C hb => by
  unfold Blk at hb ⊢
  refine (World.putObj_heap_other fun e => ?_).trans hb
  rw [e, h] at hb
  cases hb
  cases hc

/-- what Owns' iterator asks of a round -/
def KqO (L : List Nat) (A B : World) : Prop := KeepS L A B ∧ KeepT 71 A B
theorem owns_drives {W0 : World} {B1 B2 B3 n : Nat} {v : Value} {o : Option Nat} {f : Pk → Option Bool} {xs : List Pk} {es : List (ElP f)} (h : ItP W0 B1 B2 v o n f xs) (hE : EsP f xs es)
    (h3 : Blk 79 W0 B3 #[.func (.func 44) #[] #[.pointer (some ⟨B1, 0, none⟩), .pointer (some ⟨B2, 0, none⟩)]]) (W : World) (hW : Below W0.heap.size W0 W) :
    Drives Try.prog 35 #[.pointer (some ⟨B3, 0, none⟩)] arO es.length (fun ys => ys = es) (KqO (itL B1 B2 v o)) W := fun l J hJ hY h0 => by
  refine (callsIn_wide.1 (owns1 (h.held hW) hE (h3.held hW) (.loop l) J (fun _ _ => False) hJ (fun _ _ _ _ h _ _ => h) (fun pre x W1 hj hs hl => ?_) h0 0)).mono ?_
  · refine Fv.At.mono (R := _) (hY pre x W1 hj hs hl) ?_
    rintro e W' ⟨rfl, h1, h2, h3⟩
    refine ⟨true, rfl, h1, ?_⟩
    rw [if_pos rfl]
    exact ⟨h2, h3.1, h3.2⟩
  · rintro e W' ⟨h1, h2 | ⟨_, h2⟩⟩
    · exact ⟨h1, es, rfl, h2⟩
    · exact h2.elim

/-- an append whose run is known, as a step of a region that draws -/
theorem step_append_run {P : Program} {ops : Array Oper} {o : Oper} {a : Act} {w : World} {K : Act → World → Prop} {Q : Exit → Act → World → Prop} {E : Prop} (hgd : o.guard = none) (s x : Operand) (t : TypeId)
    (ho : o.op = .call { callee := .builtin .append, args := #[s, x], argTypes := #[t, t] }) (v xv v' : Value) (w0 w' : World) (hw0 : w = w0) (hs : a.eval s = v) (hx : a.eval x = xv)
    (hr : (Builtin.append_ #[t, t] o.type #[v, xv]).run P w0 = .ok v' w') (h : K (a.put o.dst v') w') : if Region.wanted o (yielded ops a.tmps) = true then Oper.wp P o a w K Q else E := by
  have hw : Region.wanted o (yielded ops a.tmps) = true := by simp [Region.wanted, hgd]
  rw [if_pos hw]
  subst hw0
  unfold Oper.wp execOp
  simp only [ho, resolve, invoke, builtin, Sem.run_bind, Sem.run_pure, Result.andThen_ok, List.map_toArray, List.map_cons, List.map_nil, hs, hx, hr]
  exact h

set_option maxRecDepth 100000 in
set_option maxHeartbeats 4000000 in
theorem records_any {w : World} {d : Nat} {o fl : Option Nat} {id N : Nat} {S : Sm} (h : Notes w d o fl id N S) :
    Calls Try.prog 14 #[.pointer (some ⟨d, 0, none⟩)] w fun e w' => ∃ v xs ys, ∃ es : List (ElP S.own), ∃ fs : List (ElK S.floor), e = .returned v ∧
      EsP S.own xs es ∧ xs.Pairwise ltP ∧ (∀ x, x ∈ xs ↔ x.ok ∧ (S.own x).isSome = true) ∧ EsK S.floor ys fs ∧ ys.Pairwise ltK ∧ (∀ x, x ∈ ys ↔ x.ok ∧ (S.floor x).isSome = true) ∧
      w'.ownsRow w.heap.size 37 9 v (es.map rO ++ rL S.lease ++ fs.map rF).length ((es.map rO ++ rL S.lease ++ fs.map rF).flatMap rcells) ∧ (v = .slice none 0 0 ↔ es.map rO ++ rL S.lease ++ fs.map rF = []) ∧ Below w.heap.size w w' := by
  obtain ⟨n, m, -, hS⟩ := h
  obtain ⟨i0, hi, hz0, hz1, hz2⟩ := info_parts infoRec
  have hb1 := below_new w (.cells #[.slice none 0 0] 23)
  have hz := size_new w (.cells #[.slice none 0 0] 23)
  have hBx := Boxed.new w 23 (.slice none 0 0)
  have HO := owns_any (hS.held hb1)
  have dl := hS.head.lt
  refine (callsIn_wide (n := 9)).1 ?_
  refine callsIn_of_wp_marks Try.func14 rfl trivial ?_ rfl
  simp only [Try.ntmps14, List.size_toArray, List.length_cons, List.length_nil, Nat.reduceAdd, Nat.reduceSub, Array.replicate_succ, Array.replicate_zero, List.push_toArray, List.append_toArray, List.nil_append, List.cons_append]
  have HI := Lib.hid (And.intro hi (And.intro hz0 (And.intro hz1 hz2)))
  have HS := Lib.hid hS
  clear hi hz0 hz1 hz2 hS
  gi_wp2
  refine ⟨trivial, (callsIn_any HO).mono ?_⟩
  rintro e w2 ⟨B1, B2, B3, v1, o1, xs, rfl, hI, h3, hfr, hB3, hB⟩
  clear HO
  gi_wp2
  generalize w.alloc (.cells #[.slice none 0 0] 23) = w1 at *
  have hsz2 := hB.size
  obtain ⟨es, hE⟩ := esP_ex (f := S.own) (fun _ _ _ => rfl) xs (fun x hx => (hI.mem x).1 hx)
  have hlenE : es.length ≤ 100000 := by
    have : es.length = xs.length := by rw [← show es.map (·.key) = xs from hE]; simp
    have := hI.len
    omega
  have hL1 : Lst w w.heap.size w.heap.size w1.heap.size w2.heap.size [] w2 := by
    refine ⟨⟨.slice none 0 0, (hB.block _ (by omega)).trans hBx, World.ownsRow_nil _ _ _ _, by simp, fun b hb => by cases hb⟩, next hb1 hB, Nat.le_refl _⟩
  have h1w : w.heap.size ≤ w.heap.size := Nat.le_refl _
  refine loop_all (α := ElP S.own) rfl enter_owns1 (owns_drives hI hE h3) (fun _ => rfl) (fun h k => ⟨h.1.trans k.1, fun b C hb => k.2 b C (h.2 b C hb)⟩) (fun W l o o' hl h hc hw => ⟨keepS_put hI.lt W l o o' hl h hc hw, KeepT.put W l o o' h hc⟩)
    (fun pre W => Lst w w.heap.size w.heap.size w1.heap.size w2.heap.size (pre.map rO) W) (lst_own _ h1w (by omega)) hL1
    (fun x a' W => ∃ Bx, Blk 32 W Bx #[.int .u32 x.key.a, .int .i64 x.key.n] ∧ a' = { tmps := #[.pointer (some ⟨d, 0, none⟩), undef, .slice none 0 0, .pointer (some ⟨w.heap.size, 0, none⟩), .pointer (some ⟨Bx, 0, none⟩), .bool x.val, undef, undef, .pointer (some ⟨d, 0, none⟩), .func (.func 35) #[] #[.pointer (some ⟨B3, 0, none⟩)], .agg #[.int .u32 x.key.a, .int .i64 x.key.n], .bool x.val, undef, undef, undef, undef, undef, undef, undef, undef, undef, undef, undef, undef, undef, undef, undef, undef, undef, undef, undef, undef, undef, undef, undef, undef, undef, undef, undef, undef, undef, undef, undef, undef, undef, undef], defers := [] })
    ?_ ?assign ?body ?done
  · rintro x a' s W W' row ⟨Bx, hp, rfl⟩ hg hr
    exact ⟨Bx, hp.grown hg hr, rfl⟩
  case assign =>
    rintro l pre ⟨⟨xa, xn⟩, y, hok, hfit, hhas⟩ W K hL hK
    have hb := below_new W (.cells #[.int .u32 xa, .int .i64 xn] 32)
    have hl := hL.2.2
    simp only [arO, clP]
    gi_wp2
    exact hK _ _ (keepsFrom_below _ hb) ⟨.of_below (fun b hb' => Nat.lt_of_lt_of_le (hI.lt b hb') hl) hb, .of_below hb⟩ (hL.alloc h1w _) ⟨_, Blk.new _ _ _, rfl⟩
  case body =>
    rintro l pre ⟨⟨xa, xn⟩, y, hok, hfit, hhas⟩ a' W ⟨⟨v, hv, hrow, hnil, ho⟩, hBl, hF⟩ ⟨Bx, hp, rfl⟩ hlt
    have cB := hv.cell
    have p0 := hp.at_ 0
    have p1 := hp.at_ 1
    have hle := hBl.size
    obtain ⟨hi, hz0, hz1, hz2⟩ := HI.out
    have hrl : (pre.map rO).length = pre.length := by simp
    gi_wp2_with (first
      | (gi_at_builtin; go_loud (refine wpListIn_append_own_at _ rfl _ _ 23 rfl w.heap.size 37 i0 _ 9 56 Try.underlying23 hi hz0 hz1 hz2 rfl (by decide) _ _ _ rfl (hrow.alloc _) ⟨W.heap.size, 0, none⟩ 1 1 (rcells (rO ⟨⟨xa, xn⟩, y, hok, hfit, hhas⟩)) rfl rfl (fun j u hj => (new_at _ _ _ j).trans (by rw [← hj]; simp [rcells, rcl, rO])) (by simp [Value.oneCell', rcells, rcl, rO]) (by unfold maxLen; omega) (by omega) (by simp; omega) ?_)
         intro v' w3 hown' hgrow _ hat
         obtain ⟨g', cap', rfl⟩ := ownsRow_succ hown'
         obtain ⟨hv1, hl2, hk2, hb2, hoth⟩ := Lst.push h1w (Nat.le_refl _) hv hrow ho hBl hF hown' hgrow hat
         have hc1 := hv1.cell
         have hf1 := hv1.frozen)
      | gi_in)
    rw [hrl] at hl2 hk2 hoth
    refine ⟨hk2.from _, ⟨⟨fun b hb => ?_, hk2.size⟩, fun b C hb => ?_⟩, ?_⟩
    · have hb1 := hfr b hb
      have hb2 := hI.lt b hb
      refine hoth b (by omega) (by omega) fun e => ?_
      rcases ho b e.symm with h | h <;> omega
    · exact (hoth b hb.lt (fun e => by subst e; exact hb.ne (show Blk 23 W w.heap.size #[v] from hv) (by decide) rfl) (row_other hrow hb (by decide))).trans hb
    · rw [hz] at hl2
      exact hl2
  case done =>
    rintro D es' W hD rfl hL hK
    have hSW := HS.out.held hL.2.1
    have hDW : D < W.heap.size := (Array.getElem?_eq_some_iff.1 hK).1
    have c1 := hSW.head.at_ 1
    have HF := floors_any hSW
    have hDw : w.heap.size ≤ D := by omega
    have HE := Lib.hid (And.intro hE (And.intro hI.srt hI.mem))
    have hk := hI.len
    have hSWx := hSW
    clear hI h3 hfr hB3 hB hL1 hSW hb1 hBx hE
    by_cases hls : S.lease = 0
    · have hlb : ((S.lease : Int) != 0) = false := by rw [hls]; rfl
      have hrs : es'.map rO ++ rL S.lease = es'.map rO := by unfold rL; rw [if_pos hls]; simp
      have HL := Lib.hid hrs
      have HLS := Lib.hid hls
      clear hls
      gi_wp2
      have hL0 := hL
      have hKW := hK
      have hrs1 : (es'.map rO).length ≤ 100001 := by rw [List.length_map]; omega
      refine ⟨trivial, (callsIn_any HF).mono ?_⟩
      rintro e w4 ⟨C1, C2, v2, o2, ys, rfl, hI2, hfr2, hB2⟩
      clear HF
      gi_wp2
      have hsz4 := hB2.size
      obtain ⟨fs, hE2⟩ := esK_ex (f := S.floor) HS.out.small ys (fun x hx => (hI2.mem x).1 hx)
      have hlenF : fs.length ≤ 100000 := by
        have : fs.length = ys.length := by rw [← show fs.map (·.key) = ys from hE2]; simp
        have := hI2.len
        omega
      have hL4 : Lst w w.heap.size w.heap.size W.heap.size w4.heap.size (es'.map rO ++ ([] : List (ElK S.floor)).map rF) w4 := by
        have := hL0.rebase hB2 h1w
        simpa using this
      have hD4 : w4.heap[D]? = some (.deferred (some [])) := (hB2.block D hDW).trans hKW
      refine wpIn_rangeFunc_ownH (α := ElK S.floor) rfl (by omega) (gf := 48) (lb := #[.pointer (some ⟨C1, 0, none⟩), .pointer (some ⟨C2, 0, none⟩)]) rfl trivial enter_inOrdK (inOrdK_stops hI2 hE2 8) KeepS.trans (keepS_put hI2.lt) (Below.refl _ _) (fun _ => rfl)
        (fun pre V9 => Lst w w.heap.size w.heap.size W.heap.size w4.heap.size (es'.map rO ++ pre.map rF) V9 ∧ V9.heap[D]? = some (.deferred (some [])))
        (fun _ _ _ => False)
        (OwnFrom.and (lst_own (B' := w4.heap.size) _ h1w (by omega)) (fun _ _ _ _ h hg hr => grown_block hg hr (by omega) h))
        (fun _ _ _ _ _ h _ _ => h) ⟨hL4, hD4⟩
        (fun x a' V8 => ∃ Bk Bd, Blk 45 V8 Bk #[.int .u32 x.key.a, .int .i64 x.key.n, .int .u32 x.key.id] ∧ Blk 35 V8 Bd #[.int .u32 x.val.1, .int .u16 x.val.2] ∧ a' = { tmps := #[.pointer (some ⟨d, 0, none⟩), undef, .slice none 0 0, .pointer (some ⟨w.heap.size, 0, none⟩), undef, undef, .pointer (some ⟨Bk, 0, none⟩), .pointer (some ⟨Bd, 0, none⟩), .pointer (some ⟨d, 0, none⟩), .func (.func 35) #[] #[.pointer (some ⟨B3, 0, none⟩)], undef, undef, undef, undef, undef, undef, undef, undef, .pointer (some ⟨d, 0, none⟩), .pointer (some ⟨d, 0, none⟩), .pointer (some ⟨d, 1, none⟩), .int .u32 S.lease, .bool false, undef, undef, undef, undef, undef, undef, undef, undef, undef, .pointer (some ⟨d, 0, none⟩), .func (.func 48) #[] #[.pointer (some ⟨C1, 0, none⟩), .pointer (some ⟨C2, 0, none⟩)], .agg #[.int .u32 x.key.a, .int .i64 x.key.n, .int .u32 x.key.id], .agg #[.int .u32 x.val.1, .int .u16 x.val.2], undef, undef, undef, undef, undef, undef, undef, undef, undef, undef], defers := [] })
        ?_ ?assign ?body ?done ?stop
      · rintro x a' s W1 W2 row ⟨Bk, Bd, hp, hd, rfl⟩ hg hr
        exact ⟨Bk, Bd, hp.grown hg hr, hd.grown hg hr, rfl⟩
      case assign =>
        rintro l pre ⟨⟨xa, xn, xi⟩, ⟨s, y⟩, hok, hfit, hhas⟩ W1 K ⟨hL, hd⟩ hK
        have hP := (Blk.new W1 45 #[.int .u32 xa, .int .i64 xn, .int .u32 xi]).more (.cells #[.int .u32 s, .int .u16 y] 35)
        have hO := Blk.new (W1.alloc (.cells #[.int .u32 xa, .int .i64 xn, .int .u32 xi] 45)) 35 #[.int .u32 s, .int .u16 y]
        rw [size_new] at hO
        have hbb := next (below_new W1 (.cells #[.int .u32 xa, .int .i64 xn, .int .u32 xi] 45)) (below_new (W1.alloc (.cells #[.int .u32 xa, .int .i64 xn, .int .u32 xi] 45)) (.cells #[.int .u32 s, .int .u16 y] 35))
        have hl := hL.2.2
        have hdl : D < W1.heap.size := (Array.getElem?_eq_some_iff.1 hd).1
        have hL2 := hL.held hbb h1w
        have hd2 := (hbb.block D hdl).trans hd
        simp only [arK, clK, dV]
        gi_wp2
        exact hK _ _ (keepsFrom_below _ hbb) (.of_below (fun b hb' => Nat.lt_of_lt_of_le (hI2.lt b hb') hl) hbb) ⟨hL2, hd2⟩ ⟨_, _, hP, hO, rfl⟩
      case body =>
        rintro l pre ⟨⟨xa, xn, xi⟩, ⟨s, y⟩, hok, hfit, hhas⟩ a' W1 _ _ ⟨⟨⟨v, hv, hrow, hnil, ho⟩, hBl, hF⟩, hd⟩ ⟨Bk, Bd, hp, hdd, rfl⟩ hlt
        have cB := hv.cell
        have p0 := hp.at_ 0
        have p1 := hp.at_ 1
        have p2 := hp.at_ 2
        have d0 := hdd.at_ 0
        have d1 := hdd.at_ 1
        have hle := hBl.size
        obtain ⟨hi, hz0, hz1, hz2⟩ := HI.out
        have hrl : (es'.map rO ++ pre.map rF).length ≤ 300000 := by
          have h1 : (es'.map rO).length ≤ 100001 := hrs1
          have h2 : (pre.map rF).length = pre.length := by simp
          rw [List.length_append, h2]
          omega
        generalize hR : es'.map rO ++ pre.map rF = R at *
        gi_wp2_with (first
          | (gi_at_builtin; refine wpListIn_append_own_at _ rfl _ _ 23 rfl w.heap.size 37 i0 _ 9 56 Try.underlying23 hi hz0 hz1 hz2 rfl (by decide) _ _ _ rfl (hrow.alloc _) ⟨W1.heap.size, 0, none⟩ 1 1 (rcells (rF ⟨⟨xa, xn, xi⟩, (s, y), hok, hfit, hhas⟩)) rfl rfl (fun j u hj => (new_at _ _ _ j).trans (by rw [← hj]; simp [rcells, rcl, rF])) (by simp [Value.oneCell', rcells, rcl, rF]) (by unfold maxLen; omega) (by omega) (by simp; omega) ?_
             intro v' w3 hown' hgrow _ hat
             obtain ⟨g', cap', rfl⟩ := ownsRow_succ hown'
             obtain ⟨hv1, hl2, hk2, hb2, hoth⟩ := Lst.push h1w (Nat.le_refl _) hv hrow ho hBl hF hown' hgrow hat
             have hc1 := hv1.cell
             have hf1 := hv1.frozen)
          | gi_in)
        refine ⟨hk2.from _, ⟨fun b hb => ?_, hk2.size⟩, ?_, ?_⟩
        · have hb1 := hfr2 b hb
          have hb2 := hI2.lt b hb
          refine hoth b (by omega) (by omega) fun e => ?_
          rcases ho b e.symm with h | h <;> omega
        · have h3 := hl2
          generalize w3.setCell ⟨w.heap.size, 0, none⟩ (.slice (some ⟨g', 0, none⟩) (R.length + 1) cap') = V7 at h3 ⊢
          rw [← hR] at h3
          simpa [rF] using h3
        · exact hk2.same _ _ hd rfl
      case done =>
        rintro D2 fs' W2 hD2 rfl ⟨⟨⟨v, hv, hrow, hnil, ho⟩, hBl, hF⟩, hd⟩ hK2
        have cB := hv.cell
        have hBw := hBl
        obtain ⟨hE, hsrt, hmem⟩ := HE.out
        have hsrt2 := hI2.srt
        have hmem2 := hI2.mem
        have hDD : D ≠ D2 := by omega
        have hd3 : (W2.putObj D2 (.deferred none)).heap[D]? = some (.deferred (some [])) := (World.putObj_heap_other hDD).trans hd
        clear hI2 hfr2 hB2 hL4 hD4
        gi_wp2
        refine ⟨by simp, .inl ⟨_, _, rfl, run_takeDeferred hK2, by simp, .inl ⟨_, _, rfl, run_takeDeferred hd3, ?_⟩⟩⟩
        have h3 := ownsRow_putObj (ownsRow_putObj hrow (.deferred none) hK2 rfl) (.deferred none) hd3 rfl
        refine ⟨_, results_tmp rfl _ _ _, v, xs, ys, es', fs', rfl, hE, hsrt, hmem, hE2, hsrt2, hmem2, ?_, ?_, (hBw.grown (grownBy_putObj' _ _ _) hBw.size (fun k e => by cases e; omega)).grown (grownBy_putObj' _ _ _) (by rw [World.putObj_size]; exact hBw.size) (fun k e => by cases e; omega)⟩
        · rw [HL.out]; exact h3
        · rw [HL.out]; exact hnil
      case stop =>
        rintro D2 c pre W2 _ _ h _
        exact h.elim
    · have hlb : ((S.lease : Int) != 0) = true := by simp [hls]
      have hrs : es'.map rO ++ rL S.lease = es'.map rO ++ [⟨3, 0, 0, 0, 0, 0, false, S.lease, 0⟩] := by unfold rL; rw [if_neg hls]
      have HL := Lib.hid hrs
      have HLS := Lib.hid hls
      clear hls hrs
      have hdB := hK
      obtain ⟨⟨v, hv, hrow, hnil, ho⟩, hBl, hF⟩ := hL.drew h1w
      have HSW := Lib.hid hSWx
      have hle := hBl.size
      obtain ⟨hi, hz0, hz1, hz2⟩ := HI.out
      have hlen : (es'.map rO).length ≤ 100000 := by rw [List.length_map]; exact hlenE
      have hRL := hL
      generalize hR0 : es'.map rO = R at *
      have HR := Lib.hid hR0
      clear hR0
      obtain ⟨v', w3, hrun, hown', hgrow, -, hat⟩ := run_append_own_at (P := Try.prog) (W.drew.alloc (.cells #[.int .i64 3, .int .u32 0, .int .u32 0, .int .u32 0, .int .u32 0, .int .i64 0, .bool false, .int .u32 S.lease, .int .u16 0] 37)) w.heap.size 23 23 37 i0 _ 9 56 Try.underlying23 hi hz0 hz1 hz2 rfl (by decide) v _ _ (hrow.alloc _) ⟨W.heap.size, 0, none⟩ 1 1 (rcells ⟨3, 0, 0, 0, 0, 0, false, S.lease, 0⟩) rfl
        (fun j u hj => (new_at W.drew _ _ j).trans (by rw [← hj]; simp [rcells, rcl])) (by simp [Value.oneCell', rcells, rcl]) (by unfold maxLen; omega) (by omega) (by simp; omega)
      obtain ⟨g', cap', rfl⟩ := ownsRow_succ hown'
      obtain ⟨hv1, hl2, hk2, hb2, hoth⟩ := Lst.push (r := ⟨3, 0, 0, 0, 0, 0, false, S.lease, 0⟩) h1w (Nat.le_refl _) hv hrow ho hBl hF hown' hgrow hat
      have hrun1 : (Builtin.append_ #[23, 23] 23 #[v, .slice (some ⟨W.heap.size, 0, none⟩) 1 1]).run Try.prog (W.alloc (.cells #[.int .i64 3, .int .u32 0, .int .u32 0, .int .u32 0, .int .u32 0, .int .i64 0, .bool false, .int .u32 S.lease, .int .u16 0] 37)).drew = .ok (.slice (some ⟨g', 0, none⟩) (R.length + 1) cap') w3 := hrun
      have hc1 := hv1.cell
      have hf1 := hv1.frozen
      have cB0 : W.cell? ⟨w.heap.size, 0, none⟩ = some v := hv.cell
      have cB1 : W.drew.cell? ⟨w.heap.size, 0, none⟩ = some v := hv.cell
      have hBlt : w.heap.size < W.heap.size := hv.lt
      have cB2 := held (below_new W.drew (.cells #[.int .i64 3, .int .u32 0, .int .u32 0, .int .u32 0, .int .u32 0, .int .i64 0, .bool false, .int .u32 S.lease, .int .u16 0] 37)) cB1
      have cB3 : (W.alloc (.cells #[.int .i64 3, .int .u32 0, .int .u32 0, .int .u32 0, .int .u32 0, .int .i64 0, .bool false, .int .u32 S.lease, .int .u16 0] 37)).drew.cell? ⟨w.heap.size, 0, none⟩ = some v := cB2
      have c2 : W.drew.cell? ⟨d, 1, none⟩ = _ := c1
      have c3 := held (below_new W.drew (.cells #[.int .i64 3, .int .u32 0, .int .u32 0, .int .u32 0, .int .u32 0, .int .i64 0, .bool false, .int .u32 S.lease, .int .u16 0] 37)) c2
      gi_wp2_with (fail)
      refine wpIn_wide.2 ?_
      refine wp_mono (Q := fun e a' w' => match e with | .normal => a' = { tmps := #[.pointer (some ⟨d, 0, none⟩), undef, .slice none 0 0, .pointer (some ⟨w.heap.size, 0, none⟩), undef, undef, undef, undef, .pointer (some ⟨d, 0, none⟩), .func (.func 35) #[] #[.pointer (some ⟨B3, 0, none⟩)], undef, undef, undef, undef, undef, undef, undef, undef, .pointer (some ⟨d, 0, none⟩), .pointer (some ⟨d, 0, none⟩), .pointer (some ⟨d, 1, none⟩), .int .u32 S.lease, .bool true, v, .pointer (some ⟨d, 0, none⟩), .pointer (some ⟨d, 0, none⟩), .pointer (some ⟨d, 1, none⟩), .int .u32 S.lease, .agg #[.int .u32 S.lease, .int .u16 0], .agg #[.int .i64 3, .int .u32 0, .int .u32 0, .int .u32 0, .int .u32 0, .int .i64 0, .bool false, .int .u32 S.lease, .int .u16 0], .slice (some ⟨W.heap.size, 0, none⟩) 1 1, (.slice (some ⟨g', 0, none⟩) (R.length + 1) cap'), undef, undef, undef, undef, undef, undef, undef, undef, undef, undef, undef, undef, undef, undef], defers := [{ target := .collected D, args := #[] }] } ∧ w' = w3.setCell ⟨w.heap.size, 0, none⟩ (.slice (some ⟨g', 0, none⟩) (R.length + 1) cap') | _ => False) ?_ ?_
      · go_region_law (refine step_append_run rfl _ _ _ rfl _ _ _ _ _ ?_ ?_ ?_ hrun ?_ <;> first | rfl | skip)
        all_goals exact ⟨rfl, rfl⟩
      rintro e a' w' he
      have he2 : e = .normal := by cases e <;> first | rfl | exact he.elim
      subst he2
      obtain ⟨rfl, rfl⟩ := he
      generalize w3.setCell ⟨w.heap.size, 0, none⟩ (.slice (some ⟨g', 0, none⟩) (R.length + 1) cap') = W5 at *
      have hKW : W5.heap[D]? = some (.deferred (some [])) := hk2.same _ _ hdB rfl
      have hL0 := hl2
      clear hK hDW c1 HF hrun hrun1 hown' hgrow hat hv1 hc1 hf1 cB0 cB1 cB2 cB3 c2 c3 hrow hv ho hnil hBl hF hk2 hb2 hoth hl2 hdB hle HSW hSWx hL hRL
      have hDW : D < W5.heap.size := (Array.getElem?_eq_some_iff.1 hKW).1
      have HF := floors_any (HS.out.held hL0.2.1)
      have hrs1 : (R ++ [(⟨3, 0, 0, 0, 0, 0, false, S.lease, 0⟩ : Rc)]).length ≤ 100001 := by rw [List.length_append]; simp; omega
      gi_wp2
      refine ⟨trivial, (callsIn_any HF).mono ?_⟩
      rintro e w4 ⟨C1, C2, v2, o2, ys, rfl, hI2, hfr2, hB2⟩
      clear HF
      gi_wp2
      have hsz4 := hB2.size
      obtain ⟨fs, hE2⟩ := esK_ex (f := S.floor) HS.out.small ys (fun x hx => (hI2.mem x).1 hx)
      have hlenF : fs.length ≤ 100000 := by
        have : fs.length = ys.length := by rw [← show fs.map (·.key) = ys from hE2]; simp
        have := hI2.len
        omega
      have hL4 : Lst w w.heap.size w.heap.size W5.heap.size w4.heap.size ((R ++ [(⟨3, 0, 0, 0, 0, 0, false, S.lease, 0⟩ : Rc)]) ++ ([] : List (ElK S.floor)).map rF) w4 := by
        have := hL0.rebase hB2 h1w
        simpa using this
      have hD4 : w4.heap[D]? = some (.deferred (some [])) := (hB2.block D hDW).trans hKW
      refine wpIn_rangeFunc_ownH (α := ElK S.floor) rfl (by omega) (gf := 48) (lb := #[.pointer (some ⟨C1, 0, none⟩), .pointer (some ⟨C2, 0, none⟩)]) rfl trivial enter_inOrdK (inOrdK_stops hI2 hE2 8) KeepS.trans (keepS_put hI2.lt) (Below.refl _ _) (fun _ => rfl)
        (fun pre V9 => Lst w w.heap.size w.heap.size W5.heap.size w4.heap.size ((R ++ [(⟨3, 0, 0, 0, 0, 0, false, S.lease, 0⟩ : Rc)]) ++ pre.map rF) V9 ∧ V9.heap[D]? = some (.deferred (some [])))
        (fun _ _ _ => False)
        (OwnFrom.and (lst_own (B' := w4.heap.size) _ h1w (by omega)) (fun _ _ _ _ h hg hr => grown_block hg hr (by omega) h))
        (fun _ _ _ _ _ h _ _ => h) ⟨hL4, hD4⟩
        (fun x a' V8 => ∃ Bk Bd, Blk 45 V8 Bk #[.int .u32 x.key.a, .int .i64 x.key.n, .int .u32 x.key.id] ∧ Blk 35 V8 Bd #[.int .u32 x.val.1, .int .u16 x.val.2] ∧ a' = { tmps := #[.pointer (some ⟨d, 0, none⟩), undef, .slice none 0 0, .pointer (some ⟨w.heap.size, 0, none⟩), undef, undef, .pointer (some ⟨Bk, 0, none⟩), .pointer (some ⟨Bd, 0, none⟩), .pointer (some ⟨d, 0, none⟩), .func (.func 35) #[] #[.pointer (some ⟨B3, 0, none⟩)], undef, undef, undef, undef, undef, undef, undef, undef, .pointer (some ⟨d, 0, none⟩), .pointer (some ⟨d, 0, none⟩), .pointer (some ⟨d, 1, none⟩), .int .u32 S.lease, .bool true, v, .pointer (some ⟨d, 0, none⟩), .pointer (some ⟨d, 0, none⟩), .pointer (some ⟨d, 1, none⟩), .int .u32 S.lease, .agg #[.int .u32 S.lease, .int .u16 0], .agg #[.int .i64 3, .int .u32 0, .int .u32 0, .int .u32 0, .int .u32 0, .int .i64 0, .bool false, .int .u32 S.lease, .int .u16 0], .slice (some ⟨W.heap.size, 0, none⟩) 1 1, (.slice (some ⟨g', 0, none⟩) (R.length + 1) cap'), .pointer (some ⟨d, 0, none⟩), .func (.func 48) #[] #[.pointer (some ⟨C1, 0, none⟩), .pointer (some ⟨C2, 0, none⟩)], .agg #[.int .u32 x.key.a, .int .i64 x.key.n, .int .u32 x.key.id], .agg #[.int .u32 x.val.1, .int .u16 x.val.2], undef, undef, undef, undef, undef, undef, undef, undef, undef, undef], defers := [] })
        ?_ ?assign ?body ?done ?stop
      · rintro x a' s W1 W2 row ⟨Bk, Bd, hp, hd, rfl⟩ hg hr
        exact ⟨Bk, Bd, hp.grown hg hr, hd.grown hg hr, rfl⟩
      case assign =>
        rintro l pre ⟨⟨xa, xn, xi⟩, ⟨s, y⟩, hok, hfit, hhas⟩ W1 K ⟨hL, hd⟩ hK
        have hP := (Blk.new W1 45 #[.int .u32 xa, .int .i64 xn, .int .u32 xi]).more (.cells #[.int .u32 s, .int .u16 y] 35)
        have hO := Blk.new (W1.alloc (.cells #[.int .u32 xa, .int .i64 xn, .int .u32 xi] 45)) 35 #[.int .u32 s, .int .u16 y]
        rw [size_new] at hO
        have hbb := next (below_new W1 (.cells #[.int .u32 xa, .int .i64 xn, .int .u32 xi] 45)) (below_new (W1.alloc (.cells #[.int .u32 xa, .int .i64 xn, .int .u32 xi] 45)) (.cells #[.int .u32 s, .int .u16 y] 35))
        have hl := hL.2.2
        have hdl : D < W1.heap.size := (Array.getElem?_eq_some_iff.1 hd).1
        have hL2 := hL.held hbb h1w
        have hd2 := (hbb.block D hdl).trans hd
        simp only [arK, clK, dV]
        gi_wp2
        exact hK _ _ (keepsFrom_below _ hbb) (.of_below (fun b hb' => Nat.lt_of_lt_of_le (hI2.lt b hb') hl) hbb) ⟨hL2, hd2⟩ ⟨_, _, hP, hO, rfl⟩
      case body =>
        rintro l pre ⟨⟨xa, xn, xi⟩, ⟨s, y⟩, hok, hfit, hhas⟩ a' W1 _ _ ⟨⟨⟨v, hv, hrow, hnil, ho⟩, hBl, hF⟩, hd⟩ ⟨Bk, Bd, hp, hdd, rfl⟩ hlt
        have cB := hv.cell
        have p0 := hp.at_ 0
        have p1 := hp.at_ 1
        have p2 := hp.at_ 2
        have d0 := hdd.at_ 0
        have d1 := hdd.at_ 1
        have hle := hBl.size
        obtain ⟨hi, hz0, hz1, hz2⟩ := HI.out
        have hrl : ((R ++ [(⟨3, 0, 0, 0, 0, 0, false, S.lease, 0⟩ : Rc)]) ++ pre.map rF).length ≤ 300000 := by
          have h1 : ((R ++ [(⟨3, 0, 0, 0, 0, 0, false, S.lease, 0⟩ : Rc)])).length ≤ 100001 := hrs1
          have h2 : (pre.map rF).length = pre.length := by simp
          rw [List.length_append, h2]
          omega
        generalize hR : (R ++ [(⟨3, 0, 0, 0, 0, 0, false, S.lease, 0⟩ : Rc)]) ++ pre.map rF = R at *
        gi_wp2_with (first
          | (gi_at_builtin; refine wpListIn_append_own_at _ rfl _ _ 23 rfl w.heap.size 37 i0 _ 9 56 Try.underlying23 hi hz0 hz1 hz2 rfl (by decide) _ _ _ rfl (hrow.alloc _) ⟨W1.heap.size, 0, none⟩ 1 1 (rcells (rF ⟨⟨xa, xn, xi⟩, (s, y), hok, hfit, hhas⟩)) rfl rfl (fun j u hj => (new_at _ _ _ j).trans (by rw [← hj]; simp [rcells, rcl, rF])) (by simp [Value.oneCell', rcells, rcl, rF]) (by unfold maxLen; omega) (by omega) (by simp; omega) ?_
             intro v' w3 hown' hgrow _ hat
             obtain ⟨g', cap', rfl⟩ := ownsRow_succ hown'
             obtain ⟨hv1, hl2, hk2, hb2, hoth⟩ := Lst.push h1w (Nat.le_refl _) hv hrow ho hBl hF hown' hgrow hat
             have hc1 := hv1.cell
             have hf1 := hv1.frozen)
          | gi_in)
        refine ⟨hk2.from _, ⟨fun b hb => ?_, hk2.size⟩, ?_, ?_⟩
        · have hb1 := hfr2 b hb
          have hb2 := hI2.lt b hb
          refine hoth b (by omega) (by omega) fun e => ?_
          rcases ho b e.symm with h | h <;> omega
        · have h3 := hl2
          generalize w3.setCell ⟨w.heap.size, 0, none⟩ (.slice (some ⟨g', 0, none⟩) (R.length + 1) cap') = V7 at h3 ⊢
          rw [← hR] at h3
          simpa [rF] using h3
        · exact hk2.same _ _ hd rfl
      case done =>
        rintro D2 fs' W2 hD2 rfl ⟨⟨⟨v, hv, hrow, hnil, ho⟩, hBl, hF⟩, hd⟩ hK2
        have cB := hv.cell
        have hBw := hBl
        obtain ⟨hE, hsrt, hmem⟩ := HE.out
        have hsrt2 := hI2.srt
        have hmem2 := hI2.mem
        have hDD : D ≠ D2 := by omega
        have hd3 : (W2.putObj D2 (.deferred none)).heap[D]? = some (.deferred (some [])) := (World.putObj_heap_other hDD).trans hd
        clear hI2 hfr2 hB2 hL4 hD4
        gi_wp2
        refine ⟨by simp, .inl ⟨_, _, rfl, run_takeDeferred hK2, by simp, .inl ⟨_, _, rfl, run_takeDeferred hd3, ?_⟩⟩⟩
        have h3 := ownsRow_putObj (ownsRow_putObj hrow (.deferred none) hK2 rfl) (.deferred none) hd3 rfl
        refine ⟨_, results_tmp rfl _ _ _, v, xs, ys, es', fs', rfl, hE, hsrt, hmem, hE2, hsrt2, hmem2, ?_, ?_, (hBw.grown (grownBy_putObj' _ _ _) hBw.size (fun k e => by cases e; omega)).grown (grownBy_putObj' _ _ _) (by rw [World.putObj_size]; exact hBw.size) (fun k e => by cases e; omega)⟩
        · rw [HR.out, HL.out]; exact h3
        · rw [HR.out, HL.out]; exact hnil
      case stop =>
        rintro D2 c pre W2 _ _ h _
        exact h.elim
end Go.Proofs.Ytncliolkdkofhaa
