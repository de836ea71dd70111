/-
  Package state: Records.
  Package state: a state alone; a list that Records made, read record by record.
  Package wal: going over to the other region.
  Package wal: Append, where the region is full.
-/
import Derived.Test.YtpgcnjoodoabhaaGreatS14
import Derived.Deep.RegionLaw
import Derived.Test.YtpgcnjoodoabhaaGreatS09
namespace Go.Proofs.YtpgcnjoodoabhaaGreat
open Go.RowKit Rm
variable {tS : TypeId} {XS : List Value}
attribute [local go_sem] Oper.semAt_some

theorem enter_owns1 : ∀ args w, (callFunc 55 args).run Tryz.prog w = .ok (.enter 55 args) w := enters_of Tryz.func55 (by kernel_rfl) rfl
theorem enter_inOrdK : ∀ args w, (callFunc 79 args).run Tryz.prog w = .ok (.enter 79 args) w := enters_of Tryz.func79 (by kernel_rfl) rfl
theorem KeepT.of_below {t : TypeId} {W W' : World} (h : Below W.heap.size W W') : KeepT t W W' := fun _ _ hb => hb.held h
theorem KeepT.put {t : TypeId} (W : World) (l : Nat) (o o' : Obj) (h : W.heap[l]? = some o) (hc : o.isCells = false) : KeepT t W (W.putObj l o') := fun b C hb => by
  unfold Blk at hb ⊢
  refine (World.putObj_heap_other fun e => ?_).trans hb
  rw [e, h] at hb
  cases hb
  cases hc

/-- what Owns' iterator asks of a round -/
def KqO (L : List Nat) (A B : World) : Prop := KeepS L A B ∧ KeepT 96 A B
theorem owns_drives {W0 : World} {B1 B2 B3 n : Nat} {v : Value} {o : Option Nat} {f : Pk → Option Bool} {xs : List Pk} {es : List (ElP f)} (h : ItP W0 B1 B2 v o n f xs) (hE : EsP f xs es)
    (h3 : Blk 114 W0 B3 #[.func (.func 73) #[] #[.pointer (some ⟨B1, 0, none⟩), .pointer (some ⟨B2, 0, none⟩)]]) (W : World) (hW : Below W0.heap.size W0 W) :
    Drives Tryz.prog 55 #[.pointer (some ⟨B3, 0, none⟩)] arO es.length (fun ys => ys = es) (KqO (itL B1 B2 v o)) W := fun l J hJ hY h0 => by
  refine (callsIn_wide.1 (owns1 (h.held hW) hE (h3.held hW) (.loop l) J (fun _ _ => False) hJ (fun _ _ _ _ h _ _ => h) (fun pre x W1 hj hs hl => ?_) h0 0)).mono ?_
  · refine Fv.At.mono (R := _) (hY pre x W1 hj hs hl) ?_
    rintro e W' ⟨rfl, h1, h2, h3⟩
    refine ⟨true, rfl, h1, ?_⟩
    rw [if_pos rfl]
    exact ⟨h2, h3.1, h3.2⟩
  · rintro e W' ⟨h1, h2 | ⟨_, h2⟩⟩
    · exact ⟨h1, es, rfl, h2⟩
    · exact h2.elim

/-- an append whose run is known, as a step of a region that draws -/
theorem step_append_run {P : Program} {ops : Array Oper} {o : Oper} {a : Act} {w : World} {K : Act → World → Prop} {Q : Exit → Act → World → Prop} {E : Prop} (hgd : o.guard = none) (s x : Operand) (t : TypeId)
    (ho : o.op = .call { callee := .builtin .append, args := #[s, x], argTypes := #[t, t] }) (v xv v' : Value) (w0 w' : World) (hw0 : w = w0) (hs : a.eval s = v) (hx : a.eval x = xv)
    (hr : (Builtin.append_ #[t, t] o.type #[v, xv]).run P w0 = .ok v' w') (h : K (a.put o.dst v') w') : if Region.wanted o (yielded ops a.tmps) = true then Oper.wp P o a w K Q else E := by
  have hw : Region.wanted o (yielded ops a.tmps) = true := by simp [Region.wanted, hgd]
  rw [if_pos hw]
  subst hw0
  unfold Oper.wp execOp
  simp only [ho, resolve, invoke, builtin, Sem.run_bind, Sem.run_pure, Result.andThen_ok, List.map_toArray, List.map_cons, List.map_nil, hs, hx, hr]
  exact h

set_option maxRecDepth 100000 in
set_option maxHeartbeats 4000000 in
theorem records_any {w : World} {d : Nat} {o fl : Option Nat} {id N : Nat} {S : Sm} (h : Notes tS XS w d o fl id N S) :
    Calls Tryz.prog 11 #[.pointer (some ⟨d, 0, none⟩)] w fun e w' => ∃ v xs ys, ∃ es : List (ElP S.own), ∃ fs : List (ElK S.floor), e = .returned v ∧
      EsP S.own xs es ∧ xs.Pairwise ltP ∧ (∀ x, x ∈ xs ↔ x.ok ∧ (S.own x).isSome = true) ∧ EsK S.floor ys fs ∧ ys.Pairwise ltK ∧ (∀ x, x ∈ ys ↔ x.ok ∧ (S.floor x).isSome = true) ∧
      w'.ownsRow w.heap.size 41 9 v (es.map rO ++ rL S.lease ++ fs.map rF).length ((es.map rO ++ rL S.lease ++ fs.map rF).flatMap rcells) ∧ (v = .slice none 0 0 ↔ es.map rO ++ rL S.lease ++ fs.map rF = []) ∧ Below w.heap.size w w' := by
  obtain ⟨n, m, -, hS⟩ := h
  obtain ⟨i0, hi, hz0, hz1, hz2⟩ := info_parts infoRec
  have hb1 := below_new w (.cells #[.slice none 0 0] 22)
  have hz := size_new w (.cells #[.slice none 0 0] 22)
  have hBx := Boxed.new w 22 (.slice none 0 0)
  have HO := owns_any (hS.held hb1)
  have dl := hS.head.lt
  refine (callsIn_wide (n := 9)).1 ?_
  refine callsIn_of_wp_marks Tryz.func11 rfl trivial ?_ rfl
  simp only [Tryz.ntmps11, List.size_toArray, List.length_cons, List.length_nil, Nat.reduceAdd, Nat.reduceSub, Array.replicate_succ, Array.replicate_zero, List.push_toArray, List.append_toArray, List.nil_append, List.cons_append]
  have HI := Lib.hid (And.intro hi (And.intro hz0 (And.intro hz1 hz2)))
  have HS := Lib.hid hS
  clear hi hz0 hz1 hz2 hS
  gi_wp2
  refine ⟨trivial, (callsIn_any HO).mono ?_⟩
  rintro e w2 ⟨B1, B2, B3, v1, o1, xs, rfl, hI, h3, hfr, hB3, hB⟩
  clear HO
  gi_wp2
  generalize w.alloc (.cells #[.slice none 0 0] 22) = w1 at *
  have hsz2 := hB.size
  obtain ⟨es, hE⟩ := esP_ex (f := S.own) (fun _ _ _ => rfl) xs (fun x hx => (hI.mem x).1 hx)
  have hlenE : es.length ≤ 100000 := by
    have : es.length = xs.length := by rw [← show es.map (·.key) = xs from hE]; simp
    have := hI.len
    omega
  have hL1 : Lst w w.heap.size w.heap.size w1.heap.size w2.heap.size [] w2 := by
    refine ⟨⟨.slice none 0 0, (hB.block _ (by omega)).trans hBx, World.ownsRow_nil _ _ _ _, by simp, fun b hb => by cases hb⟩, next hb1 hB, Nat.le_refl _⟩
  have h1w : w.heap.size ≤ w.heap.size := Nat.le_refl _
  refine loop_all (α := ElP S.own) rfl enter_owns1 (owns_drives hI hE h3) (fun _ => rfl) (fun h k => ⟨h.1.trans k.1, fun b C hb => k.2 b C (h.2 b C hb)⟩) (fun W l o o' hl h hc hw => ⟨keepS_put hI.lt W l o o' hl h hc hw, KeepT.put W l o o' h hc⟩)
    (fun pre W => Lst w w.heap.size w.heap.size w1.heap.size w2.heap.size (pre.map rO) W) (lst_own _ h1w (by omega)) hL1
    (fun x a' W => ∃ Bx, Blk 36 W Bx #[.int .u32 x.key.a, .int .i64 x.key.n] ∧ a' = { tmps := #[.pointer (some ⟨d, 0, none⟩), undef, .slice none 0 0, .pointer (some ⟨w.heap.size, 0, none⟩), .pointer (some ⟨Bx, 0, none⟩), .bool x.val, undef, undef, .pointer (some ⟨d, 0, none⟩), .func (.func 55) #[] #[.pointer (some ⟨B3, 0, none⟩)], .agg #[.int .u32 x.key.a, .int .i64 x.key.n], .bool x.val, undef, undef, undef, undef, undef, undef, undef, undef, undef, undef, undef, undef, undef, undef, undef, undef, undef, undef, undef, undef, undef, undef, undef, undef, undef, undef, undef, undef, undef, undef, undef, undef, undef, undef], defers := [] })
    ?_ ?assign ?body ?done
  · rintro x a' s W W' row ⟨Bx, hp, rfl⟩ hg hr
    exact ⟨Bx, hp.grown hg hr, rfl⟩
  case assign =>
    rintro l pre ⟨⟨xa, xn⟩, y, hok, hfit, hhas⟩ W K hL hK
    have hb := below_new W (.cells #[.int .u32 xa, .int .i64 xn] 36)
    have hl := hL.2.2
    simp only [arO, clP]
    gi_wp2
    exact hK _ _ (keepsFrom_below _ hb) ⟨.of_below (fun b hb' => Nat.lt_of_lt_of_le (hI.lt b hb') hl) hb, .of_below hb⟩ (hL.alloc h1w _) ⟨_, Blk.new _ _ _, rfl⟩
  case body =>
    rintro l pre ⟨⟨xa, xn⟩, y, hok, hfit, hhas⟩ a' W ⟨⟨v, hv, hrow, hnil, ho⟩, hBl, hF⟩ ⟨Bx, hp, rfl⟩ hlt
    have cB := hv.cell
    have p0 := hp.at_ 0
    have p1 := hp.at_ 1
    have hle := hBl.size
    obtain ⟨hi, hz0, hz1, hz2⟩ := HI.out
    have hrl : (pre.map rO).length = pre.length := by simp
    gi_wp2_with (first
      | (gi_at_builtin; go_loud (refine wpListIn_append_own_at _ rfl _ _ 22 rfl w.heap.size 41 i0 _ 9 56 Tryz.underlying22 hi hz0 hz1 hz2 rfl (by decide) _ _ _ rfl (hrow.alloc _) ⟨W.heap.size, 0, none⟩ 1 1 (rcells (rO ⟨⟨xa, xn⟩, y, hok, hfit, hhas⟩)) rfl rfl (fun j u hj => (new_at _ _ _ j).trans (by rw [← hj]; simp [rcells, rcl, rO])) (by simp [Value.oneCell', rcells, rcl, rO]) (by unfold maxLen; omega) (by omega) (by simp; omega) ?_)
         intro v' w3 hown' hgrow _ hat
         obtain ⟨g', cap', rfl⟩ := ownsRow_succ hown'
         obtain ⟨hv1, hl2, hk2, hb2, hoth⟩ := Lst.push h1w (Nat.le_refl _) hv hrow ho hBl hF hown' hgrow hat
         have hc1 := hv1.cell
         have hf1 := hv1.frozen)
      | gi_in)
    rw [hrl] at hl2 hk2 hoth
    refine ⟨hk2.from _, ⟨⟨fun b hb => ?_, hk2.size⟩, fun b C hb => ?_⟩, ?_⟩
    · have hb1 := hfr b hb
      have hb2 := hI.lt b hb
      refine hoth b (by omega) (by omega) fun e => ?_
      rcases ho b e.symm with h | h <;> omega
    · exact (hoth b hb.lt (fun e => by subst e; exact hb.ne (show Blk 22 W w.heap.size #[v] from hv) (by decide) rfl) (row_other hrow hb (by decide))).trans hb
    · rw [hz] at hl2
      exact hl2
  case done =>
    rintro D es' W hD rfl hL hK
    have hSW := HS.out.held hL.2.1
    have hDW : D < W.heap.size := (Array.getElem?_eq_some_iff.1 hK).1
    have c1 := hSW.head.at_ 1
    have HF := floors_any hSW
    have hDw : w.heap.size ≤ D := by omega
    have HE := Lib.hid (And.intro hE (And.intro hI.srt hI.mem))
    have hk := hI.len
    have hSWx := hSW
    clear hI h3 hfr hB3 hB hL1 hSW hb1 hBx hE
    by_cases hls : S.lease = 0
    · have hlb : ((S.lease : Int) != 0) = false := by rw [hls]; rfl
      have hrs : es'.map rO ++ rL S.lease = es'.map rO := by unfold rL; rw [if_pos hls]; simp
      have HL := Lib.hid hrs
      have HLS := Lib.hid hls
      clear hls
      gi_wp2
      have hL0 := hL
      have hKW := hK
      have hrs1 : (es'.map rO).length ≤ 100001 := by rw [List.length_map]; omega
      refine ⟨trivial, (callsIn_any HF).mono ?_⟩
      rintro e w4 ⟨C1, C2, v2, o2, ys, rfl, hI2, hfr2, hB2⟩
      clear HF
      gi_wp2
      have hsz4 := hB2.size
      obtain ⟨fs, hE2⟩ := esK_ex (f := S.floor) HS.out.small ys (fun x hx => (hI2.mem x).1 hx)
      have hlenF : fs.length ≤ 100000 := by
        have : fs.length = ys.length := by rw [← show fs.map (·.key) = ys from hE2]; simp
        have := hI2.len
        omega
      have hL4 : Lst w w.heap.size w.heap.size W.heap.size w4.heap.size (es'.map rO ++ ([] : List (ElK S.floor)).map rF) w4 := by
        have := hL0.rebase hB2 h1w
        simpa using this
      have hD4 : w4.heap[D]? = some (.deferred (some [])) := (hB2.block D hDW).trans hKW
      refine wpIn_rangeFunc_ownH (α := ElK S.floor) rfl (by omega) (gf := 79) (lb := #[.pointer (some ⟨C1, 0, none⟩), .pointer (some ⟨C2, 0, none⟩)]) rfl trivial enter_inOrdK (inOrdK_stops hI2 hE2 8) KeepS.trans (keepS_put hI2.lt) (Below.refl _ _) (fun _ => rfl)
        (fun pre V9 => Lst w w.heap.size w.heap.size W.heap.size w4.heap.size (es'.map rO ++ pre.map rF) V9 ∧ V9.heap[D]? = some (.deferred (some [])))
        (fun _ _ _ => False)
        (OwnFrom.and (lst_own (B' := w4.heap.size) _ h1w (by omega)) (fun _ _ _ _ h hg hr => grown_block hg hr (by omega) h))
        (fun _ _ _ _ _ h _ _ => h) ⟨hL4, hD4⟩
        (fun x a' V8 => ∃ Bk Bd, Blk 90 V8 Bk #[.int .u32 x.key.a, .int .i64 x.key.n, .int .u32 x.key.id] ∧ Blk 39 V8 Bd #[.int .u32 x.val.1, .int .u16 x.val.2] ∧ a' = { tmps := #[.pointer (some ⟨d, 0, none⟩), undef, .slice none 0 0, .pointer (some ⟨w.heap.size, 0, none⟩), undef, undef, .pointer (some ⟨Bk, 0, none⟩), .pointer (some ⟨Bd, 0, none⟩), .pointer (some ⟨d, 0, none⟩), .func (.func 55) #[] #[.pointer (some ⟨B3, 0, none⟩)], undef, undef, undef, undef, undef, undef, undef, undef, .pointer (some ⟨d, 0, none⟩), .pointer (some ⟨d, 0, none⟩), .pointer (some ⟨d, 1, none⟩), .int .u32 S.lease, .bool false, undef, undef, undef, undef, undef, undef, undef, undef, undef, .pointer (some ⟨d, 0, none⟩), .func (.func 79) #[] #[.pointer (some ⟨C1, 0, none⟩), .pointer (some ⟨C2, 0, none⟩)], .agg #[.int .u32 x.key.a, .int .i64 x.key.n, .int .u32 x.key.id], .agg #[.int .u32 x.val.1, .int .u16 x.val.2], undef, undef, undef, undef, undef, undef, undef, undef, undef, undef], defers := [] })
        ?_ ?assign ?body ?done ?stop
      · rintro x a' s W1 W2 row ⟨Bk, Bd, hp, hd, rfl⟩ hg hr
        exact ⟨Bk, Bd, hp.grown hg hr, hd.grown hg hr, rfl⟩
      case assign =>
        rintro l pre ⟨⟨xa, xn, xi⟩, ⟨s, y⟩, hok, hfit, hhas⟩ W1 K ⟨hL, hd⟩ hK
        have hP := (Blk.new W1 90 #[.int .u32 xa, .int .i64 xn, .int .u32 xi]).more (.cells #[.int .u32 s, .int .u16 y] 39)
        have hO := Blk.new (W1.alloc (.cells #[.int .u32 xa, .int .i64 xn, .int .u32 xi] 90)) 39 #[.int .u32 s, .int .u16 y]
        rw [size_new] at hO
        have hbb := next (below_new W1 (.cells #[.int .u32 xa, .int .i64 xn, .int .u32 xi] 90)) (below_new (W1.alloc (.cells #[.int .u32 xa, .int .i64 xn, .int .u32 xi] 90)) (.cells #[.int .u32 s, .int .u16 y] 39))
        have hl := hL.2.2
        have hdl : D < W1.heap.size := (Array.getElem?_eq_some_iff.1 hd).1
        have hL2 := hL.held hbb h1w
        have hd2 := (hbb.block D hdl).trans hd
        simp only [arK, clK, dV]
        gi_wp2
        exact hK _ _ (keepsFrom_below _ hbb) (.of_below (fun b hb' => Nat.lt_of_lt_of_le (hI2.lt b hb') hl) hbb) ⟨hL2, hd2⟩ ⟨_, _, hP, hO, rfl⟩
      case body =>
        rintro l pre ⟨⟨xa, xn, xi⟩, ⟨s, y⟩, hok, hfit, hhas⟩ a' W1 _ _ ⟨⟨⟨v, hv, hrow, hnil, ho⟩, hBl, hF⟩, hd⟩ ⟨Bk, Bd, hp, hdd, rfl⟩ hlt
        have cB := hv.cell
        have p0 := hp.at_ 0
        have p1 := hp.at_ 1
        have p2 := hp.at_ 2
        have d0 := hdd.at_ 0
        have d1 := hdd.at_ 1
        have hle := hBl.size
        obtain ⟨hi, hz0, hz1, hz2⟩ := HI.out
        have hrl : (es'.map rO ++ pre.map rF).length ≤ 300000 := by
          have h1 : (es'.map rO).length ≤ 100001 := hrs1
          have h2 : (pre.map rF).length = pre.length := by simp
          rw [List.length_append, h2]
          omega
        generalize hR : es'.map rO ++ pre.map rF = R at *
        gi_wp2_with (first
          | (gi_at_builtin; refine wpListIn_append_own_at _ rfl _ _ 22 rfl w.heap.size 41 i0 _ 9 56 Tryz.underlying22 hi hz0 hz1 hz2 rfl (by decide) _ _ _ rfl (hrow.alloc _) ⟨W1.heap.size, 0, none⟩ 1 1 (rcells (rF ⟨⟨xa, xn, xi⟩, (s, y), hok, hfit, hhas⟩)) rfl rfl (fun j u hj => (new_at _ _ _ j).trans (by rw [← hj]; simp [rcells, rcl, rF])) (by simp [Value.oneCell', rcells, rcl, rF]) (by unfold maxLen; omega) (by omega) (by simp; omega) ?_
             intro v' w3 hown' hgrow _ hat
             obtain ⟨g', cap', rfl⟩ := ownsRow_succ hown'
             obtain ⟨hv1, hl2, hk2, hb2, hoth⟩ := Lst.push h1w (Nat.le_refl _) hv hrow ho hBl hF hown' hgrow hat
             have hc1 := hv1.cell
             have hf1 := hv1.frozen)
          | gi_in)
        refine ⟨hk2.from _, ⟨fun b hb => ?_, hk2.size⟩, ?_, ?_⟩
        · have hb1 := hfr2 b hb
          have hb2 := hI2.lt b hb
          refine hoth b (by omega) (by omega) fun e => ?_
          rcases ho b e.symm with h | h <;> omega
        · have h3 := hl2
          generalize w3.setCell ⟨w.heap.size, 0, none⟩ (.slice (some ⟨g', 0, none⟩) (R.length + 1) cap') = V7 at h3 ⊢
          rw [← hR] at h3
          simpa [rF] using h3
        · exact hk2.same _ _ hd rfl
      case done =>
        rintro D2 fs' W2 hD2 rfl ⟨⟨⟨v, hv, hrow, hnil, ho⟩, hBl, hF⟩, hd⟩ hK2
        have cB := hv.cell
        have hBw := hBl
        obtain ⟨hE, hsrt, hmem⟩ := HE.out
        have hsrt2 := hI2.srt
        have hmem2 := hI2.mem
        have hDD : D ≠ D2 := by omega
        have hd3 : (W2.putObj D2 (.deferred none)).heap[D]? = some (.deferred (some [])) := (World.putObj_heap_other hDD).trans hd
        clear hI2 hfr2 hB2 hL4 hD4
        gi_wp2
        refine ⟨by simp, .inl ⟨_, _, rfl, run_takeDeferred hK2, by simp, .inl ⟨_, _, rfl, run_takeDeferred hd3, ?_⟩⟩⟩
        have h3 := ownsRow_putObj (ownsRow_putObj hrow (.deferred none) hK2 rfl) (.deferred none) hd3 rfl
        refine ⟨_, results_tmp rfl _ _ _, v, xs, ys, es', fs', rfl, hE, hsrt, hmem, hE2, hsrt2, hmem2, ?_, ?_, (hBw.grown (grownBy_putObj' _ _ _) hBw.size (fun k e => by cases e; omega)).grown (grownBy_putObj' _ _ _) (by rw [World.putObj_size]; exact hBw.size) (fun k e => by cases e; omega)⟩
        · rw [HL.out]; exact h3
        · rw [HL.out]; exact hnil
      case stop =>
        rintro D2 c pre W2 _ _ h _
        exact h.elim
    · have hlb : ((S.lease : Int) != 0) = true := by simp [hls]
      have hrs : es'.map rO ++ rL S.lease = es'.map rO ++ [⟨3, 0, 0, 0, 0, 0, false, S.lease, 0⟩] := by unfold rL; rw [if_neg hls]
      have HL := Lib.hid hrs
      have HLS := Lib.hid hls
      clear hls hrs
      have hdB := hK
      obtain ⟨⟨v, hv, hrow, hnil, ho⟩, hBl, hF⟩ := hL.drew h1w
      have HSW := Lib.hid hSWx
      have hle := hBl.size
      obtain ⟨hi, hz0, hz1, hz2⟩ := HI.out
      have hlen : (es'.map rO).length ≤ 100000 := by rw [List.length_map]; exact hlenE
      have hRL := hL
      generalize hR0 : es'.map rO = R at *
      have HR := Lib.hid hR0
      clear hR0
      obtain ⟨v', w3, hrun, hown', hgrow, -, hat⟩ := run_append_own_at (P := Tryz.prog) (W.drew.alloc (.cells #[.int .i64 3, .int .u32 0, .int .u32 0, .int .u32 0, .int .u32 0, .int .i64 0, .bool false, .int .u32 S.lease, .int .u16 0] 41)) w.heap.size 22 22 41 i0 _ 9 56 Tryz.underlying22 hi hz0 hz1 hz2 rfl (by decide) v _ _ (hrow.alloc _) ⟨W.heap.size, 0, none⟩ 1 1 (rcells ⟨3, 0, 0, 0, 0, 0, false, S.lease, 0⟩) rfl
        (fun j u hj => (new_at W.drew _ _ j).trans (by rw [← hj]; simp [rcells, rcl])) (by simp [Value.oneCell', rcells, rcl]) (by unfold maxLen; omega) (by omega) (by simp; omega)
      obtain ⟨g', cap', rfl⟩ := ownsRow_succ hown'
      obtain ⟨hv1, hl2, hk2, hb2, hoth⟩ := Lst.push (r := ⟨3, 0, 0, 0, 0, 0, false, S.lease, 0⟩) h1w (Nat.le_refl _) hv hrow ho hBl hF hown' hgrow hat
      have hrun1 : (Builtin.append_ #[22, 22] 22 #[v, .slice (some ⟨W.heap.size, 0, none⟩) 1 1]).run Tryz.prog (W.alloc (.cells #[.int .i64 3, .int .u32 0, .int .u32 0, .int .u32 0, .int .u32 0, .int .i64 0, .bool false, .int .u32 S.lease, .int .u16 0] 41)).drew = .ok (.slice (some ⟨g', 0, none⟩) (R.length + 1) cap') w3 := hrun
      have hc1 := hv1.cell
      have hf1 := hv1.frozen
      have cB0 : W.cell? ⟨w.heap.size, 0, none⟩ = some v := hv.cell
      have cB1 : W.drew.cell? ⟨w.heap.size, 0, none⟩ = some v := hv.cell
      have hBlt : w.heap.size < W.heap.size := hv.lt
      have cB2 := held (below_new W.drew (.cells #[.int .i64 3, .int .u32 0, .int .u32 0, .int .u32 0, .int .u32 0, .int .i64 0, .bool false, .int .u32 S.lease, .int .u16 0] 41)) cB1
      have cB3 : (W.alloc (.cells #[.int .i64 3, .int .u32 0, .int .u32 0, .int .u32 0, .int .u32 0, .int .i64 0, .bool false, .int .u32 S.lease, .int .u16 0] 41)).drew.cell? ⟨w.heap.size, 0, none⟩ = some v := cB2
      have c2 : W.drew.cell? ⟨d, 1, none⟩ = _ := c1
      have c3 := held (below_new W.drew (.cells #[.int .i64 3, .int .u32 0, .int .u32 0, .int .u32 0, .int .u32 0, .int .i64 0, .bool false, .int .u32 S.lease, .int .u16 0] 41)) c2
      gi_wp2_with (fail)
      refine wpIn_wide.2 ?_
      refine wp_mono (Q := fun e a' w' => match e with | .normal => a' = { tmps := #[.pointer (some ⟨d, 0, none⟩), undef, .slice none 0 0, .pointer (some ⟨w.heap.size, 0, none⟩), undef, undef, undef, undef, .pointer (some ⟨d, 0, none⟩), .func (.func 55) #[] #[.pointer (some ⟨B3, 0, none⟩)], undef, undef, undef, undef, undef, undef, undef, undef, .pointer (some ⟨d, 0, none⟩), .pointer (some ⟨d, 0, none⟩), .pointer (some ⟨d, 1, none⟩), .int .u32 S.lease, .bool true, v, .pointer (some ⟨d, 0, none⟩), .pointer (some ⟨d, 0, none⟩), .pointer (some ⟨d, 1, none⟩), .int .u32 S.lease, .agg #[.int .u32 S.lease, .int .u16 0], .agg #[.int .i64 3, .int .u32 0, .int .u32 0, .int .u32 0, .int .u32 0, .int .i64 0, .bool false, .int .u32 S.lease, .int .u16 0], .slice (some ⟨W.heap.size, 0, none⟩) 1 1, (.slice (some ⟨g', 0, none⟩) (R.length + 1) cap'), undef, undef, undef, undef, undef, undef, undef, undef, undef, undef, undef, undef, undef, undef], defers := [{ target := .collected D, args := #[] }] } ∧ w' = w3.setCell ⟨w.heap.size, 0, none⟩ (.slice (some ⟨g', 0, none⟩) (R.length + 1) cap') | _ => False) ?_ ?_
      · go_region_law (refine step_append_run rfl _ _ _ rfl _ _ _ _ _ ?_ ?_ ?_ hrun ?_ <;> first | rfl | skip)
        all_goals exact ⟨rfl, rfl⟩
      rintro e a' w' he
      have he2 : e = .normal := by cases e <;> first | rfl | exact he.elim
      subst he2
      obtain ⟨rfl, rfl⟩ := he
      generalize w3.setCell ⟨w.heap.size, 0, none⟩ (.slice (some ⟨g', 0, none⟩) (R.length + 1) cap') = W5 at *
      have hKW : W5.heap[D]? = some (.deferred (some [])) := hk2.same _ _ hdB rfl
      have hL0 := hl2
      clear hK hDW c1 HF hrun hrun1 hown' hgrow hat hv1 hc1 hf1 cB0 cB1 cB2 cB3 c2 c3 hrow hv ho hnil hBl hF hk2 hb2 hoth hl2 hdB hle HSW hSWx hL hRL
      have hDW : D < W5.heap.size := (Array.getElem?_eq_some_iff.1 hKW).1
      have HF := floors_any (HS.out.held hL0.2.1)
      have hrs1 : (R ++ [(⟨3, 0, 0, 0, 0, 0, false, S.lease, 0⟩ : Rc)]).length ≤ 100001 := by rw [List.length_append]; simp; omega
      gi_wp2
      refine ⟨trivial, (callsIn_any HF).mono ?_⟩
      rintro e w4 ⟨C1, C2, v2, o2, ys, rfl, hI2, hfr2, hB2⟩
      clear HF
      gi_wp2
      have hsz4 := hB2.size
      obtain ⟨fs, hE2⟩ := esK_ex (f := S.floor) HS.out.small ys (fun x hx => (hI2.mem x).1 hx)
      have hlenF : fs.length ≤ 100000 := by
        have : fs.length = ys.length := by rw [← show fs.map (·.key) = ys from hE2]; simp
        have := hI2.len
        omega
      have hL4 : Lst w w.heap.size w.heap.size W5.heap.size w4.heap.size ((R ++ [(⟨3, 0, 0, 0, 0, 0, false, S.lease, 0⟩ : Rc)]) ++ ([] : List (ElK S.floor)).map rF) w4 := by
        have := hL0.rebase hB2 h1w
        simpa using this
      have hD4 : w4.heap[D]? = some (.deferred (some [])) := (hB2.block D hDW).trans hKW
      refine wpIn_rangeFunc_ownH (α := ElK S.floor) rfl (by omega) (gf := 79) (lb := #[.pointer (some ⟨C1, 0, none⟩), .pointer (some ⟨C2, 0, none⟩)]) rfl trivial enter_inOrdK (inOrdK_stops hI2 hE2 8) KeepS.trans (keepS_put hI2.lt) (Below.refl _ _) (fun _ => rfl)
        (fun pre V9 => Lst w w.heap.size w.heap.size W5.heap.size w4.heap.size ((R ++ [(⟨3, 0, 0, 0, 0, 0, false, S.lease, 0⟩ : Rc)]) ++ pre.map rF) V9 ∧ V9.heap[D]? = some (.deferred (some [])))
        (fun _ _ _ => False)
        (OwnFrom.and (lst_own (B' := w4.heap.size) _ h1w (by omega)) (fun _ _ _ _ h hg hr => grown_block hg hr (by omega) h))
        (fun _ _ _ _ _ h _ _ => h) ⟨hL4, hD4⟩
        (fun x a' V8 => ∃ Bk Bd, Blk 90 V8 Bk #[.int .u32 x.key.a, .int .i64 x.key.n, .int .u32 x.key.id] ∧ Blk 39 V8 Bd #[.int .u32 x.val.1, .int .u16 x.val.2] ∧ a' = { tmps := #[.pointer (some ⟨d, 0, none⟩), undef, .slice none 0 0, .pointer (some ⟨w.heap.size, 0, none⟩), undef, undef, .pointer (some ⟨Bk, 0, none⟩), .pointer (some ⟨Bd, 0, none⟩), .pointer (some ⟨d, 0, none⟩), .func (.func 55) #[] #[.pointer (some ⟨B3, 0, none⟩)], undef, undef, undef, undef, undef, undef, undef, undef, .pointer (some ⟨d, 0, none⟩), .pointer (some ⟨d, 0, none⟩), .pointer (some ⟨d, 1, none⟩), .int .u32 S.lease, .bool true, v, .pointer (some ⟨d, 0, none⟩), .pointer (some ⟨d, 0, none⟩), .pointer (some ⟨d, 1, none⟩), .int .u32 S.lease, .agg #[.int .u32 S.lease, .int .u16 0], .agg #[.int .i64 3, .int .u32 0, .int .u32 0, .int .u32 0, .int .u32 0, .int .i64 0, .bool false, .int .u32 S.lease, .int .u16 0], .slice (some ⟨W.heap.size, 0, none⟩) 1 1, (.slice (some ⟨g', 0, none⟩) (R.length + 1) cap'), .pointer (some ⟨d, 0, none⟩), .func (.func 79) #[] #[.pointer (some ⟨C1, 0, none⟩), .pointer (some ⟨C2, 0, none⟩)], .agg #[.int .u32 x.key.a, .int .i64 x.key.n, .int .u32 x.key.id], .agg #[.int .u32 x.val.1, .int .u16 x.val.2], undef, undef, undef, undef, undef, undef, undef, undef, undef, undef], defers := [] })
        ?_ ?assign ?body ?done ?stop
      · rintro x a' s W1 W2 row ⟨Bk, Bd, hp, hd, rfl⟩ hg hr
        exact ⟨Bk, Bd, hp.grown hg hr, hd.grown hg hr, rfl⟩
      case assign =>
        rintro l pre ⟨⟨xa, xn, xi⟩, ⟨s, y⟩, hok, hfit, hhas⟩ W1 K ⟨hL, hd⟩ hK
        have hP := (Blk.new W1 90 #[.int .u32 xa, .int .i64 xn, .int .u32 xi]).more (.cells #[.int .u32 s, .int .u16 y] 39)
        have hO := Blk.new (W1.alloc (.cells #[.int .u32 xa, .int .i64 xn, .int .u32 xi] 90)) 39 #[.int .u32 s, .int .u16 y]
        rw [size_new] at hO
        have hbb := next (below_new W1 (.cells #[.int .u32 xa, .int .i64 xn, .int .u32 xi] 90)) (below_new (W1.alloc (.cells #[.int .u32 xa, .int .i64 xn, .int .u32 xi] 90)) (.cells #[.int .u32 s, .int .u16 y] 39))
        have hl := hL.2.2
        have hdl : D < W1.heap.size := (Array.getElem?_eq_some_iff.1 hd).1
        have hL2 := hL.held hbb h1w
        have hd2 := (hbb.block D hdl).trans hd
        simp only [arK, clK, dV]
        gi_wp2
        exact hK _ _ (keepsFrom_below _ hbb) (.of_below (fun b hb' => Nat.lt_of_lt_of_le (hI2.lt b hb') hl) hbb) ⟨hL2, hd2⟩ ⟨_, _, hP, hO, rfl⟩
      case body =>
        rintro l pre ⟨⟨xa, xn, xi⟩, ⟨s, y⟩, hok, hfit, hhas⟩ a' W1 _ _ ⟨⟨⟨v, hv, hrow, hnil, ho⟩, hBl, hF⟩, hd⟩ ⟨Bk, Bd, hp, hdd, rfl⟩ hlt
        have cB := hv.cell
        have p0 := hp.at_ 0
        have p1 := hp.at_ 1
        have p2 := hp.at_ 2
        have d0 := hdd.at_ 0
        have d1 := hdd.at_ 1
        have hle := hBl.size
        obtain ⟨hi, hz0, hz1, hz2⟩ := HI.out
        have hrl : ((R ++ [(⟨3, 0, 0, 0, 0, 0, false, S.lease, 0⟩ : Rc)]) ++ pre.map rF).length ≤ 300000 := by
          have h1 : ((R ++ [(⟨3, 0, 0, 0, 0, 0, false, S.lease, 0⟩ : Rc)])).length ≤ 100001 := hrs1
          have h2 : (pre.map rF).length = pre.length := by simp
          rw [List.length_append, h2]
          omega
        generalize hR : (R ++ [(⟨3, 0, 0, 0, 0, 0, false, S.lease, 0⟩ : Rc)]) ++ pre.map rF = R at *
        gi_wp2_with (first
          | (gi_at_builtin; refine wpListIn_append_own_at _ rfl _ _ 22 rfl w.heap.size 41 i0 _ 9 56 Tryz.underlying22 hi hz0 hz1 hz2 rfl (by decide) _ _ _ rfl (hrow.alloc _) ⟨W1.heap.size, 0, none⟩ 1 1 (rcells (rF ⟨⟨xa, xn, xi⟩, (s, y), hok, hfit, hhas⟩)) rfl rfl (fun j u hj => (new_at _ _ _ j).trans (by rw [← hj]; simp [rcells, rcl, rF])) (by simp [Value.oneCell', rcells, rcl, rF]) (by unfold maxLen; omega) (by omega) (by simp; omega) ?_
             intro v' w3 hown' hgrow _ hat
             obtain ⟨g', cap', rfl⟩ := ownsRow_succ hown'
             obtain ⟨hv1, hl2, hk2, hb2, hoth⟩ := Lst.push h1w (Nat.le_refl _) hv hrow ho hBl hF hown' hgrow hat
             have hc1 := hv1.cell
             have hf1 := hv1.frozen)
          | gi_in)
        refine ⟨hk2.from _, ⟨fun b hb => ?_, hk2.size⟩, ?_, ?_⟩
        · have hb1 := hfr2 b hb
          have hb2 := hI2.lt b hb
          refine hoth b (by omega) (by omega) fun e => ?_
          rcases ho b e.symm with h | h <;> omega
        · have h3 := hl2
          generalize w3.setCell ⟨w.heap.size, 0, none⟩ (.slice (some ⟨g', 0, none⟩) (R.length + 1) cap') = V7 at h3 ⊢
          rw [← hR] at h3
          simpa [rF] using h3
        · exact hk2.same _ _ hd rfl
      case done =>
        rintro D2 fs' W2 hD2 rfl ⟨⟨⟨v, hv, hrow, hnil, ho⟩, hBl, hF⟩, hd⟩ hK2
        have cB := hv.cell
        have hBw := hBl
        obtain ⟨hE, hsrt, hmem⟩ := HE.out
        have hsrt2 := hI2.srt
        have hmem2 := hI2.mem
        have hDD : D ≠ D2 := by omega
        have hd3 : (W2.putObj D2 (.deferred none)).heap[D]? = some (.deferred (some [])) := (World.putObj_heap_other hDD).trans hd
        clear hI2 hfr2 hB2 hL4 hD4
        gi_wp2
        refine ⟨by simp, .inl ⟨_, _, rfl, run_takeDeferred hK2, by simp, .inl ⟨_, _, rfl, run_takeDeferred hd3, ?_⟩⟩⟩
        have h3 := ownsRow_putObj (ownsRow_putObj hrow (.deferred none) hK2 rfl) (.deferred none) hd3 rfl
        refine ⟨_, results_tmp rfl _ _ _, v, xs, ys, es', fs', rfl, hE, hsrt, hmem, hE2, hsrt2, hmem2, ?_, ?_, (hBw.grown (grownBy_putObj' _ _ _) hBw.size (fun k e => by cases e; omega)).grown (grownBy_putObj' _ _ _) (by rw [World.putObj_size]; exact hBw.size) (fun k e => by cases e; omega)⟩
        · rw [HR.out, HL.out]; exact h3
        · rw [HR.out, HL.out]; exact hnil
      case stop =>
        rintro D2 c pre W2 _ _ h _
        exact h.elim
end Go.Proofs.YtpgcnjoodoabhaaGreat

namespace Go.Proofs.YtpgcnjoodoabhaaGreat
open Go.RowKit Rm
variable {tS : TypeId} {XS : List Value}

/-- A state in block sd that notes S, in blocks that W0 hasn't; the rest of W0 stands. -/
def LS (tS : TypeId) (XS : List Value) (W0 : World) (sd id : Nat) (S : Sm) (N : Nat) (w : World) : Prop :=
  ∃ o fl, Notes tS XS w sd o fl id N S ∧ Below W0.heap.size W0 w ∧ ∀ y, y ∈ fp sd o fl → W0.heap.size ≤ y
section
variable {W0 w w' : World} {sd id N : Nat} {S : Sm}
theorem LS.below (h : LS tS XS W0 sd id S N w) : Below W0.heap.size W0 w := by obtain ⟨o, fl, h1, h2, h3⟩ := h; exact h2
theorem LS.held (h : LS tS XS W0 sd id S N w) (hb : Below w.heap.size w w') : LS tS XS W0 sd id S N w' := by
  obtain ⟨o, fl, h1, h2, h3⟩ := h
  exact ⟨o, fl, h1.held hb, next h2 hb, h3⟩
theorem LS.apply_at {wr : World} (h : LS tS XS W0 sd id S N wr) (hb : Below wr.heap.size wr w) (hN : N < 100000) (r : Rc) (hr : r.Fits) :
    Calls Tryz.prog 37 #[.pointer (some ⟨sd, 0, none⟩), .agg (rcl r)] w fun e w' => e = .returned (.tuple #[]) ∧ LS tS XS W0 sd id (app S r) (N + 1) w' ∧ ∀ t g cs, wr.heap.size ≤ g → Blk t w g cs → Blk t w' g cs := by
  obtain ⟨o, fl, h1, h3, h4⟩ := h
  have hlt : ∀ y, y ∈ fp sd o fl → y < wr.heap.size := fun y hy => by
    obtain ⟨_, _, _, hS⟩ := h1
    exact hS.lt hy
  have h3' := next h3 hb
  have hsz := h3'.size
  refine (apply_any (h1.held hb) hN r hr).mono ?_
  rintro e w' ⟨rfl, o', fl', hN', hT, hf⟩
  refine ⟨rfl, ⟨o', fl', hN', h3'.trans (hT.below (fun i hi => h4 i hi) hsz), fun y hy => ?_⟩, fun t g cs hg hB => hB.turn hT fun hm => by have := hlt g hm; omega⟩
  rcases hf y hy with h | h
  · exact h4 y h
  · omega
end

theorem rcells_length (r : Rc) : (rcells r).length = 9 := rfl
theorem recs_get : ∀ (L : List Rc) (i : Nat) (h : i < L.length) (j : Nat), j < 9 → (L.flatMap rcells)[9 * i + j]? = (rcl L[i])[j]?
  | r :: L, 0, _, j, hj => by
    rw [List.flatMap_cons, List.getElem?_append_left (by rw [rcells_length]; omega)]
    show (rcl r).toList[9 * 0 + j]? = (rcl r)[j]?
    rw [show 9 * 0 + j = j by omega]
    simp
  | r :: L, i + 1, h, j, hj => by
    rw [List.flatMap_cons, List.getElem?_append_right (by rw [rcells_length]; omega), rcells_length, show 9 * (i + 1) + j - 9 = 9 * i + j by omega]
    exact recs_get L i (by simpa using h) j hj
theorem row_recs {w : World} {n₀ : Nat} {v : Value} {L : List Rc} (h : w.ownsRow n₀ 41 9 v L.length (L.flatMap rcells)) :
    ∃ a cap, v = .slice a L.length cap ∧ L.length ≤ maxLen ∧ L.length ≤ cap ∧ (0 < L.length → ∃ b off, a = some ⟨b, off, none⟩) ∧ ∀ b off, a = some ⟨b, off, none⟩ → Recs w b off L := by
  rcases h.2 with ⟨hv, hn⟩ | ⟨g, cap, cur, hv, hb, hg, hle, hm, -, -⟩
  · exact ⟨none, 0, by rw [hv, hn], by omega, by omega, by omega, fun _ _ h => by cases h⟩
  · refine ⟨some ⟨g, 0, none⟩, cap, hv, Nat.le_trans hle hm, hle, fun _ => ⟨g, 0, rfl⟩, ?_⟩
    intro b off e
    cases e
    intro i hi j hj
    have hadd : ∀ j, (⟨g, 0, none⟩ : Addr).add j = ⟨g, 0 + j, none⟩ := fun j => by unfold Addr.add; split <;> simp_all
    have hj' : j < (rcl L[i]).size := hj
    have h1 := recs_get L i hi j hj
    rw [Array.getElem?_eq_getElem hj'] at h1 ⊢
    have := h.cells (g := g) (by rw [hv]; rfl) _ _ h1
    rw [hadd] at this
    exact this

theorem mask_cut (z : Int) : ∃ c : Nat, c ≤ 65535 ∧ bits .and .i64 z 65535 = (c : Int) := by
  have h : (BitVec.ofInt 64 z &&& BitVec.ofInt 64 65535).toNat ≤ 65535 := by
    rw [BitVec.toNat_and]
    exact Nat.and_le_right
  have e : bits .and .i64 z 65535 = IntKind.i64.wrap ((BitVec.ofInt 64 z &&& BitVec.ofInt 64 65535).toNat : Int) := rfl
  rw [e]
  generalize (BitVec.ofInt 64 z &&& BitVec.ofInt 64 65535).toNat = n at h
  refine ⟨n, h, ?_⟩
  simp only [IntKind.wrap, IntKind.bits, IntKind.signed]
  simp
  omega
theorem appT_next (L : List Rc) (c k n q : Nat) (hn : L.length = n) (h : 0 < n) (hq : q = (k + c) % n) : ∃ h : q < L.length, appT L c (k + 1) = app (appT L c k) L[q] := by
  subst hn
  subst hq
  exact ⟨Nat.mod_lt _ h, appT_succ L c k (Nat.mod_lt _ h)⟩
theorem tmod_nat (a b : Nat) : ((a : Int)).tmod (b : Int) = ((a % b : Nat) : Int) := by
  rw [Int.tmod_eq_emod_of_nonneg (by omega)]
  rfl
theorem wrap_small {z : Int} {n : Nat} (h : z = (n : Int)) (h2 : n ≤ 1000000) : IntKind.i64.wrap z = (n : Int) := by
  subst h
  simp only [IntKind.wrap, IntKind.bits, IntKind.signed]
  simp
  omega
end Go.Proofs.YtpgcnjoodoabhaaGreat

namespace Go.Proofs.YtpgcnjoodoabhaaGreat
open Go.RowKit Rm

theorem row_new {w : World} {n₀ k : Nat} {xs : List Value} {b off len cap : Nat} (h : w.ownsRow n₀ 41 9 (.slice (some ⟨b, off, none⟩) len cap) k xs) : n₀ ≤ b ∧ b < w.heap.size := by
  rcases h.2 with ⟨hv, -⟩ | ⟨g, c, cur, hv, hb, hg, -⟩
  · cases hv
  · cases hv
    exact ⟨hb, (Array.getElem?_eq_some_iff.1 hg).1⟩

section
variable {w w' : World} {d S M n : Nat} {safe : Nat → List UInt8} {wn : Int → Option (List UInt8)}
set_option maxRecDepth 20000 in
set_option maxHeartbeats 1000000 in
theorem compact_ok {lb first size gen len : Nat} {o fl : Option Nat} {id N : Nat} {T : Sm} (hN : Notes 74 (lgX d first size gen len false) w lb o fl id N T) (h : Dk w d S M n safe wn (-1)) (hdis : ∀ x, x ∈ fp lb o fl → x ∉ [d, S, M])
    (hgood : GoodSm T) (hsf : first ≤ size) (hsz : size ≤ 1000) {f2 g2 : Nat} (hf2 : f2 = size - first) (hg2 : g2 = gen + 1) (hn : f2 + size ≤ n) (hg : gen < 4294967294) (h0 : 0 < id) (h1 : id < 4294967296)
    (hroom : ∀ (xs : List Pk) (ys : List Ky) (es : List (ElP T.own)) (fs : List (ElK T.floor)), EsP T.own xs es → xs.Pairwise ltP → (∀ x, x ∈ xs ↔ x.ok ∧ (T.own x).isSome = true) → EsK T.floor ys fs → ys.Pairwise ltK → (∀ x, x ∈ ys ↔ x.ok ∧ (T.floor x).isSome = true) → (recsOf T es fs).length + 2 ≤ size) :
    Calls Tryz.prog 34 #[.pointer (some ⟨lb, 0, none⟩)] w fun e w' => e = .returned (.int .i64 0) ∧ ∃ (xs : List Pk) (ys : List Ky) (es : List (ElP T.own)) (fs : List (ElK T.floor)), (EsP T.own xs es ∧ xs.Pairwise ltP ∧ (∀ x, x ∈ xs ↔ x.ok ∧ (T.own x).isSome = true) ∧ EsK T.floor ys fs ∧ ys.Pairwise ltK ∧ (∀ x, x ∈ ys ↔ x.ok ∧ (T.floor x).isSome = true)) ∧
      Dk w' d S M n (synced (synced safe (layW wn f2 g2 (recsOf T es fs) (recsOf T es fs).length)) (updD (fun _ => none) ((f2 : Int) + (0 : Nat)) (u8s (Rm.bytes ⟨1, g2, 0, id, 0, 0, false, 0, 0⟩)))) (fun _ => none) (-1) ∧
      Notes 74 (lgX d f2 size g2 (recsOf T es fs).length false) w' lb o fl id N T ∧ Turn [d, S, M, lb] w w' := by
  have HRec := records_any hN
  obtain ⟨cn, cm, hnm, hS⟩ := hN
  have HH := Lib.hid (And.intro h (And.intro hS (And.intro hdis (And.intro hgood hroom))))
  clear h hS hdis hgood hroom
  go_enter Tryz.func34, Tryz.ntmps34
  go_wp2_with fail
  refine HRec.mono ?_
  rintro e w1 ⟨v, xs, ys, es, fs, rfl, hE, hxs, hx, hE2, hys, hy, hrow, -, hb1⟩
  obtain ⟨h, hS, hdis, hgood, hroom⟩ := HH.out
  have hrm := hroom xs ys es fs hE hxs hx hE2 hys hy
  have hrr := recs_right (es := es) (fs := fs) hgood
  obtain ⟨a2, cap2, rfl, hm2, hc2, hA2, hR2⟩ := row_recs (L := recsOf T es fs) hrow
  have hblk : ∀ b off, a2 = some ⟨b, off, none⟩ → w.heap.size ≤ b ∧ b < w1.heap.size := fun b off e => by subst e; exact row_new hrow
  have HE := Lib.hid (And.intro hE (And.intro hxs (And.intro hx (And.intro hE2 (And.intro hys hy)))))
  have HREC : ∃ L, L = recsOf T es fs := ⟨_, rfl⟩
  obtain ⟨L, hL⟩ := HREC
  rw [← hL] at hrm hrr hm2 hc2 hA2 hR2
  have HLL := Lib.hid hL
  have hbd := h.held hb1
  have hSw1 := hS.held hb1
  have HL1 := lg_head hSw1
  obtain ⟨n3, hn3⟩ : ∃ n3, n3 = L.length := ⟨_, rfl⟩
  rw [← hL]
  rw [← hn3] at hrm hm2 hc2 hA2 ⊢
  have hw3 : IntKind.i64.wrap ((n3 : Int) + 2) = (n3 : Int) + 2 := by simp only [IntKind.wrap, IntKind.bits, IntKind.signed]; simp; omega
  have hgt : decide ((size : Int) < (n3 : Int) + 2) = false := decide_eq_false (by omega)
  have l4 := HL1.at_ 4
  have l5 := HL1.at_ 5
  have l6 := HL1.at_ 6
  have l7 := HL1.at_ 7
  have l9 := HL1.at_ 9
  have hbl := hb1.size
  have hltb := hS.head.lt
  have HO := other_any (d := d) hsf hsz (show gen < 4294967295 by omega) w1
  rw [← hf2, ← hg2] at HO
  have H1 := Lib.hid (And.intro hb1 (And.intro hbd (And.intro hSw1 (And.intro hR2 (And.intro hblk hrr)))))
  have hg2b : g2 < 4294967295 := by omega
  have HN3 := Lib.hid hn3
  clear h hS hdis hgood hroom hE hxs hx hE2 hys hy hrow hR2 hblk hrr hbd hSw1 HL1 hL hb1 HRec hf2 hg2 hn3
  go_wp2_with fail
  refine HO.mono ?_
  rintro e w2 ⟨rfl, hb2⟩
  obtain ⟨hb1, hbd, hSw1, hR2, hblk, hrr⟩ := H1.out
  have hb3 := next hb2 (below_new w2 (.cells #[.pointer (some ⟨d, 0, none⟩), .int .i64 f2, .int .i64 size, .int .u32 g2] 65))
  have P3 := Blk.new w2 65 #[.pointer (some ⟨d, 0, none⟩), .int .i64 f2, .int .i64 size, .int .u32 g2]
  have hlt := HH.out.1.head.lt
  have hltM := HH.out.1.map.lt
  have hltS := HH.out.1.ltS
  have hz2 := hb2.size
  have hS3 := hSw1.held hb3
  have HLay := lay_any (hbd.held hb3) (first := f2) (size := size) (gen := g2) (len := n3) (cap := cap2) (a := a2) (rs := L) HN3.out.symm hc2 hA2 (fun b off e => ⟨(hR2 b off e).held hb3, by have := (hblk b off e).2; have := hb3.size; omega, by have := (hblk b off e).1; simp; omega⟩) (fun r hr => ⟨(hrr r hr).1, (hrr r hr).2.1⟩) (by omega) (by omega)
  clear l4 l5 l6 l7 l9 HO hrr hblk hR2 hSw1 hbd hA2
  have HL3 := lg_head hS3
  have l9 := HL3.at_ 9
  have p0 := P3.at_ 0
  have p1 := P3.at_ 1
  have p2 := P3.at_ 2
  have p3 := P3.at_ 3
  have H3 := Lib.hid (And.intro hS3 (And.intro P3 (next hb1 hb3)))
  clear hS3 P3 HL3 hb1 hb2 hb3
  go_wp2_with fail
  generalize w2.alloc (.cells #[.pointer (some ⟨d, 0, none⟩), .int .i64 f2, .int .i64 size, .int .u32 g2] 65) = w3 at *
  refine HLay.mono ?_
  rintro e w4 ⟨rfl, hD4, hT4⟩
  obtain ⟨hS3, P3, hb3⟩ := H3.out
  have hdis := HH.out.2.2.1
  have hl1 := hdis lb (mem_fp.2 (.inl rfl))
  simp only [List.mem_cons, List.not_mem_nil, or_false, not_or] at hl1
  obtain ⟨hl1, hl2, hl3⟩ := hl1
  have hS4 := hS3.turn hT4 hdis
  have HL4 := lg_head hS4
  have P4 := P3.turn hT4 (by simp; omega)
  have hS5 : St 74 (lgX d first size gen len true) (w4.setCell ⟨lb, 9, none⟩ (.bool true)) lb o fl id T.lease cn cm T.own T.floor :=
    ⟨HL4.store 9 (.bool true), hS4.owns.of_block (fun b hb => Below.heap_setCell _ _ _ _ (Ne.symm (hS4.head_ne (.inl hb)))), hS4.floors.of_block (fun b hb => Below.heap_setCell _ _ _ _ (Ne.symm (hS4.head_ne (.inr hb)))), hS4.apart, hS4.small, hS4.lease_lt, hS4.counts⟩
  have P5 : Blk 65 (w4.setCell ⟨lb, 9, none⟩ (.bool true)) w2.heap.size #[.pointer (some ⟨d, 0, none⟩), .int .i64 f2, .int .i64 size, .int .u32 g2] := (Below.heap_setCell _ _ _ _ (by show w2.heap.size ≠ lb; omega)).trans P4
  have hD5 : Dk (w4.setCell ⟨lb, 9, none⟩ (.bool true)) d S M n _ _ _ := hD4.of_blocks (Below.heap_setCell _ _ _ _ (by show d ≠ lb; omega)) (Below.heap_setCell _ _ _ _ (by show S ≠ lb; omega)) (Below.heap_setCell _ _ _ _ (by show M ≠ lb; omega))
  have hT5 : Turn [d, S, M, lb] w (w4.setCell ⟨lb, 9, none⟩ (.bool true)) := ((Turn.of_below _ hb3).trans (hT4.mono (by simp))).trans (Turn.setCell _ (p := ⟨lb, 9, none⟩) (by simp) _)
  have HBG := begin_well hS5 hD5 (by decide) (by decide) (first := f2) (size := size) (gen := g2) (by omega) (by omega) h0 h1
  clear l9 p0 p1 p2 p3 HLay
  have l9 := HL4.at_ 9
  have f9 := HL4.free 9
  have p0 := P5.at_ 0
  have p1 := P5.at_ 1
  have p2 := P5.at_ 2
  have p3 := P5.at_ 3
  have H5 := Lib.hid (And.intro hS5 (And.intro P5 hT5))
  clear hS3 hS4 hS5 HL4 P3 P4 P5 hT4 hT5 hD4 hD5 H3
  go_wp2_with fail
  generalize w4.setCell ⟨lb, 9, none⟩ (.bool true) = x5 at *
  refine HBG.mono ?_
  rintro e w6 ⟨rfl, hD6, hT6⟩
  obtain ⟨hS5, P5, hT5⟩ := H5.out
  have hS6 := hS5.turn hT6 hdis
  have HL6 := lg_head hS6
  have hz5 := hT5.size
  have P6 := P5.turn hT6 (by simp; omega)
  clear l9 f9 p0 p1 p2 p3 HBG
  have l4 := HL6.at_ 4
  have f4 := HL6.free 4
  have l5 := HL6.at_ 5
  have f5 := HL6.free 5
  have l6 := HL6.at_ 6
  have f6 := HL6.free 6
  have l7 := HL6.at_ 7
  have f7 := HL6.free 7
  have l8 := HL6.at_ 8
  have f8 := HL6.free 8
  have l9 := HL6.at_ 9
  have f9 := HL6.free 9
  have p0 := P6.at_ 0
  have p1 := P6.at_ 1
  have p2 := P6.at_ 2
  have p3 := P6.at_ 3
  have far : ∀ b, b ≠ lb → ((((((w6.setCell ⟨lb, 4, none⟩ (.pointer (some ⟨d, 0, none⟩))).setCell ⟨lb, 5, none⟩ (.int .i64 f2)).setCell ⟨lb, 6, none⟩ (.int .i64 size)).setCell ⟨lb, 7, none⟩ (.int .u32 g2)).setCell ⟨lb, 8, none⟩ (.int .i64 n3)).setCell ⟨lb, 9, none⟩ (.bool false)).heap[b]? = w6.heap[b]? := fun b hb => by
    rw [Below.heap_setCell _ _ _ _ hb, Below.heap_setCell _ _ _ _ hb, Below.heap_setCell _ _ _ _ hb, Below.heap_setCell _ _ _ _ hb, Below.heap_setCell _ _ _ _ hb, Below.heap_setCell _ _ _ _ hb]
  have hS7 : St 74 (lgX d f2 size g2 n3 false) ((((((w6.setCell ⟨lb, 4, none⟩ (.pointer (some ⟨d, 0, none⟩))).setCell ⟨lb, 5, none⟩ (.int .i64 f2)).setCell ⟨lb, 6, none⟩ (.int .i64 size)).setCell ⟨lb, 7, none⟩ (.int .u32 g2)).setCell ⟨lb, 8, none⟩ (.int .i64 n3)).setCell ⟨lb, 9, none⟩ (.bool false)) lb o fl id T.lease cn cm T.own T.floor :=
    ⟨((((((HL6.store 4 (.pointer (some ⟨d, 0, none⟩))).store 5 (.int .i64 f2)).store 6 (.int .i64 size)).store 7 (.int .u32 g2)).store 8 (.int .i64 n3)).store 9 (.bool false)), hS6.owns.of_block (fun b hb => far b (Ne.symm (hS6.head_ne (.inl hb)))), hS6.floors.of_block (fun b hb => far b (Ne.symm (hS6.head_ne (.inr hb)))), hS6.apart, hS6.small, hS6.lease_lt, hS6.counts⟩
  have hD7 : Dk ((((((w6.setCell ⟨lb, 4, none⟩ (.pointer (some ⟨d, 0, none⟩))).setCell ⟨lb, 5, none⟩ (.int .i64 f2)).setCell ⟨lb, 6, none⟩ (.int .i64 size)).setCell ⟨lb, 7, none⟩ (.int .u32 g2)).setCell ⟨lb, 8, none⟩ (.int .i64 n3)).setCell ⟨lb, 9, none⟩ (.bool false)) d S M n _ _ _ := hD6.of_blocks (far d (by omega)) (far S (by omega)) (far M (by omega))
  have hT7 : Turn [d, S, M, lb] w ((((((w6.setCell ⟨lb, 4, none⟩ (.pointer (some ⟨d, 0, none⟩))).setCell ⟨lb, 5, none⟩ (.int .i64 f2)).setCell ⟨lb, 6, none⟩ (.int .i64 size)).setCell ⟨lb, 7, none⟩ (.int .u32 g2)).setCell ⟨lb, 8, none⟩ (.int .i64 n3)).setCell ⟨lb, 9, none⟩ (.bool false)) := (((((((hT5.trans (hT6.mono (by simp))).trans (Turn.setCell _ (p := ⟨lb, 4, none⟩) (by simp) _)).trans (Turn.setCell _ (p := ⟨lb, 5, none⟩) (by simp) _)).trans (Turn.setCell _ (p := ⟨lb, 6, none⟩) (by simp) _)).trans (Turn.setCell _ (p := ⟨lb, 7, none⟩) (by simp) _)).trans (Turn.setCell _ (p := ⟨lb, 8, none⟩) (by simp) _)).trans (Turn.setCell _ (p := ⟨lb, 9, none⟩) (by simp) _))
  have H7 := Lib.hid (And.intro hS7 (And.intro hD7 hT7))
  clear hS5 P5 hT5 hS6 HL6 P6 far hS7 hD7 hT7 hD6 hT6 H5
  go_wp2_with fail
  go_ret
  obtain ⟨hS7, hD7, hT7⟩ := H7.out
  refine ⟨rfl, xs, ys, es, fs, HE.out, ?_, ?_, hT7⟩
  · rw [← HLL.out, ← HN3.out]
    exact hD7
  · rw [← HLL.out, ← HN3.out]
    exact ⟨cn, cm, hnm, hS7⟩
end
end Go.Proofs.YtpgcnjoodoabhaaGreat

namespace Go.Proofs.YtpgcnjoodoabhaaGreat
open Go.RowKit Rm

section
variable {w w' : World} {d S M n : Nat} {safe : Nat → List UInt8} {wn : Int → Option (List UInt8)}
set_option maxRecDepth 20000 in
set_option maxHeartbeats 4000000 in
theorem append_full {lb first size gen len f2 g2 : Nat} {o fl : Option Nat} {id N : Nat} {T : Sm} (hN : Notes 74 (lgX d first size gen len false) w lb o fl id N T) (hNN : N < 100000) (h : Dk w d S M n safe wn (-1))
    (hdis : ∀ x, x ∈ fp lb o fl → x ∉ [d, S, M]) (hlen : len ≤ 100000) (hfull : size ≤ 1 + len) (hgood : GoodSm T) (hsf : first ≤ size) (hsz : size ≤ 1000) (hf2q : f2 = size - first) (hg2q : g2 = gen + 1) (hn : f2 + size ≤ n) (hgq : gen < 4294967294) (h0 : 0 < id) (h1 : id < 4294967296)
    (hroom : ∀ (xs : List Pk) (ys : List Ky) (es : List (ElP T.own)) (fs : List (ElK T.floor)), EsP T.own xs es → xs.Pairwise ltP → (∀ x, x ∈ xs ↔ x.ok ∧ (T.own x).isSome = true) → EsK T.floor ys fs → ys.Pairwise ltK → (∀ x, x ∈ ys ↔ x.ok ∧ (T.floor x).isSome = true) → (recsOf T es fs).length + 2 ≤ size) {k : Int} {g l rid a : Nat} {rn : Int} {on : Bool} {s m : Nat} (hf : (⟨k, g, l, rid, a, rn, on, s, m⟩ : Rc).Fits) (hr : right ⟨k, g, l, rid, a, rn, on, s, m⟩ = true) (hk : k ≠ 1) :
    Calls Tryz.prog 12 #[.pointer (some ⟨lb, 0, none⟩), .agg #[.int .i64 k, .int .u32 g, .int .u32 l, .int .u32 rid, .int .u32 a, .int .i64 rn, .bool on, .int .u32 s, .int .u16 m]] w fun e w' => e = .returned (.int .i64 0) ∧ ∃ (xs : List Pk) (ys : List Ky) (es : List (ElP T.own)) (fs : List (ElK T.floor)), (EsP T.own xs es ∧ xs.Pairwise ltP ∧ (∀ x, x ∈ xs ↔ x.ok ∧ (T.own x).isSome = true) ∧ EsK T.floor ys fs ∧ ys.Pairwise ltK ∧ (∀ x, x ∈ ys ↔ x.ok ∧ (T.floor x).isSome = true)) ∧
      Dk w' d S M n (synced (synced (synced safe (layW wn f2 g2 (recsOf T es fs) (recsOf T es fs).length)) (updD (fun _ => none) ((f2 : Int) + (0 : Nat)) (u8s (Rm.bytes ⟨1, g2, 0, id, 0, 0, false, 0, 0⟩)))) (updD (fun _ => none) ((f2 : Int) + ((1 + (recsOf T es fs).length : Nat) : Int)) (u8s (Rm.bytes ⟨k, g2, 1 + (recsOf T es fs).length, rid, a, rn, on, s, m⟩)))) (fun _ => none) (-1) ∧
      ∃ o' fl', Notes 74 (lgX d f2 size g2 ((recsOf T es fs).length + 1) false) w' lb o' fl' id (N + 1) (app T ⟨k, g, l, rid, a, rn, on, s, m⟩) ∧ Turn ([d, S, M] ++ fp lb o fl) w w' ∧ ∀ y, y ∈ fp lb o' fl' → y ∈ fp lb o fl ∨ w.heap.size ≤ y := by
  obtain ⟨cn, cm, hnm, hS⟩ := hN
  have n2 := h.n2
  have hk1 : (k == 1) = false := beq_eq_false_iff_ne.2 hk
  have HGO := Lib.hid hgood
  have HROOM := Lib.hid hroom
  have hr' := hr
  have RB := Blk.new w 41 #[.int .i64 k, .int .u32 g, .int .u32 l, .int .u32 rid, .int .u32 a, .int .i64 rn, .bool on, .int .u32 s, .int .u16 m]
  have hb := below_new w (.cells #[.int .i64 k, .int .u32 g, .int .u32 l, .int .u32 rid, .int .u32 a, .int .i64 rn, .bool on, .int .u32 s, .int .u16 m] 41)
  go_enter Tryz.func12, Tryz.ntmps12
  have HH := Lib.hid (And.intro h (And.intro hS (And.intro hf (And.intro hr' (And.intro RB hb)))))
  have HRT := prright_eq hf.a hr (w.alloc (.cells #[.int .i64 k, .int .u32 g, .int .u32 l, .int .u32 rid, .int .u32 a, .int .i64 rn, .bool on, .int .u32 s, .int .u16 m] 41))
  have HDIS := Lib.hid hdis
  clear h hS hf hr hr' RB hb hdis hk hgood hroom
  go_wp2_with fail
  generalize w.alloc (.cells #[.int .i64 k, .int .u32 g, .int .u32 l, .int .u32 rid, .int .u32 a, .int .i64 rn, .bool on, .int .u32 s, .int .u16 m] 41) = W at *
  refine HRT.mono ?_
  rintro e x1 ⟨rfl, hb1⟩
  obtain ⟨h, hS, hf, hr', RB, hb⟩ := HH.out
  have hbb := next hb hb1
  have RB1 := RB.held hb1
  have hS1 := hS.held hbb
  have HF := full_log hS1 hlen (q := true) (decide_eq_true (by omega))
  have r0 := RB1.at_ 0
  have H1 := Lib.hid (And.intro hbb (And.intro RB1 hS1))
  clear h hS hf hr' RB hb hbb RB1 hS1 HRT hb1
  go_wp2_with fail
  refine HF.mono ?_
  rintro e xa ⟨rfl, hba⟩
  have hCO := compact_ok (f2 := f2) (g2 := g2) ⟨cn, cm, hnm, H1.out.2.2.held hba⟩ (HH.out.1.held (next H1.out.1 hba)) HDIS.out HGO.out hsf hsz hf2q hg2q hn hgq h0 h1 HROOM.out
  have hg2b : g2 < 4294967296 := by omega
  clear HF r0 hf2q hg2q
  go_wp2_with fail
  refine hCO.mono ?_
  rintro e x2 ⟨rfl, xs, ys, es, fs, hfa, hDc, ⟨cn', cm', hnm', hSc⟩, hTc⟩
  have hrm := HROOM.out xs ys es fs hfa.1 hfa.2.1 hfa.2.2.1 hfa.2.2.2.1 hfa.2.2.2.2.1 hfa.2.2.2.2.2
  obtain ⟨h, hS, hf, hr, RB, hb⟩ := HH.out
  obtain ⟨hbb, RB1, hS1⟩ := H1.out
  obtain ⟨L, hL⟩ : ∃ L, L = recsOf T es fs := ⟨_, rfl⟩
  rw [← hL] at hrm hDc hSc
  obtain ⟨n3, hn3⟩ : ∃ n3, n3 = L.length := ⟨_, rfl⟩
  rw [← hn3] at hrm hDc hSc
  have HLN := Lib.hid (And.intro hL (And.intro hn3 hfa))
  clear hL hn3 hfa hCO
  have hf2 : (⟨k, g2, 1 + n3, rid, a, rn, on, s, m⟩ : Rc).Fits := ⟨hf.k1, hf.k2, hg2b, by show 1 + n3 < 4294967296; omega, hf.id, hf.a, hf.n1, hf.n2, hf.seq, hf.met⟩
  have hr2 : right ⟨k, g2, 1 + n3, rid, a, rn, on, s, m⟩ = true := by rw [← right_two] at hr ⊢; unfold right2 at hr ⊢; exact hr
  have hlb := hS.head.lt
  have hlt := h.head.lt
  have hltM := h.map.lt
  have hltS := h.ltS
  have hT0 : Turn ([d, S, M] ++ fp lb o fl) w x2 := (Turn.of_below _ (next hbb hba)).trans (hTc.mono (by intro x hx; simp at hx ⊢; rcases hx with h | h | h | h <;> simp [h, mem_fp]))
  have RB2 := ((RB1.held hba).turn hTc (by simp; omega)).drew
  have hS2 := hSc.drew
  have HL := lg_head hS2
  have hl1 := HDIS.out lb (mem_fp.2 (.inl rfl))
  simp only [List.mem_cons, List.not_mem_nil, or_false, not_or] at hl1
  obtain ⟨hl1, hl2, hl3⟩ := hl1
  have l4 : x2.drew.cell? ⟨lb, 4, none⟩ = some (.pointer (some ⟨d, 0, none⟩)) := HL.at_ 4
  have l5 : x2.drew.cell? ⟨lb, 5, none⟩ = some (.int .i64 f2) := HL.at_ 5
  have l6 : x2.drew.cell? ⟨lb, 6, none⟩ = some (.int .i64 size) := HL.at_ 6
  have l7 : x2.drew.cell? ⟨lb, 7, none⟩ = some (.int .u32 g2) := HL.at_ 7
  have r0 : x2.drew.cell? ⟨w.heap.size, 0, none⟩ = some (.int .i64 k) := RB2.at_ 0
  have r1 : x2.drew.cell? ⟨w.heap.size, 1, none⟩ = some (.int .u32 g) := RB2.at_ 1
  have r2 : x2.drew.cell? ⟨w.heap.size, 2, none⟩ = some (.int .u32 l) := RB2.at_ 2
  have r3 : x2.drew.cell? ⟨w.heap.size, 3, none⟩ = some (.int .u32 rid) := RB2.at_ 3
  have r4 : x2.drew.cell? ⟨w.heap.size, 4, none⟩ = some (.int .u32 a) := RB2.at_ 4
  have r5 : x2.drew.cell? ⟨w.heap.size, 5, none⟩ = some (.int .i64 rn) := RB2.at_ 5
  have r6 : x2.drew.cell? ⟨w.heap.size, 6, none⟩ = some (.bool on) := RB2.at_ 6
  have r7 : x2.drew.cell? ⟨w.heap.size, 7, none⟩ = some (.int .u32 s) := RB2.at_ 7
  have r8 : x2.drew.cell? ⟨w.heap.size, 8, none⟩ = some (.int .u16 m) := RB2.at_ 8
  have HNX := next_any hS2 (by omega)
  have HPUT := put_at hDc.drew (by decide) (by decide) (first := f2) (size := size) (gen := g2) (z := 1 + (n3 : Int)) (place := 1 + n3) (by push_cast; rfl) (by omega) (g := g) (l := l) hf2 hr2
  have H2 := Lib.hid (And.intro hT0 (And.intro RB2 hS2))
  clear h hS hf hr hf2 hr2 RB hb hbb RB1 hS1 hT0 RB2 hS2 HL H1 hba hTc hDc hSc
  go_wp2_with fail
  go_region_held3 (fun w' => w'.cell? ⟨lb, 4, none⟩ = some (.pointer (some ⟨d, 0, none⟩)) ∧ w'.cell? ⟨lb, 5, none⟩ = some (.int .i64 f2) ∧ w'.cell? ⟨lb, 6, none⟩ = some (.int .i64 size) ∧ w'.cell? ⟨lb, 7, none⟩ = some (.int .u32 g2) ∧ w'.cell? ⟨w.heap.size, 0, none⟩ = some (.int .i64 k) ∧ w'.cell? ⟨w.heap.size, 1, none⟩ = some (.int .u32 g) ∧ w'.cell? ⟨w.heap.size, 2, none⟩ = some (.int .u32 l) ∧ w'.cell? ⟨w.heap.size, 3, none⟩ = some (.int .u32 rid) ∧ w'.cell? ⟨w.heap.size, 4, none⟩ = some (.int .u32 a) ∧ w'.cell? ⟨w.heap.size, 5, none⟩ = some (.int .i64 rn) ∧ w'.cell? ⟨w.heap.size, 6, none⟩ = some (.bool on) ∧ w'.cell? ⟨w.heap.size, 7, none⟩ = some (.int .u32 s) ∧ w'.cell? ⟨w.heap.size, 8, none⟩ = some (.int .u16 m))
    (first | exact ⟨l4, l5, l6, l7, r0, r1, r2, r3, r4, r5, r6, r7, r8⟩ | exact ⟨hT3.cell l4 (by simp; omega), hT3.cell l5 (by simp; omega), hT3.cell l6 (by simp; omega), hT3.cell l7 (by simp; omega), hT3.cell r0 (by simp; omega), hT3.cell r1 (by simp; omega), hT3.cell r2 (by simp; omega), hT3.cell r3 (by simp; omega), hT3.cell r4 (by simp; omega), hT3.cell r5 (by simp; omega), hT3.cell r6 (by simp; omega), hT3.cell r7 (by simp; omega), hT3.cell r8 (by simp; omega)⟩ | go_keep)
    (first | (go_at_call 36; refine HNX.mono ?_; rintro e w' ⟨rfl, rfl⟩)
           | (go_at_call 35; refine HPUT.mono ?_; rintro e x3 ⟨⟨rfl, hD3⟩, hT3⟩))
  obtain ⟨hT0, RB2, hS2⟩ := H2.out
  have hS3 := hS2.turn hT3 HDIS.out
  have hwl : w.heap.size ∉ [d, S, M] := by simp; omega
  have RB3 := RB2.turn hT3 hwl
  have HL3 := lg_head hS3
  have hfl : ∀ x, x ∈ fp lb o fl → x < w.heap.size := fun x hx => HH.out.2.1.lt hx
  have hS4 : St 74 (lgX d f2 size g2 (n3 + 1) false) (x3.setCell ⟨lb, 8, none⟩ (.int .i64 ((n3 : Int) + 1))) lb o fl id T.lease cn' cm' T.own T.floor :=
    ⟨HL3.store 8 (.int .i64 ((n3 : Int) + 1)), hS3.owns.of_block (fun b hb => Below.heap_setCell _ _ _ _ (Ne.symm (hS3.head_ne (.inl hb)))), hS3.floors.of_block (fun b hb => Below.heap_setCell _ _ _ _ (Ne.symm (hS3.head_ne (.inr hb)))), hS3.apart, hS3.small, hS3.lease_lt, hS3.counts⟩
  have RB4 : Blk 41 (x3.setCell ⟨lb, 8, none⟩ (.int .i64 ((n3 : Int) + 1))) w.heap.size _ := (Below.heap_setCell _ _ _ _ (by show w.heap.size ≠ lb; omega)).trans RB3
  have hD4 : Dk (x3.setCell ⟨lb, 8, none⟩ (.int .i64 ((n3 : Int) + 1))) d S M n _ _ _ := hD3.of_blocks (Below.heap_setCell _ _ _ _ (by show d ≠ lb; omega)) (Below.heap_setCell _ _ _ _ (by show S ≠ lb; omega)) (Below.heap_setCell _ _ _ _ (by show M ≠ lb; omega))
  have l8 := HL3.at_ 8
  have f8 := HL3.free 8
  have hT4 : Turn ([d, S, M] ++ fp lb o fl) w (x3.setCell ⟨lb, 8, none⟩ (.int .i64 ((n3 : Int) + 1))) := (hT0.drew.trans (hT3.mono (by simp))).trans (Turn.setCell _ (p := ⟨lb, 8, none⟩) (List.mem_append_right _ (mem_fp.2 (.inl rfl))) _)
  have hw8 : IntKind.i64.wrap ((n3 : Int) + 1) = (n3 : Int) + 1 := by simp only [IntKind.wrap, IntKind.bits, IntKind.signed]; simp; omega
  have HA := apply_any (S := T) (N := N) ⟨cn', cm', hnm', hS4.drew⟩ hNN ⟨k, g, l, rid, a, rn, on, s, m⟩ HH.out.2.2.1
  have H4 := Lib.hid (And.intro RB4 (And.intro hT4 (And.intro hD4 (And.intro hS4 hfl))))
  clear l4 l5 l6 l7 r0 r1 r2 r3 r4 r5 r6 r7 r8 hT0 RB2 hS2 hS3 RB3 HL3 hfl hS4 RB4 hT4 hD4 hT3 hD3 HNX HPUT H2
  go_wp2_with fail
  obtain ⟨RB4, hT4, hD4, hS4, hfl⟩ := H4.out
  have hsz4 := hT4.size
  have r0 : (x3.setCell ⟨lb, 8, none⟩ (.int .i64 ((n3 : Int) + 1))).drew.cell? ⟨w.heap.size, 0, none⟩ = some (.int .i64 k) := RB4.at_ 0
  have r1 : (x3.setCell ⟨lb, 8, none⟩ (.int .i64 ((n3 : Int) + 1))).drew.cell? ⟨w.heap.size, 1, none⟩ = some (.int .u32 g) := RB4.at_ 1
  have r2 : (x3.setCell ⟨lb, 8, none⟩ (.int .i64 ((n3 : Int) + 1))).drew.cell? ⟨w.heap.size, 2, none⟩ = some (.int .u32 l) := RB4.at_ 2
  have r3 : (x3.setCell ⟨lb, 8, none⟩ (.int .i64 ((n3 : Int) + 1))).drew.cell? ⟨w.heap.size, 3, none⟩ = some (.int .u32 rid) := RB4.at_ 3
  have r4 : (x3.setCell ⟨lb, 8, none⟩ (.int .i64 ((n3 : Int) + 1))).drew.cell? ⟨w.heap.size, 4, none⟩ = some (.int .u32 a) := RB4.at_ 4
  have r5 : (x3.setCell ⟨lb, 8, none⟩ (.int .i64 ((n3 : Int) + 1))).drew.cell? ⟨w.heap.size, 5, none⟩ = some (.int .i64 rn) := RB4.at_ 5
  have r6 : (x3.setCell ⟨lb, 8, none⟩ (.int .i64 ((n3 : Int) + 1))).drew.cell? ⟨w.heap.size, 6, none⟩ = some (.bool on) := RB4.at_ 6
  have r7 : (x3.setCell ⟨lb, 8, none⟩ (.int .i64 ((n3 : Int) + 1))).drew.cell? ⟨w.heap.size, 7, none⟩ = some (.int .u32 s) := RB4.at_ 7
  have r8 : (x3.setCell ⟨lb, 8, none⟩ (.int .i64 ((n3 : Int) + 1))).drew.cell? ⟨w.heap.size, 8, none⟩ = some (.int .u16 m) := RB4.at_ 8
  have hnf : w.heap.size ∉ fp lb o fl := fun hx => by have := hfl _ hx; omega
  clear RB4 hT4 hD4 hS4 hfl l8 f8
  generalize x3.setCell ⟨lb, 8, none⟩ (.int .i64 ((n3 : Int) + 1)) = x4 at *
  go_region_held3 (fun w' => w'.cell? ⟨w.heap.size, 0, none⟩ = some (.int .i64 k) ∧ w'.cell? ⟨w.heap.size, 1, none⟩ = some (.int .u32 g) ∧ w'.cell? ⟨w.heap.size, 2, none⟩ = some (.int .u32 l) ∧ w'.cell? ⟨w.heap.size, 3, none⟩ = some (.int .u32 rid) ∧ w'.cell? ⟨w.heap.size, 4, none⟩ = some (.int .u32 a) ∧ w'.cell? ⟨w.heap.size, 5, none⟩ = some (.int .i64 rn) ∧ w'.cell? ⟨w.heap.size, 6, none⟩ = some (.bool on) ∧ w'.cell? ⟨w.heap.size, 7, none⟩ = some (.int .u32 s) ∧ w'.cell? ⟨w.heap.size, 8, none⟩ = some (.int .u16 m))
    (first | exact ⟨r0, r1, r2, r3, r4, r5, r6, r7, r8⟩ | exact ⟨hT5.cell r0 hnf, hT5.cell r1 hnf, hT5.cell r2 hnf, hT5.cell r3 hnf, hT5.cell r4 hnf, hT5.cell r5 hnf, hT5.cell r6 hnf, hT5.cell r7 hnf, hT5.cell r8 hnf⟩ | go_keep)
    (first | (go_at_call 37; refine HA.mono ?_; rintro e x5 ⟨rfl, o', fl', hN5, hT5, hfp5⟩))
  obtain ⟨-, hT4, hD4, -, -⟩ := H4.out
  have hD5 := hD4.drew.of_blocks (hT5.block _ hD4.drew.head.lt (fun hx => HDIS.out d hx (by simp))) (hT5.block _ hD4.drew.ltS (fun hx => HDIS.out S hx (by simp))) (hT5.block _ hD4.drew.map.lt (fun hx => HDIS.out M hx (by simp)))
  have hTT := hT4.drew.trans (hT5.mono (fun i hi => List.mem_append_right _ hi))
  have hfp6 : ∀ y, y ∈ fp lb o' fl' → y ∈ fp lb o fl ∨ w.heap.size ≤ y := fun y hy => (hfp5 y hy).imp_right fun h => Nat.le_trans hsz4 h
  clear r0 r1 r2 r3 r4 r5 r6 r7 r8 HA
  go_wp2_with fail
  go_ret
  obtain ⟨hL, hn3, hfa⟩ := HLN.out
  refine ⟨rfl, xs, ys, es, fs, hfa, ?_, o', fl', ?_, hTT, hfp6⟩
  · rw [← hL, ← hn3]; exact hD5
  · rw [← hL, ← hn3]; exact hN5
end
end Go.Proofs.YtpgcnjoodoabhaaGreat

