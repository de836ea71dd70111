/-
  Package state: what Records makes of what is noted; its list in memory.
  Package state: Records.
  Package router: subjects.
-/
import Derived.Test.YtmhcjhbmeohjdaaGreatS14
import Derived.Test.YtmhcjhbmeohjdaaGreatS15
import Derived.Test.YtmhcjhbmeohjdaaGreatS05
import Derived.Test.YtmhcjhbmeohjdaaGreatS16
import Derived.Maps.OwnIn
import Derived.Deep.RegionLaw
import Derived.Test.YtmhcjhbmeohjdaaGreatS09
namespace Go.Proofs.YtmhcjhbmeohjdaaGreat
open Go.RowKit Rm

def rO {f : Pk → Option Bool} (e : ElP f) : Rc := ⟨2, 0, 0, 0, e.key.a, e.key.n, e.val, 0, 0⟩
def rF {f : Ky → Option (Nat × Nat)} (e : ElK f) : Rc := ⟨4, 0, 0, e.key.id, e.key.a, e.key.n, false, e.val.1, e.val.2⟩
def rL (lease : Nat) : List Rc := if lease = 0 then [] else [⟨3, 0, 0, 0, 0, 0, false, lease, 0⟩]
def rcells (r : Rc) : List Value := (rcl r).toList
theorem infoRec : (Tryz.prog.info? 117).map (fun i => (i.zero, i.size, i.bytes)) = some (some (.agg #[.int .i64 0, .int .u32 0, .int .u32 0, .int .u32 0, .int .u32 0, .int .i64 0, .bool false, .int .u32 0, .int .u16 0]), 9, 56) := by kernel_rfl

/-- the list: in box B; none of its row within F0 .. F1 -/
def Lst (w0 : World) (n₀ B F0 F1 : Nat) (rs : List Rc) (W : World) : Prop :=
  (∃ v, Boxed W B 168 v ∧ W.ownsRow n₀ 117 9 v rs.length (rs.flatMap rcells) ∧ (v = .slice none 0 0 ↔ rs = []) ∧ (∀ b, v.ownBlock = some b → b < F0 ∨ F1 ≤ b)) ∧ Below n₀ w0 W ∧ F1 ≤ W.heap.size
theorem lst_own {β : Type} {w0 : World} {n₀ B F0 F1 B' : Nat} (f : β → List Rc) (h1 : n₀ ≤ w0.heap.size) (h2 : n₀ ≤ B') : OwnFrom B' (fun s W => Lst w0 n₀ B F0 F1 (f s) W) :=
  OwnFrom.and (Own.from (holdsRow_own n₀ B 168 117 9 (fun s => (f s).length) (fun s => (f s).flatMap rcells) (fun s v => (v = .slice none 0 0 ↔ f s = []) ∧ (∀ b, v.ownBlock = some b → b < F0 ∨ F1 ≤ b))) _)
    (OwnFrom.and (ownFrom_below h1 h2) (fun _ _ _ _ hs hg _ => Nat.le_trans hs hg.size))
theorem Lst.alloc {w0 W : World} {n₀ B F0 F1 : Nat} {rs : List Rc} (h : Lst w0 n₀ B F0 F1 rs W) (h1 : n₀ ≤ w0.heap.size) (o : Obj) : Lst w0 n₀ B F0 F1 rs (W.alloc o) :=
  (lst_own (β := Unit) (B' := n₀) (fun _ => rs) h1 (Nat.le_refl _)).alloc (s := ()) o h
theorem Lst.held {w0 W W' : World} {n₀ B F0 F1 : Nat} {rs : List Rc} (h : Lst w0 n₀ B F0 F1 rs W) (hb : Below W.heap.size W W') (h1 : n₀ ≤ w0.heap.size) : Lst w0 n₀ B F0 F1 rs W' := by
  obtain ⟨⟨v, hv, hr, hn, ho⟩, hB, hF⟩ := h
  have hg : W.grownBy W' none := ⟨hb.os, hb.tape, hb.output, hb.size, fun k hk _ => hb.block k hk⟩
  refine ⟨⟨v, hv.kept hg (by simp), hr.kept hg ?_, hn, ho⟩, hB.trans (hb.mono (Nat.le_trans h1 hB.size)), Nat.le_trans hF hb.size⟩
  rcases hr.2 with ⟨rfl, _⟩ | ⟨g, cap, cur, rfl, _⟩
  · exact .inl rfl
  · exact .inr (by simp [Value.ownBlock])
theorem Lst.drew {w0 W : World} {n₀ B F0 F1 : Nat} {rs : List Rc} (h : Lst w0 n₀ B F0 F1 rs W) (h1 : n₀ ≤ w0.heap.size) : Lst w0 n₀ B F0 F1 rs W.drew := h.held (Below.refl _ _).drew h1

theorem Lst.rebase {w0 W W' : World} {n₀ B F0 F1 : Nat} {rs : List Rc} (h : Lst w0 n₀ B F0 F1 rs W) (hb : Below W.heap.size W W') (h1 : n₀ ≤ w0.heap.size) : Lst w0 n₀ B W.heap.size W'.heap.size rs W' := by
  obtain ⟨⟨v, hv, hr, hn, ho⟩, hB, hF⟩ := h.held hb h1
  refine ⟨⟨v, hv, hr, hn, fun b hb' => ?_⟩, hB, Nat.le_refl _⟩
  obtain ⟨⟨v0, hv0, hr0, -, -⟩, -, -⟩ := h
  have hv1 := (hb.block _ hv0.lt).trans hv0
  rw [show W'.heap[B]? = _ from hv] at hv1
  simp only [Option.some.injEq, Obj.cells.injEq, Array.mk.injEq, List.cons.injEq, and_true] at hv1
  subst hv1
  rcases hr0.2 with ⟨rfl, _⟩ | ⟨g, cap, cur, rfl, _, hg, _⟩
  · cases hb'
  · cases hb'
    exact .inl (Array.getElem?_eq_some_iff.1 hg).1

/-- behind 'list = append(list, r)' -/
theorem Lst.push {w0 W w1 : World} {n₀ B F0 F1 g' cap' : Nat} {rs : List Rc} {r : Rc} {v : Value} {tmp : Obj} (h1 : n₀ ≤ w0.heap.size) (hB : n₀ ≤ B)
    (hv : Boxed W B 168 v) (hrow : W.ownsRow n₀ 117 9 v rs.length (rs.flatMap rcells)) (ho : ∀ b, v.ownBlock = some b → b < F0 ∨ F1 ≤ b) (hb : Below n₀ w0 W) (hF : F1 ≤ W.heap.size)
    (hown : w1.ownsRow n₀ 117 9 (.slice (some ⟨g', 0, none⟩) (rs.length + 1) cap') (rs.length + 1) (rs.flatMap rcells ++ rcells r)) (hgrow : (W.alloc tmp).grownBy w1 v.ownBlock) (hat : (Value.slice (some ⟨g', 0, none⟩) (rs.length + 1) cap').ownBlock = v.ownBlock ∨ (Value.slice (some ⟨g', 0, none⟩) (rs.length + 1) cap').ownBlock = some (W.alloc tmp).heap.size) :
    Boxed w1 B 168 v ∧ Lst w0 n₀ B F0 F1 (rs ++ [r]) (w1.setCell ⟨B, 0, none⟩ (.slice (some ⟨g', 0, none⟩) (rs.length + 1) cap')) ∧ KeepsOthers W (w1.setCell ⟨B, 0, none⟩ (.slice (some ⟨g', 0, none⟩) (rs.length + 1) cap')) ∧ Below n₀ W (w1.setCell ⟨B, 0, none⟩ (.slice (some ⟨g', 0, none⟩) (rs.length + 1) cap')) ∧
      (∀ b, b < W.heap.size → b ≠ B → some b ≠ v.ownBlock → (w1.setCell ⟨B, 0, none⟩ (.slice (some ⟨g', 0, none⟩) (rs.length + 1) cap')).heap[b]? = W.heap[b]?) := by
  obtain ⟨hv1, hv2, hr2, hk2, hb2⟩ := hv.appended (by decide) hrow (Nat.le_trans h1 hb.size) hB hown hgrow
  refine ⟨hv1, ⟨⟨_, hv2, by simpa using hr2, by simp, fun b hb' => ?_⟩, hb.trans hb2, Nat.le_trans hF hb2.size⟩, hk2, hb2, fun b hlt hne hno => ?_⟩
  · rcases hat with e | e
    · exact ho b (by rw [← e]; exact hb')
    · rw [e, size_new] at hb'
      cases hb'
      exact .inr (by omega)
  · rw [Below.heap_setCell _ _ _ _ (by exact hne), hgrow.block b (by rw [size_new]; omega) hno]
    exact (below_new W tmp).block b hlt
/-- what the list's row is none of -/
theorem row_other {W : World} {n₀ k b : Nat} {v : Value} {xs : List Value} (h : W.ownsRow n₀ 117 9 v k xs) {t : TypeId} {C : Array Value} (hb : Blk t W b C) (ht : t ≠ 117) : some b ≠ v.ownBlock := by
  rcases h.2 with ⟨rfl, _⟩ | ⟨g, cap, cur, rfl, _, hg, _⟩
  · simp [Value.ownBlock]
  · intro e
    have e : b = g := by simpa [Value.ownBlock] using e
    subst e
    unfold Blk at hb
    rw [hb] at hg
    cases hg
    exact ht rfl
end Go.Proofs.YtmhcjhbmeohjdaaGreat

namespace Go.Proofs.YtmhcjhbmeohjdaaGreat
open Go.RowKit Rm
variable {tS : TypeId} {XS : List Value}
attribute [local go_sem] Oper.semAt_some

theorem enter_owns1 : ∀ args w, (callFunc 90 args).run Tryz.prog w = .ok (.enter 90 args) w := enters_of Tryz.func90 (by kernel_rfl) rfl
theorem enter_inOrdK : ∀ args w, (callFunc 121 args).run Tryz.prog w = .ok (.enter 121 args) w := enters_of Tryz.func121 (by kernel_rfl) rfl
theorem KeepT.of_below {t : TypeId} {W W' : World} (h : Below W.heap.size W W') : KeepT t W W' := fun _ _ hb => hb.held h
theorem KeepT.put {t : TypeId} (W : World) (l : Nat) (o o' : Obj) (h : W.heap[l]? = some o) (hc : o.isCells = false) : KeepT t W (W.putObj l o') := fun b C hb => by
  unfold Blk at hb ⊢
  refine (World.putObj_heap_other fun e => ?_).trans hb
  rw [e, h] at hb
  cases hb
  cases hc

/-- what Owns' iterator asks of a round -/
def KqO (L : List Nat) (A B : World) : Prop := KeepS L A B ∧ KeepT 177 A B
theorem owns_drives {W0 : World} {B1 B2 B3 n : Nat} {v : Value} {o : Option Nat} {f : Pk → Option Bool} {xs : List Pk} {es : List (ElP f)} (h : ItP W0 B1 B2 v o n f xs) (hE : EsP f xs es)
    (h3 : Blk 174 W0 B3 #[.func (.func 117) #[] #[.pointer (some ⟨B1, 0, none⟩), .pointer (some ⟨B2, 0, none⟩)]]) (W : World) (hW : Below W0.heap.size W0 W) :
    Drives Tryz.prog 90 #[.pointer (some ⟨B3, 0, none⟩)] arO es.length (fun ys => ys = es) (KqO (itL B1 B2 v o)) W := fun l J hJ hY h0 => by
  refine (callsIn_wide.1 (owns1 (h.held hW) hE (h3.held hW) (.loop l) J (fun _ _ => False) hJ (fun _ _ _ _ h _ _ => h) (fun pre x W1 hj hs hl => ?_) h0 0)).mono ?_
  · refine Fv.At.mono (R := _) (hY pre x W1 hj hs hl) ?_
    rintro e W' ⟨rfl, h1, h2, h3⟩
    refine ⟨true, rfl, h1, ?_⟩
    rw [if_pos rfl]
    exact ⟨h2, h3.1, h3.2⟩
  · rintro e W' ⟨h1, h2 | ⟨_, h2⟩⟩
    · exact ⟨h1, es, rfl, h2⟩
    · exact h2.elim

/-- an append whose run is known, as a step of a region that draws -/
theorem step_append_run {P : Program} {ops : Array Oper} {o : Oper} {a : Act} {w : World} {K : Act → World → Prop} {Q : Exit → Act → World → Prop} {E : Prop} (hgd : o.guard = none) (s x : Operand) (t : TypeId)
    (ho : o.op = .call { callee := .builtin .append, args := #[s, x], argTypes := #[t, t] }) (v xv v' : Value) (w0 w' : World) (hw0 : w = w0) (hs : a.eval s = v) (hx : a.eval x = xv)
    (hr : (Builtin.append_ #[t, t] o.type #[v, xv]).run P w0 = .ok v' w') (h : K (a.put o.dst v') w') : if Region.wanted o (yielded ops a.tmps) = true then Oper.wp P o a w K Q else E := by
  have hw : Region.wanted o (yielded ops a.tmps) = true := by simp [Region.wanted, hgd]
  rw [if_pos hw]
  subst hw0
  unfold Oper.wp execOp
  simp only [ho, resolve, invoke, builtin, Sem.run_bind, Sem.run_pure, Result.andThen_ok, List.map_toArray, List.map_cons, List.map_nil, hs, hx, hr]
  exact h

set_option maxRecDepth 100000 in
set_option maxHeartbeats 4000000 in
theorem records_any {w : World} {d : Nat} {o fl : Option Nat} {id N : Nat} {S : Sm} (h : Notes tS XS w d o fl id N S) :
    Calls Tryz.prog 104 #[.pointer (some ⟨d, 0, none⟩)] w fun e w' => ∃ v xs ys, ∃ es : List (ElP S.own), ∃ fs : List (ElK S.floor), e = .returned v ∧
      EsP S.own xs es ∧ xs.Pairwise ltP ∧ (∀ x, x ∈ xs ↔ x.ok ∧ (S.own x).isSome = true) ∧ EsK S.floor ys fs ∧ ys.Pairwise ltK ∧ (∀ x, x ∈ ys ↔ x.ok ∧ (S.floor x).isSome = true) ∧
      w'.ownsRow w.heap.size 117 9 v (es.map rO ++ rL S.lease ++ fs.map rF).length ((es.map rO ++ rL S.lease ++ fs.map rF).flatMap rcells) ∧ (v = .slice none 0 0 ↔ es.map rO ++ rL S.lease ++ fs.map rF = []) ∧ Below w.heap.size w w' := by
  obtain ⟨n, m, -, hS⟩ := h
  obtain ⟨i0, hi, hz0, hz1, hz2⟩ := info_parts infoRec
  have hb1 := below_new w (.cells #[.slice none 0 0] 168)
  have hz := size_new w (.cells #[.slice none 0 0] 168)
  have hBx := Boxed.new w 168 (.slice none 0 0)
  have HO := owns_any (hS.held hb1)
  have dl := hS.head.lt
  refine (callsIn_wide (n := 9)).1 ?_
  refine callsIn_of_wp_marks Tryz.func104 rfl trivial ?_ rfl
  simp only [Tryz.ntmps104, List.size_toArray, List.length_cons, List.length_nil, Nat.reduceAdd, Nat.reduceSub, Array.replicate_succ, Array.replicate_zero, List.push_toArray, List.append_toArray, List.nil_append, List.cons_append]
  have HI := Lib.hid (And.intro hi (And.intro hz0 (And.intro hz1 hz2)))
  have HS := Lib.hid hS
  clear hi hz0 hz1 hz2 hS
  gi_wp2
  refine ⟨trivial, (callsIn_any HO).mono ?_⟩
  rintro e w2 ⟨B1, B2, B3, v1, o1, xs, rfl, hI, h3, hfr, hB3, hB⟩
  clear HO
  gi_wp2
  generalize w.alloc (.cells #[.slice none 0 0] 168) = w1 at *
  have hsz2 := hB.size
  obtain ⟨es, hE⟩ := esP_ex (f := S.own) (fun _ _ _ => rfl) xs (fun x hx => (hI.mem x).1 hx)
  have hlenE : es.length ≤ 100000 := by
    have : es.length = xs.length := by rw [← show es.map (·.key) = xs from hE]; simp
    have := hI.len
    omega
  have hL1 : Lst w w.heap.size w.heap.size w1.heap.size w2.heap.size [] w2 := by
    refine ⟨⟨.slice none 0 0, (hB.block _ (by omega)).trans hBx, World.ownsRow_nil _ _ _ _, by simp, fun b hb => by cases hb⟩, next hb1 hB, Nat.le_refl _⟩
  have h1w : w.heap.size ≤ w.heap.size := Nat.le_refl _
  refine loop_all (α := ElP S.own) rfl enter_owns1 (owns_drives hI hE h3) (fun _ => rfl) (fun h k => ⟨h.1.trans k.1, fun b C hb => k.2 b C (h.2 b C hb)⟩) (fun W l o o' hl h hc hw => ⟨keepS_put hI.lt W l o o' hl h hc hw, KeepT.put W l o o' h hc⟩)
    (fun pre W => Lst w w.heap.size w.heap.size w1.heap.size w2.heap.size (pre.map rO) W) (lst_own _ h1w (by omega)) hL1
    (fun x a' W => ∃ Bx, Blk 36 W Bx #[.int .u32 x.key.a, .int .i64 x.key.n] ∧ a' = { tmps := #[.pointer (some ⟨d, 0, none⟩), undef, .slice none 0 0, .pointer (some ⟨w.heap.size, 0, none⟩), .pointer (some ⟨Bx, 0, none⟩), .bool x.val, undef, undef, .pointer (some ⟨d, 0, none⟩), .func (.func 90) #[] #[.pointer (some ⟨B3, 0, none⟩)], .agg #[.int .u32 x.key.a, .int .i64 x.key.n], .bool x.val, undef, undef, undef, undef, undef, undef, undef, undef, undef, undef, undef, undef, undef, undef, undef, undef, undef, undef, undef, undef, undef, undef, undef, undef, undef, undef, undef, undef, undef, undef, undef, undef, undef, undef], defers := [] })
    ?_ ?assign ?body ?done
  · rintro x a' s W W' row ⟨Bx, hp, rfl⟩ hg hr
    exact ⟨Bx, hp.grown hg hr, rfl⟩
  case assign =>
    rintro l pre ⟨⟨xa, xn⟩, y, hok, hfit, hhas⟩ W K hL hK
    have hb := below_new W (.cells #[.int .u32 xa, .int .i64 xn] 36)
    have hl := hL.2.2
    simp only [arO, clP]
    gi_wp2
    exact hK _ _ (keepsFrom_below _ hb) ⟨.of_below (fun b hb' => Nat.lt_of_lt_of_le (hI.lt b hb') hl) hb, .of_below hb⟩ (hL.alloc h1w _) ⟨_, Blk.new _ _ _, rfl⟩
  case body =>
    rintro l pre ⟨⟨xa, xn⟩, y, hok, hfit, hhas⟩ a' W ⟨⟨v, hv, hrow, hnil, ho⟩, hBl, hF⟩ ⟨Bx, hp, rfl⟩ hlt
    have cB := hv.cell
    have p0 := hp.at_ 0
    have p1 := hp.at_ 1
    have hle := hBl.size
    obtain ⟨hi, hz0, hz1, hz2⟩ := HI.out
    have hrl : (pre.map rO).length = pre.length := by simp
    gi_wp2_with (first
      | (gi_at_builtin; go_loud (refine wpListIn_append_own_at _ rfl _ _ 168 rfl w.heap.size 117 i0 _ 9 56 Tryz.underlying168 hi hz0 hz1 hz2 rfl (by decide) _ _ _ rfl (hrow.alloc _) ⟨W.heap.size, 0, none⟩ 1 1 (rcells (rO ⟨⟨xa, xn⟩, y, hok, hfit, hhas⟩)) rfl rfl (fun j u hj => (new_at _ _ _ j).trans (by rw [← hj]; simp [rcells, rcl, rO])) (by simp [Value.oneCell', rcells, rcl, rO]) (by unfold maxLen; omega) (by omega) (by simp; omega) ?_)
         intro v' w3 hown' hgrow _ hat
         obtain ⟨g', cap', rfl⟩ := ownsRow_succ hown'
         obtain ⟨hv1, hl2, hk2, hb2, hoth⟩ := Lst.push h1w (Nat.le_refl _) hv hrow ho hBl hF hown' hgrow hat
         have hc1 := hv1.cell
         have hf1 := hv1.frozen)
      | gi_in)
    rw [hrl] at hl2 hk2 hoth
    refine ⟨hk2.from _, ⟨⟨fun b hb => ?_, hk2.size⟩, fun b C hb => ?_⟩, ?_⟩
    · have hb1 := hfr b hb
      have hb2 := hI.lt b hb
      refine hoth b (by omega) (by omega) fun e => ?_
      rcases ho b e.symm with h | h <;> omega
    · exact (hoth b hb.lt (fun e => by subst e; exact hb.ne (show Blk 168 W w.heap.size #[v] from hv) (by decide) rfl) (row_other hrow hb (by decide))).trans hb
    · rw [hz] at hl2
      exact hl2
  case done =>
    rintro D es' W hD rfl hL hK
    have hSW := HS.out.held hL.2.1
    have hDW : D < W.heap.size := (Array.getElem?_eq_some_iff.1 hK).1
    have c1 := hSW.head.at_ 1
    have HF := floors_any hSW
    have hDw : w.heap.size ≤ D := by omega
    have HE := Lib.hid (And.intro hE (And.intro hI.srt hI.mem))
    have hk := hI.len
    have hSWx := hSW
    clear hI h3 hfr hB3 hB hL1 hSW hb1 hBx hE
    by_cases hls : S.lease = 0
    · have hlb : ((S.lease : Int) != 0) = false := by rw [hls]; rfl
      have hrs : es'.map rO ++ rL S.lease = es'.map rO := by unfold rL; rw [if_pos hls]; simp
      have HL := Lib.hid hrs
      have HLS := Lib.hid hls
      clear hls
      gi_wp2
      have hL0 := hL
      have hKW := hK
      have hrs1 : (es'.map rO).length ≤ 100001 := by rw [List.length_map]; omega
      refine ⟨trivial, (callsIn_any HF).mono ?_⟩
      rintro e w4 ⟨C1, C2, v2, o2, ys, rfl, hI2, hfr2, hB2⟩
      clear HF
      gi_wp2
      have hsz4 := hB2.size
      obtain ⟨fs, hE2⟩ := esK_ex (f := S.floor) HS.out.small ys (fun x hx => (hI2.mem x).1 hx)
      have hlenF : fs.length ≤ 100000 := by
        have : fs.length = ys.length := by rw [← show fs.map (·.key) = ys from hE2]; simp
        have := hI2.len
        omega
      have hL4 : Lst w w.heap.size w.heap.size W.heap.size w4.heap.size (es'.map rO ++ ([] : List (ElK S.floor)).map rF) w4 := by
        have := hL0.rebase hB2 h1w
        simpa using this
      have hD4 : w4.heap[D]? = some (.deferred (some [])) := (hB2.block D hDW).trans hKW
      refine wpIn_rangeFunc_ownH (α := ElK S.floor) rfl (by omega) (gf := 121) (lb := #[.pointer (some ⟨C1, 0, none⟩), .pointer (some ⟨C2, 0, none⟩)]) rfl trivial enter_inOrdK (inOrdK_stops hI2 hE2 8) KeepS.trans (keepS_put hI2.lt) (Below.refl _ _) (fun _ => rfl)
        (fun pre V9 => Lst w w.heap.size w.heap.size W.heap.size w4.heap.size (es'.map rO ++ pre.map rF) V9 ∧ V9.heap[D]? = some (.deferred (some [])))
        (fun _ _ _ => False)
        (OwnFrom.and (lst_own (B' := w4.heap.size) _ h1w (by omega)) (fun _ _ _ _ h hg hr => grown_block hg hr (by omega) h))
        (fun _ _ _ _ _ h _ _ => h) ⟨hL4, hD4⟩
        (fun x a' V8 => ∃ Bk Bd, Blk 147 V8 Bk #[.int .u32 x.key.a, .int .i64 x.key.n, .int .u32 x.key.id] ∧ Blk 39 V8 Bd #[.int .u32 x.val.1, .int .u16 x.val.2] ∧ a' = { tmps := #[.pointer (some ⟨d, 0, none⟩), undef, .slice none 0 0, .pointer (some ⟨w.heap.size, 0, none⟩), undef, undef, .pointer (some ⟨Bk, 0, none⟩), .pointer (some ⟨Bd, 0, none⟩), .pointer (some ⟨d, 0, none⟩), .func (.func 90) #[] #[.pointer (some ⟨B3, 0, none⟩)], undef, undef, undef, undef, undef, undef, undef, undef, .pointer (some ⟨d, 0, none⟩), .pointer (some ⟨d, 0, none⟩), .pointer (some ⟨d, 1, none⟩), .int .u32 S.lease, .bool false, undef, undef, undef, undef, undef, undef, undef, undef, undef, .pointer (some ⟨d, 0, none⟩), .func (.func 121) #[] #[.pointer (some ⟨C1, 0, none⟩), .pointer (some ⟨C2, 0, none⟩)], .agg #[.int .u32 x.key.a, .int .i64 x.key.n, .int .u32 x.key.id], .agg #[.int .u32 x.val.1, .int .u16 x.val.2], undef, undef, undef, undef, undef, undef, undef, undef, undef, undef], defers := [] })
        ?_ ?assign ?body ?done ?stop
      · rintro x a' s W1 W2 row ⟨Bk, Bd, hp, hd, rfl⟩ hg hr
        exact ⟨Bk, Bd, hp.grown hg hr, hd.grown hg hr, rfl⟩
      case assign =>
        rintro l pre ⟨⟨xa, xn, xi⟩, ⟨s, y⟩, hok, hfit, hhas⟩ W1 K ⟨hL, hd⟩ hK
        have hP := (Blk.new W1 147 #[.int .u32 xa, .int .i64 xn, .int .u32 xi]).more (.cells #[.int .u32 s, .int .u16 y] 39)
        have hO := Blk.new (W1.alloc (.cells #[.int .u32 xa, .int .i64 xn, .int .u32 xi] 147)) 39 #[.int .u32 s, .int .u16 y]
        rw [size_new] at hO
        have hbb := next (below_new W1 (.cells #[.int .u32 xa, .int .i64 xn, .int .u32 xi] 147)) (below_new (W1.alloc (.cells #[.int .u32 xa, .int .i64 xn, .int .u32 xi] 147)) (.cells #[.int .u32 s, .int .u16 y] 39))
        have hl := hL.2.2
        have hdl : D < W1.heap.size := (Array.getElem?_eq_some_iff.1 hd).1
        have hL2 := hL.held hbb h1w
        have hd2 := (hbb.block D hdl).trans hd
        simp only [arK, clK, dV]
        gi_wp2
        exact hK _ _ (keepsFrom_below _ hbb) (.of_below (fun b hb' => Nat.lt_of_lt_of_le (hI2.lt b hb') hl) hbb) ⟨hL2, hd2⟩ ⟨_, _, hP, hO, rfl⟩
      case body =>
        rintro l pre ⟨⟨xa, xn, xi⟩, ⟨s, y⟩, hok, hfit, hhas⟩ a' W1 _ _ ⟨⟨⟨v, hv, hrow, hnil, ho⟩, hBl, hF⟩, hd⟩ ⟨Bk, Bd, hp, hdd, rfl⟩ hlt
        have cB := hv.cell
        have p0 := hp.at_ 0
        have p1 := hp.at_ 1
        have p2 := hp.at_ 2
        have d0 := hdd.at_ 0
        have d1 := hdd.at_ 1
        have hle := hBl.size
        obtain ⟨hi, hz0, hz1, hz2⟩ := HI.out
        have hrl : (es'.map rO ++ pre.map rF).length ≤ 300000 := by
          have h1 : (es'.map rO).length ≤ 100001 := hrs1
          have h2 : (pre.map rF).length = pre.length := by simp
          rw [List.length_append, h2]
          omega
        generalize hR : es'.map rO ++ pre.map rF = R at *
        gi_wp2_with (first
          | (gi_at_builtin; refine wpListIn_append_own_at _ rfl _ _ 168 rfl w.heap.size 117 i0 _ 9 56 Tryz.underlying168 hi hz0 hz1 hz2 rfl (by decide) _ _ _ rfl (hrow.alloc _) ⟨W1.heap.size, 0, none⟩ 1 1 (rcells (rF ⟨⟨xa, xn, xi⟩, (s, y), hok, hfit, hhas⟩)) rfl rfl (fun j u hj => (new_at _ _ _ j).trans (by rw [← hj]; simp [rcells, rcl, rF])) (by simp [Value.oneCell', rcells, rcl, rF]) (by unfold maxLen; omega) (by omega) (by simp; omega) ?_
             intro v' w3 hown' hgrow _ hat
             obtain ⟨g', cap', rfl⟩ := ownsRow_succ hown'
             obtain ⟨hv1, hl2, hk2, hb2, hoth⟩ := Lst.push h1w (Nat.le_refl _) hv hrow ho hBl hF hown' hgrow hat
             have hc1 := hv1.cell
             have hf1 := hv1.frozen)
          | gi_in)
        refine ⟨hk2.from _, ⟨fun b hb => ?_, hk2.size⟩, ?_, ?_⟩
        · have hb1 := hfr2 b hb
          have hb2 := hI2.lt b hb
          refine hoth b (by omega) (by omega) fun e => ?_
          rcases ho b e.symm with h | h <;> omega
        · have h3 := hl2
          generalize w3.setCell ⟨w.heap.size, 0, none⟩ (.slice (some ⟨g', 0, none⟩) (R.length + 1) cap') = V7 at h3 ⊢
          rw [← hR] at h3
          simpa [rF] using h3
        · exact hk2.same _ _ hd rfl
      case done =>
        rintro D2 fs' W2 hD2 rfl ⟨⟨⟨v, hv, hrow, hnil, ho⟩, hBl, hF⟩, hd⟩ hK2
        have cB := hv.cell
        have hBw := hBl
        obtain ⟨hE, hsrt, hmem⟩ := HE.out
        have hsrt2 := hI2.srt
        have hmem2 := hI2.mem
        have hDD : D ≠ D2 := by omega
        have hd3 : (W2.putObj D2 (.deferred none)).heap[D]? = some (.deferred (some [])) := (World.putObj_heap_other hDD).trans hd
        clear hI2 hfr2 hB2 hL4 hD4
        gi_wp2
        refine ⟨by simp, .inl ⟨_, _, rfl, run_takeDeferred hK2, by simp, .inl ⟨_, _, rfl, run_takeDeferred hd3, ?_⟩⟩⟩
        have h3 := ownsRow_putObj (ownsRow_putObj hrow (.deferred none) hK2 rfl) (.deferred none) hd3 rfl
        refine ⟨_, results_tmp rfl _ _ _, v, xs, ys, es', fs', rfl, hE, hsrt, hmem, hE2, hsrt2, hmem2, ?_, ?_, (hBw.grown (grownBy_putObj' _ _ _) hBw.size (fun k e => by cases e; omega)).grown (grownBy_putObj' _ _ _) (by rw [World.putObj_size]; exact hBw.size) (fun k e => by cases e; omega)⟩
        · rw [HL.out]; exact h3
        · rw [HL.out]; exact hnil
      case stop =>
        rintro D2 c pre W2 _ _ h _
        exact h.elim
    · have hlb : ((S.lease : Int) != 0) = true := by simp [hls]
      have hrs : es'.map rO ++ rL S.lease = es'.map rO ++ [⟨3, 0, 0, 0, 0, 0, false, S.lease, 0⟩] := by unfold rL; rw [if_neg hls]
      have HL := Lib.hid hrs
      have HLS := Lib.hid hls
      clear hls hrs
      have hdB := hK
      obtain ⟨⟨v, hv, hrow, hnil, ho⟩, hBl, hF⟩ := hL.drew h1w
      have HSW := Lib.hid hSWx
      have hle := hBl.size
      obtain ⟨hi, hz0, hz1, hz2⟩ := HI.out
      have hlen : (es'.map rO).length ≤ 100000 := by rw [List.length_map]; exact hlenE
      have hRL := hL
      generalize hR0 : es'.map rO = R at *
      have HR := Lib.hid hR0
      clear hR0
      obtain ⟨v', w3, hrun, hown', hgrow, -, hat⟩ := run_append_own_at (P := Tryz.prog) (W.drew.alloc (.cells #[.int .i64 3, .int .u32 0, .int .u32 0, .int .u32 0, .int .u32 0, .int .i64 0, .bool false, .int .u32 S.lease, .int .u16 0] 117)) w.heap.size 168 168 117 i0 _ 9 56 Tryz.underlying168 hi hz0 hz1 hz2 rfl (by decide) v _ _ (hrow.alloc _) ⟨W.heap.size, 0, none⟩ 1 1 (rcells ⟨3, 0, 0, 0, 0, 0, false, S.lease, 0⟩) rfl
        (fun j u hj => (new_at W.drew _ _ j).trans (by rw [← hj]; simp [rcells, rcl])) (by simp [Value.oneCell', rcells, rcl]) (by unfold maxLen; omega) (by omega) (by simp; omega)
      obtain ⟨g', cap', rfl⟩ := ownsRow_succ hown'
      obtain ⟨hv1, hl2, hk2, hb2, hoth⟩ := Lst.push (r := ⟨3, 0, 0, 0, 0, 0, false, S.lease, 0⟩) h1w (Nat.le_refl _) hv hrow ho hBl hF hown' hgrow hat
      have hrun1 : (Builtin.append_ #[168, 168] 168 #[v, .slice (some ⟨W.heap.size, 0, none⟩) 1 1]).run Tryz.prog (W.alloc (.cells #[.int .i64 3, .int .u32 0, .int .u32 0, .int .u32 0, .int .u32 0, .int .i64 0, .bool false, .int .u32 S.lease, .int .u16 0] 117)).drew = .ok (.slice (some ⟨g', 0, none⟩) (R.length + 1) cap') w3 := hrun
      have hc1 := hv1.cell
      have hf1 := hv1.frozen
      have cB0 : W.cell? ⟨w.heap.size, 0, none⟩ = some v := hv.cell
      have cB1 : W.drew.cell? ⟨w.heap.size, 0, none⟩ = some v := hv.cell
      have hBlt : w.heap.size < W.heap.size := hv.lt
      have cB2 := held (below_new W.drew (.cells #[.int .i64 3, .int .u32 0, .int .u32 0, .int .u32 0, .int .u32 0, .int .i64 0, .bool false, .int .u32 S.lease, .int .u16 0] 117)) cB1
      have cB3 : (W.alloc (.cells #[.int .i64 3, .int .u32 0, .int .u32 0, .int .u32 0, .int .u32 0, .int .i64 0, .bool false, .int .u32 S.lease, .int .u16 0] 117)).drew.cell? ⟨w.heap.size, 0, none⟩ = some v := cB2
      have c2 : W.drew.cell? ⟨d, 1, none⟩ = _ := c1
      have c3 := held (below_new W.drew (.cells #[.int .i64 3, .int .u32 0, .int .u32 0, .int .u32 0, .int .u32 0, .int .i64 0, .bool false, .int .u32 S.lease, .int .u16 0] 117)) c2
      gi_wp2_with (fail)
      refine wpIn_wide.2 ?_
      refine wp_mono (Q := fun e a' w' => match e with | .normal => a' = { tmps := #[.pointer (some ⟨d, 0, none⟩), undef, .slice none 0 0, .pointer (some ⟨w.heap.size, 0, none⟩), undef, undef, undef, undef, .pointer (some ⟨d, 0, none⟩), .func (.func 90) #[] #[.pointer (some ⟨B3, 0, none⟩)], undef, undef, undef, undef, undef, undef, undef, undef, .pointer (some ⟨d, 0, none⟩), .pointer (some ⟨d, 0, none⟩), .pointer (some ⟨d, 1, none⟩), .int .u32 S.lease, .bool true, v, .pointer (some ⟨d, 0, none⟩), .pointer (some ⟨d, 0, none⟩), .pointer (some ⟨d, 1, none⟩), .int .u32 S.lease, .agg #[.int .u32 S.lease, .int .u16 0], .agg #[.int .i64 3, .int .u32 0, .int .u32 0, .int .u32 0, .int .u32 0, .int .i64 0, .bool false, .int .u32 S.lease, .int .u16 0], .slice (some ⟨W.heap.size, 0, none⟩) 1 1, (.slice (some ⟨g', 0, none⟩) (R.length + 1) cap'), undef, undef, undef, undef, undef, undef, undef, undef, undef, undef, undef, undef, undef, undef], defers := [{ target := .collected D, args := #[] }] } ∧ w' = w3.setCell ⟨w.heap.size, 0, none⟩ (.slice (some ⟨g', 0, none⟩) (R.length + 1) cap') | _ => False) ?_ ?_
      · go_region_law (refine step_append_run rfl _ _ _ rfl _ _ _ _ _ ?_ ?_ ?_ hrun ?_ <;> first | rfl | skip)
        all_goals exact ⟨rfl, rfl⟩
      rintro e a' w' he
      have he2 : e = .normal := by cases e <;> first | rfl | exact he.elim
      subst he2
      obtain ⟨rfl, rfl⟩ := he
      generalize w3.setCell ⟨w.heap.size, 0, none⟩ (.slice (some ⟨g', 0, none⟩) (R.length + 1) cap') = W5 at *
      have hKW : W5.heap[D]? = some (.deferred (some [])) := hk2.same _ _ hdB rfl
      have hL0 := hl2
      clear hK hDW c1 HF hrun hrun1 hown' hgrow hat hv1 hc1 hf1 cB0 cB1 cB2 cB3 c2 c3 hrow hv ho hnil hBl hF hk2 hb2 hoth hl2 hdB hle HSW hSWx hL hRL
      have hDW : D < W5.heap.size := (Array.getElem?_eq_some_iff.1 hKW).1
      have HF := floors_any (HS.out.held hL0.2.1)
      have hrs1 : (R ++ [(⟨3, 0, 0, 0, 0, 0, false, S.lease, 0⟩ : Rc)]).length ≤ 100001 := by rw [List.length_append]; simp; omega
      gi_wp2
      refine ⟨trivial, (callsIn_any HF).mono ?_⟩
      rintro e w4 ⟨C1, C2, v2, o2, ys, rfl, hI2, hfr2, hB2⟩
      clear HF
      gi_wp2
      have hsz4 := hB2.size
      obtain ⟨fs, hE2⟩ := esK_ex (f := S.floor) HS.out.small ys (fun x hx => (hI2.mem x).1 hx)
      have hlenF : fs.length ≤ 100000 := by
        have : fs.length = ys.length := by rw [← show fs.map (·.key) = ys from hE2]; simp
        have := hI2.len
        omega
      have hL4 : Lst w w.heap.size w.heap.size W5.heap.size w4.heap.size ((R ++ [(⟨3, 0, 0, 0, 0, 0, false, S.lease, 0⟩ : Rc)]) ++ ([] : List (ElK S.floor)).map rF) w4 := by
        have := hL0.rebase hB2 h1w
        simpa using this
      have hD4 : w4.heap[D]? = some (.deferred (some [])) := (hB2.block D hDW).trans hKW
      refine wpIn_rangeFunc_ownH (α := ElK S.floor) rfl (by omega) (gf := 121) (lb := #[.pointer (some ⟨C1, 0, none⟩), .pointer (some ⟨C2, 0, none⟩)]) rfl trivial enter_inOrdK (inOrdK_stops hI2 hE2 8) KeepS.trans (keepS_put hI2.lt) (Below.refl _ _) (fun _ => rfl)
        (fun pre V9 => Lst w w.heap.size w.heap.size W5.heap.size w4.heap.size ((R ++ [(⟨3, 0, 0, 0, 0, 0, false, S.lease, 0⟩ : Rc)]) ++ pre.map rF) V9 ∧ V9.heap[D]? = some (.deferred (some [])))
        (fun _ _ _ => False)
        (OwnFrom.and (lst_own (B' := w4.heap.size) _ h1w (by omega)) (fun _ _ _ _ h hg hr => grown_block hg hr (by omega) h))
        (fun _ _ _ _ _ h _ _ => h) ⟨hL4, hD4⟩
        (fun x a' V8 => ∃ Bk Bd, Blk 147 V8 Bk #[.int .u32 x.key.a, .int .i64 x.key.n, .int .u32 x.key.id] ∧ Blk 39 V8 Bd #[.int .u32 x.val.1, .int .u16 x.val.2] ∧ a' = { tmps := #[.pointer (some ⟨d, 0, none⟩), undef, .slice none 0 0, .pointer (some ⟨w.heap.size, 0, none⟩), undef, undef, .pointer (some ⟨Bk, 0, none⟩), .pointer (some ⟨Bd, 0, none⟩), .pointer (some ⟨d, 0, none⟩), .func (.func 90) #[] #[.pointer (some ⟨B3, 0, none⟩)], undef, undef, undef, undef, undef, undef, undef, undef, .pointer (some ⟨d, 0, none⟩), .pointer (some ⟨d, 0, none⟩), .pointer (some ⟨d, 1, none⟩), .int .u32 S.lease, .bool true, v, .pointer (some ⟨d, 0, none⟩), .pointer (some ⟨d, 0, none⟩), .pointer (some ⟨d, 1, none⟩), .int .u32 S.lease, .agg #[.int .u32 S.lease, .int .u16 0], .agg #[.int .i64 3, .int .u32 0, .int .u32 0, .int .u32 0, .int .u32 0, .int .i64 0, .bool false, .int .u32 S.lease, .int .u16 0], .slice (some ⟨W.heap.size, 0, none⟩) 1 1, (.slice (some ⟨g', 0, none⟩) (R.length + 1) cap'), .pointer (some ⟨d, 0, none⟩), .func (.func 121) #[] #[.pointer (some ⟨C1, 0, none⟩), .pointer (some ⟨C2, 0, none⟩)], .agg #[.int .u32 x.key.a, .int .i64 x.key.n, .int .u32 x.key.id], .agg #[.int .u32 x.val.1, .int .u16 x.val.2], undef, undef, undef, undef, undef, undef, undef, undef, undef, undef], defers := [] })
        ?_ ?assign ?body ?done ?stop
      · rintro x a' s W1 W2 row ⟨Bk, Bd, hp, hd, rfl⟩ hg hr
        exact ⟨Bk, Bd, hp.grown hg hr, hd.grown hg hr, rfl⟩
      case assign =>
        rintro l pre ⟨⟨xa, xn, xi⟩, ⟨s, y⟩, hok, hfit, hhas⟩ W1 K ⟨hL, hd⟩ hK
        have hP := (Blk.new W1 147 #[.int .u32 xa, .int .i64 xn, .int .u32 xi]).more (.cells #[.int .u32 s, .int .u16 y] 39)
        have hO := Blk.new (W1.alloc (.cells #[.int .u32 xa, .int .i64 xn, .int .u32 xi] 147)) 39 #[.int .u32 s, .int .u16 y]
        rw [size_new] at hO
        have hbb := next (below_new W1 (.cells #[.int .u32 xa, .int .i64 xn, .int .u32 xi] 147)) (below_new (W1.alloc (.cells #[.int .u32 xa, .int .i64 xn, .int .u32 xi] 147)) (.cells #[.int .u32 s, .int .u16 y] 39))
        have hl := hL.2.2
        have hdl : D < W1.heap.size := (Array.getElem?_eq_some_iff.1 hd).1
        have hL2 := hL.held hbb h1w
        have hd2 := (hbb.block D hdl).trans hd
        simp only [arK, clK, dV]
        gi_wp2
        exact hK _ _ (keepsFrom_below _ hbb) (.of_below (fun b hb' => Nat.lt_of_lt_of_le (hI2.lt b hb') hl) hbb) ⟨hL2, hd2⟩ ⟨_, _, hP, hO, rfl⟩
      case body =>
        rintro l pre ⟨⟨xa, xn, xi⟩, ⟨s, y⟩, hok, hfit, hhas⟩ a' W1 _ _ ⟨⟨⟨v, hv, hrow, hnil, ho⟩, hBl, hF⟩, hd⟩ ⟨Bk, Bd, hp, hdd, rfl⟩ hlt
        have cB := hv.cell
        have p0 := hp.at_ 0
        have p1 := hp.at_ 1
        have p2 := hp.at_ 2
        have d0 := hdd.at_ 0
        have d1 := hdd.at_ 1
        have hle := hBl.size
        obtain ⟨hi, hz0, hz1, hz2⟩ := HI.out
        have hrl : ((R ++ [(⟨3, 0, 0, 0, 0, 0, false, S.lease, 0⟩ : Rc)]) ++ pre.map rF).length ≤ 300000 := by
          have h1 : ((R ++ [(⟨3, 0, 0, 0, 0, 0, false, S.lease, 0⟩ : Rc)])).length ≤ 100001 := hrs1
          have h2 : (pre.map rF).length = pre.length := by simp
          rw [List.length_append, h2]
          omega
        generalize hR : (R ++ [(⟨3, 0, 0, 0, 0, 0, false, S.lease, 0⟩ : Rc)]) ++ pre.map rF = R at *
        gi_wp2_with (first
          | (gi_at_builtin; refine wpListIn_append_own_at _ rfl _ _ 168 rfl w.heap.size 117 i0 _ 9 56 Tryz.underlying168 hi hz0 hz1 hz2 rfl (by decide) _ _ _ rfl (hrow.alloc _) ⟨W1.heap.size, 0, none⟩ 1 1 (rcells (rF ⟨⟨xa, xn, xi⟩, (s, y), hok, hfit, hhas⟩)) rfl rfl (fun j u hj => (new_at _ _ _ j).trans (by rw [← hj]; simp [rcells, rcl, rF])) (by simp [Value.oneCell', rcells, rcl, rF]) (by unfold maxLen; omega) (by omega) (by simp; omega) ?_
             intro v' w3 hown' hgrow _ hat
             obtain ⟨g', cap', rfl⟩ := ownsRow_succ hown'
             obtain ⟨hv1, hl2, hk2, hb2, hoth⟩ := Lst.push h1w (Nat.le_refl _) hv hrow ho hBl hF hown' hgrow hat
             have hc1 := hv1.cell
             have hf1 := hv1.frozen)
          | gi_in)
        refine ⟨hk2.from _, ⟨fun b hb => ?_, hk2.size⟩, ?_, ?_⟩
        · have hb1 := hfr2 b hb
          have hb2 := hI2.lt b hb
          refine hoth b (by omega) (by omega) fun e => ?_
          rcases ho b e.symm with h | h <;> omega
        · have h3 := hl2
          generalize w3.setCell ⟨w.heap.size, 0, none⟩ (.slice (some ⟨g', 0, none⟩) (R.length + 1) cap') = V7 at h3 ⊢
          rw [← hR] at h3
          simpa [rF] using h3
        · exact hk2.same _ _ hd rfl
      case done =>
        rintro D2 fs' W2 hD2 rfl ⟨⟨⟨v, hv, hrow, hnil, ho⟩, hBl, hF⟩, hd⟩ hK2
        have cB := hv.cell
        have hBw := hBl
        obtain ⟨hE, hsrt, hmem⟩ := HE.out
        have hsrt2 := hI2.srt
        have hmem2 := hI2.mem
        have hDD : D ≠ D2 := by omega
        have hd3 : (W2.putObj D2 (.deferred none)).heap[D]? = some (.deferred (some [])) := (World.putObj_heap_other hDD).trans hd
        clear hI2 hfr2 hB2 hL4 hD4
        gi_wp2
        refine ⟨by simp, .inl ⟨_, _, rfl, run_takeDeferred hK2, by simp, .inl ⟨_, _, rfl, run_takeDeferred hd3, ?_⟩⟩⟩
        have h3 := ownsRow_putObj (ownsRow_putObj hrow (.deferred none) hK2 rfl) (.deferred none) hd3 rfl
        refine ⟨_, results_tmp rfl _ _ _, v, xs, ys, es', fs', rfl, hE, hsrt, hmem, hE2, hsrt2, hmem2, ?_, ?_, (hBw.grown (grownBy_putObj' _ _ _) hBw.size (fun k e => by cases e; omega)).grown (grownBy_putObj' _ _ _) (by rw [World.putObj_size]; exact hBw.size) (fun k e => by cases e; omega)⟩
        · rw [HR.out, HL.out]; exact h3
        · rw [HR.out, HL.out]; exact hnil
      case stop =>
        rintro D2 c pre W2 _ _ h _
        exact h.elim
end Go.Proofs.YtmhcjhbmeohjdaaGreat

namespace Go.Proofs.YtmhcjhbmeohjdaaGreat
open Go.RowKit Go.Maps Rm Fm Sb
attribute [local go_sem] Oper.semAt_some

/-- the list under way, and the closure that adds to it -/
def Ls2 (w0 : World) (n₀ B A F0 F1 : Nat) (rs : List En) (W : World) : Prop := Lsj w0 n₀ B F0 F1 rs W ∧ Blk 142 W A #[.func (.func 65) #[] #[.pointer (some ⟨B, 0, none⟩)]]
theorem ls2_own {β : Type} {w0 : World} {n₀ B A F0 F1 B' : Nat} (f : β → List En) (h1 : n₀ ≤ w0.heap.size) (h2 : n₀ ≤ B') : OwnFrom B' (fun s W => Ls2 w0 n₀ B A F0 F1 (f s) W) :=
  OwnFrom.and (lsj_own f h1 h2) (fun _ _ _ _ hs hg hr => hs.grown hg hr)
theorem Ls2.alloc {w0 W : World} {n₀ B A F0 F1 : Nat} {rs : List En} (h : Ls2 w0 n₀ B A F0 F1 rs W) (h1 : n₀ ≤ w0.heap.size) (o : Obj) : Ls2 w0 n₀ B A F0 F1 rs (W.alloc o) := ⟨h.1.alloc h1 o, h.2.more o⟩

theorem ItP.count {W : World} {B1 B2 n : Nat} {v : Value} {o : Option Nat} {f : Pk → Option Bool} {xs : List Pk} (h : ItP W B1 B2 v o n f xs) : xs.length = n := by
  have hnd : xs.Nodup := h.srt.imp (fun {a b} h => by rintro rfl; unfold ltP at h; omega)
  cases o with
  | none =>
    have : xs = [] := List.eq_nil_iff_forall_not_mem.2 fun x hx => by
      have h1 := ((h.mem x).1 hx).2
      have h2 : (f x).map ownV = none := h.map.2 x
      cases hf : f x with
      | none => rw [hf] at h1; cases h1
      | some y => rw [hf] at h2; cases h2
    rw [this, h.map.1]
    rfl
  | some b => exact Mk.card h.map hnd (fun k => by rw [h.mem k, Option.isSome_map]; exact Iff.rfl)
theorem ItK.count {W : World} {B1 B2 n : Nat} {v : Value} {o : Option Nat} {f : Ky → Option (Nat × Nat)} {xs : List Ky} (h : ItK W B1 B2 v o n f xs) : xs.length = n := by
  have hnd : xs.Nodup := h.srt.imp (fun {a b} h => by rintro rfl; simp only [ltK, ltP] at h; omega)
  cases o with
  | none =>
    have : xs = [] := List.eq_nil_iff_forall_not_mem.2 fun x hx => by
      have h1 := ((h.mem x).1 hx).2
      have h2 : (f x).map dV = none := h.map.2 x
      cases hf : f x with
      | none => rw [hf] at h1; cases h1
      | some y => rw [hf] at h2; cases h2
    rw [this, h.map.1]
    rfl
  | some b => exact Mk.card h.map hnd (fun k => by rw [h.mem k, Option.isSome_map]; exact Iff.rfl)
theorem SjAt.put {W : World} {v : Value} {es : List En} {D : Nat} {o : Obj} (h : SjAt W v es) (hne : v.ownBlock ≠ some D) : SjAt (W.putObj D o) v es := by
  rcases h with ⟨rfl, rfl⟩ | ⟨g, cap, rfl, hgl, hc, F, hS, hF⟩
  · exact .inl ⟨rfl, rfl⟩
  · refine .inr ⟨g, cap, rfl, by rw [World.putObj_size]; exact hgl, hc, F, hS.of_block (World.putObj_heap_other fun e => hne (by rw [e]; rfl)), hF⟩
theorem own_no_def {W : World} {n₀ k D : Nat} {v : Value} {xs : List Value} {q : Option (List Deferred)} (h : W.ownsRow n₀ 104 3 v k xs) (hd : W.heap[D]? = some (.deferred q)) : v.ownBlock ≠ some D := by
  rcases h.2 with ⟨rfl, _⟩ | ⟨g, cap, cur, rfl, _, hg, _⟩
  · simp [Value.ownBlock]
  · intro e
    have e : g = D := by simpa [Value.ownBlock] using e
    subst e
    rw [hd] at hg
    cases hg

set_option maxRecDepth 100000 in
set_option maxHeartbeats 4000000 in
theorem rr_subjects {w : World} {R : Nat} {o fl tb : Option Nat} {j : Jr} {N n : Nat} {M : Mr} (h : Rr w R o fl tb j N n M) (hnn : 2 * N + n < 20) :
    Calls Tryz.prog 36 #[.pointer (some ⟨R, 0, none⟩)] w fun e w' => ∃ v, ∃ xs : List Pk, ∃ ys : List Ky, ∃ ps : List Pk, ∃ es : List (ElP M.sm.own), ∃ fs : List (ElK M.sm.floor), ∃ ds, e = .returned v ∧ (EsP M.sm.own xs es ∧ xs.Pairwise ltP ∧ ∀ x, x ∈ xs ↔ x.ok ∧ (M.sm.own x).isSome = true) ∧ (EsK M.sm.floor ys fs ∧ ys.Pairwise ltK ∧ ∀ x, x ∈ ys ↔ x.ok ∧ (M.sm.floor x).isSome = true) ∧
      (∀ p, p ∈ ps ↔ ∃ fr, Rk.ok ⟨p.a, p.n, fr⟩ ∧ (M.f ⟨p.a, p.n, fr⟩).isSome = true) ∧ SortOf (es.map sO ++ fs.map sF ++ ps.map sW) ds ∧ ds.length < 20 ∧ SjAt w' v (keepE (fun i => (ds.map (·.e))[i]!) (ds.map (·.e)).length) ∧ (∀ b, v.ownBlock = some b → w.heap.size ≤ b) ∧ Below w.heap.size w w' := by
  have hb1 := next (below_new w (.cells #[.slice none 0 0] 101)) (below_new _ (.cells #[.func (.func 65) #[] #[.pointer (some ⟨w.heap.size, 0, none⟩)]] 142))
  have hBx : Boxed ((w.alloc (.cells #[.slice none 0 0] 101)).alloc (.cells #[.func (.func 65) #[] #[.pointer (some ⟨w.heap.size, 0, none⟩)]] 142)) w.heap.size 101 (.slice none 0 0) := (Blk.new w 101 #[.slice none 0 0]).more (.cells #[.func (.func 65) #[] #[.pointer (some ⟨w.heap.size, 0, none⟩)]] 142)
  have hAB := Blk.new (w.alloc (.cells #[.slice none 0 0] 101)) 142 #[.func (.func 65) #[] #[.pointer (some ⟨w.heap.size, 0, none⟩)]]
  rw [size_new] at hAB
  have hz : ((w.alloc (.cells #[.slice none 0 0] 101)).alloc (.cells #[.func (.func 65) #[] #[.pointer (some ⟨w.heap.size, 0, none⟩)]] 142)).heap.size = w.heap.size + 2 := by rw [size_new, size_new]
  have h1 := h.held hb1
  have HST := rr_state h1
  have HR := Lib.hid h
  refine (callsIn_wide (n := 9)).1 ?_
  refine callsIn_of_wp_marks Tryz.func36 rfl trivial ?_ rfl
  simp only [Tryz.ntmps36, List.size_toArray, List.length_cons, List.length_nil, Nat.reduceAdd, Nat.reduceSub, Array.replicate_succ, Array.replicate_zero, List.push_toArray, List.append_toArray, List.nil_append, List.cons_append]
  clear h
  gi_wp2
  generalize (w.alloc (.cells #[.slice none 0 0] 101)).alloc (.cells #[.func (.func 65) #[] #[.pointer (some ⟨w.heap.size, 0, none⟩)]] 142) = w1 at *
  refine ⟨trivial, (callsIn_any HST).mono ?_⟩
  rintro e w1' ⟨rfl, hb1'⟩
  have hR1 := h1.held hb1'
  obtain ⟨cn, cm, hnm, hS⟩ := hR1.nt
  have HO := owns_any hS
  clear HST
  gi_wp2
  refine ⟨trivial, (callsIn_any HO).mono ?_⟩
  rintro e w2 ⟨B1, B2, B3, v1, oo, xs, rfl, hI, h3, hfr, hB3, hB⟩
  clear HO
  gi_wp2
  have hbb := next hb1' hB
  have hsz2 := hbb.size
  have hsz1 := hb1'.size
  obtain ⟨es, hE⟩ := esP_ex (f := M.sm.own) (fun _ _ _ => rfl) xs (fun x hx => (hI.mem x).1 hx)
  have hlenE : es.length ≤ 100000 := by
    have : es.length = xs.length := by rw [← show es.map (·.key) = xs from hE]; simp
    have := hI.len
    have := hS.counts
    omega
  have hL1 : Ls2 w w.heap.size w.heap.size (w.heap.size + 1) w1'.heap.size w2.heap.size [] w2 := by
    refine ⟨⟨⟨.slice none 0 0, (hbb.block _ (by omega)).trans hBx, World.ownsRow_nil _ _ _ _, by simp, fun b hb => by cases hb⟩, next hb1 hbb, Nat.le_refl _⟩, hAB.held hbb⟩
  have h1w : w.heap.size ≤ w.heap.size := Nat.le_refl _
  refine loop_all (α := ElP M.sm.own) rfl enter_owns1 (owns_drives hI hE h3) (fun _ => rfl) (fun h k => ⟨h.1.trans k.1, fun b C hb => k.2 b C (h.2 b C hb)⟩) (fun W l o o' hl h hc hw => ⟨keepS_put hI.lt W l o o' hl h hc hw, KeepT.put W l o o' h hc⟩)
    (fun pre W => Ls2 w w.heap.size w.heap.size (w.heap.size + 1) w1'.heap.size w2.heap.size (pre.map sO) W) (ls2_own _ h1w (by omega)) hL1
    (fun x a' W => ∃ Bx, Blk 36 W Bx #[.int .u32 x.key.a, .int .i64 x.key.n] ∧ a' = { tmps := #[.pointer (some ⟨R, 0, none⟩), undef, .slice none 0 0, .pointer (some ⟨w.heap.size, 0, none⟩), .pointer (some ⟨w.heap.size + 1, 0, none⟩), .pointer (some ⟨Bx, 0, none⟩), undef, undef, .func (.func 65) #[] #[.pointer (some ⟨w.heap.size, 0, none⟩)], .pointer (some ⟨R, 0, none⟩), .pointer (some ⟨R, 0, none⟩), .func (.func 90) #[] #[.pointer (some ⟨B3, 0, none⟩)], .agg #[.int .u32 x.key.a, .int .i64 x.key.n], .bool x.val, undef, undef, undef, undef, undef, undef, undef, undef, undef, undef, undef, undef, undef, undef, undef, undef, undef, undef, undef, undef, undef, undef, undef, undef, undef, undef], defers := [] })
    ?_ ?assign ?body ?done
  · rintro x a' s W W' row ⟨Bx, hp, rfl⟩ hg hr
    exact ⟨Bx, hp.grown hg hr, rfl⟩
  case assign =>
    rintro l pre ⟨⟨xa, xn⟩, y, hok, hfit, hhas⟩ W K hL hK
    have hb := below_new W (.cells #[.int .u32 xa, .int .i64 xn] 36)
    have hl := hL.1.2.2
    simp only [arO, clP]
    gi_wp2
    exact hK _ _ (keepsFrom_below _ hb) ⟨.of_below (fun b hb' => Nat.lt_of_lt_of_le (hI.lt b hb') hl) hb, .of_below hb⟩ (hL.alloc h1w _) ⟨_, Blk.new _ _ _, rfl⟩
  case body =>
    rintro l pre ⟨⟨xa, xn⟩, y, hok, hfit, hhas⟩ a' W hL ⟨Bx, hp, rfl⟩ hlt
    have p0 := hp.at_ 0
    have p1 := hp.at_ 1
    have a0 := hL.2.at_ 0
    have hrl : (pre.map sO).length = pre.length := by simp
    have HA := ans_any h1w (Nat.le_refl _) hL.1 (by omega) xa xn
    have X := Lib.hid (And.intro hL hp)
    clear hL hp
    gi_wp2
    refine ⟨trivial, rfl, (callsIn_round HA).mono ?_⟩
    rintro e W2 ⟨rfl, hl2, hk2, hb2, hoth, hkt⟩
    have hne : ∀ {t C b}, Blk t W b C → t ≠ 101 → b ≠ w.heap.size := fun {t C b} hb ht e => by
      obtain ⟨⟨⟨v, hv, -⟩, -⟩, -⟩ := X.out.1
      subst e
      exact hb.ne (show Blk 101 W w.heap.size #[v] from hv) ht rfl
    gi_wp2
    refine ⟨hk2.from _, ⟨⟨fun b hb => hoth b (Nat.lt_of_lt_of_le (hI.lt b hb) X.out.1.1.2.2) (fun e => ?_) (hfr b hb) (hI.lt b hb), hk2.size⟩, fun b C hb => hkt _ C b hb (by decide) (hne hb (by decide))⟩, ?_, hkt _ _ _ X.out.1.2 (by decide) (by omega)⟩
    · have := hfr b hb
      omega
    · simpa [sO] using hl2
  case done =>
    rintro D es' W hD rfl hL hK
    have hDW : D < W.heap.size := (Array.getElem?_eq_some_iff.1 hK).1
    have hDw : w1.heap.size ≤ D := Nat.le_trans hsz2 hD
    have hR2 := HR.out.held hL.1.2.1
    have HST2 := rr_state hR2
    have HE := Lib.hid (And.intro hE (And.intro hI.srt hI.mem))
    have hkl := hI.count
    have hcn := hS.counts
    clear hI h3 hfr hB3 hB hL1 hb1 hBx hE hAB h1 hb1' hR1 hS hbb
    gi_wp2
    refine ⟨trivial, (callsIn_any HST2).mono ?_⟩
    rintro e W3 ⟨rfl, hb3⟩
    have hR3 := hR2.held hb3
    obtain ⟨cn3, cm3, hnm3, hS3⟩ := hR3.nt
    have HF := floors_any hS3
    clear HST2
    gi_wp2
    refine ⟨trivial, (callsIn_any HF).mono ?_⟩
    rintro e w4 ⟨C1, C2, v2, oo2, ys, rfl, hI2, hfr2, hB2⟩
    clear HF
    gi_wp2
    have hb34 := next hb3 hB2
    have hsz4 := hB2.size
    have hsz3 := hb3.size
    obtain ⟨fs, hE2⟩ := esK_ex (f := M.sm.floor) hS3.small ys (fun x hx => (hI2.mem x).1 hx)
    have hlenF : fs.length ≤ 100000 := by
      have : fs.length = ys.length := by rw [← show fs.map (·.key) = ys from hE2]; simp
      have := hI2.len
      have := hS3.counts
      omega
    have hlenE2 : (es'.map sO).length ≤ 100000 := by rw [List.length_map]; omega
    have hL4 : Ls2 w w.heap.size w.heap.size (w.heap.size + 1) W3.heap.size w4.heap.size (es'.map sO ++ ([] : List (ElK M.sm.floor)).map sF) w4 := by
      have := (hL.1.held hb3 h1w).rebase hB2 h1w
      exact ⟨by simpa using this, hL.2.held hb34⟩
    have hD4 : w4.heap[D]? = some (.deferred (some [])) := (hb34.block D hDW).trans hK
    refine wpIn_rangeFunc_ownH (α := ElK M.sm.floor) rfl (by omega) (gf := 121) (lb := #[.pointer (some ⟨C1, 0, none⟩), .pointer (some ⟨C2, 0, none⟩)]) rfl trivial enter_inOrdK (inOrdK_stops hI2 hE2 8) KeepS.trans (keepS_put hI2.lt) (Below.refl _ _) (fun _ => rfl)
      (fun pre V9 => Ls2 w w.heap.size w.heap.size (w.heap.size + 1) W3.heap.size w4.heap.size (es'.map sO ++ pre.map sF) V9 ∧ V9.heap[D]? = some (.deferred (some [])))
      (fun _ _ _ => False)
      (OwnFrom.and (ls2_own (B' := w4.heap.size) _ h1w (by omega)) (fun _ _ _ _ h hg hr => grown_block hg hr (by omega) h))
      (fun _ _ _ _ _ h _ _ => h) ⟨hL4, hD4⟩
      (fun x a' V8 => ∃ Bk, Blk 147 V8 Bk #[.int .u32 x.key.a, .int .i64 x.key.n, .int .u32 x.key.id] ∧ a' = { tmps := #[.pointer (some ⟨R, 0, none⟩), undef, .slice none 0 0, .pointer (some ⟨w.heap.size, 0, none⟩), .pointer (some ⟨w.heap.size + 1, 0, none⟩), undef, .pointer (some ⟨Bk, 0, none⟩), undef, .func (.func 65) #[] #[.pointer (some ⟨w.heap.size, 0, none⟩)], .pointer (some ⟨R, 0, none⟩), .pointer (some ⟨R, 0, none⟩), .func (.func 90) #[] #[.pointer (some ⟨B3, 0, none⟩)], undef, undef, undef, undef, undef, .pointer (some ⟨R, 0, none⟩), .pointer (some ⟨R, 0, none⟩), .func (.func 121) #[] #[.pointer (some ⟨C1, 0, none⟩), .pointer (some ⟨C2, 0, none⟩)], .agg #[.int .u32 x.key.a, .int .i64 x.key.n, .int .u32 x.key.id], .agg #[.int .u32 x.val.1, .int .u16 x.val.2], undef, undef, undef, undef, undef, undef, undef, undef, undef, undef, undef, undef, undef, undef, undef, undef, undef, undef], defers := [] })
      ?_ ?assign ?body ?done ?stop
    · rintro x a' s W1 W2 row ⟨Bk, hp, rfl⟩ hg hr
      exact ⟨Bk, hp.grown hg hr, rfl⟩
    case assign =>
      rintro l pre ⟨⟨xa, xn, xi⟩, ⟨s, y⟩, hok, hfit, hhas⟩ W1 K ⟨hL, hd⟩ hK
      have hbb := below_new W1 (.cells #[.int .u32 xa, .int .i64 xn, .int .u32 xi] 147)
      have hl := hL.1.2.2
      have hdl : D < W1.heap.size := (Array.getElem?_eq_some_iff.1 hd).1
      have hd2 := (hbb.block D hdl).trans hd
      simp only [arK, clK, dV]
      gi_wp2
      exact hK _ _ (keepsFrom_below _ hbb) (.of_below (fun b hb' => Nat.lt_of_lt_of_le (hI2.lt b hb') hl) hbb) ⟨hL.alloc h1w _, hd2⟩ ⟨_, Blk.new _ _ _, rfl⟩
    case body =>
      rintro l pre ⟨⟨xa, xn, xi⟩, ⟨s, y⟩, hok, hfit, hhas⟩ a' W1 _ _ ⟨hL, hd⟩ ⟨Bk, hp, rfl⟩ hlt
      have p0 := hp.at_ 0
      have p1 := hp.at_ 1
      have a0 := hL.2.at_ 0
      have hrl : (es'.map sO ++ pre.map sF).length ≤ 300000 := by
        have h2 : (pre.map (sF (f := M.sm.floor))).length = pre.length := by simp
        rw [List.length_append, h2]
        omega
      have HA := ans_any h1w (Nat.le_refl _) hL.1 hrl xa xn
      have X := Lib.hid (And.intro hL hp)
      clear hL hp
      gi_wp2
      first | refine ⟨trivial, trivial, (callsIn_round HA).mono ?_⟩ | refine ⟨trivial, trivial, rfl, (callsIn_round HA).mono ?_⟩ | refine ⟨rfl, trivial, (callsIn_round HA).mono ?_⟩ | refine ⟨trivial, (callsIn_round HA).mono ?_⟩
      rintro e W2 ⟨rfl, hl2, hk2, hb2, hoth, hkt⟩
      gi_wp2
      refine ⟨hk2.from _, ⟨fun b hb => hoth b (Nat.lt_of_lt_of_le (hI2.lt b hb) X.out.1.1.2.2) (fun e => ?_) (hfr2 b hb) (hI2.lt b hb), hk2.size⟩, ⟨?_, hkt _ _ _ X.out.1.2 (by decide) (by omega)⟩, hk2.same _ _ hd rfl⟩
      · have := hfr2 b hb
        omega
      · simpa [sF] using hl2
    case stop =>
      rintro D2 c pre W2 _ _ h _
      exact h.elim
    case done =>
      rintro D2 fs' W2 hD2 rfl ⟨hL2, hd⟩ hK2
      have hDW2 : D < W2.heap.size := (Array.getElem?_eq_some_iff.1 hd).1
      have hDW3 : D2 < W2.heap.size := (Array.getElem?_eq_some_iff.1 hK2).1
      have hR4 := HR.out.held hL2.1.2.1
      have HP := pfx_any hR4.tab (by omega)
      have HE2 := Lib.hid (And.intro hE2 (And.intro hI2.srt hI2.mem))
      have hkl2 := hI2.count
      have hcn3 := hS3.counts
      clear hI2 hfr2 hB2 hL4 hD4 hE2 hL hK hR2 hR3 hS3 hb3 hb34
      gi_wp2
      refine ⟨trivial, (callsIn_any HP).mono ?_⟩
      rintro e w5 ⟨B, gx, capx, ps, rfl, hPf⟩
      clear HP
      gi_wp2
      have hb5 := hPf.below
      have hsz5 := hb5.size
      have hlenP : ps.length ≤ 100000 := by have := hPf.len; omega
      have hlenS : (es'.map sO ++ fs'.map sF).length ≤ 200000 := by rw [List.length_append]; have : (fs'.map (sF (f := M.sm.floor))).length = fs'.length := by simp
                                                                    omega
      have hL5 : Ls2 w w.heap.size w.heap.size (w.heap.size + 1) W2.heap.size w5.heap.size (es'.map sO ++ fs'.map sF ++ ([] : List Pk).map sW) w5 := by
        have := hL2.1.rebase hb5 h1w
        exact ⟨by simpa using this, hL2.2.held hb5⟩
      have hd5 : w5.heap[D]? = some (.deferred (some [])) := (hb5.block D hDW2).trans hd
      have hK5 : w5.heap[D2]? = some (.deferred (some [])) := (hb5.block D2 hDW3).trans hK2
      have hBl : ∀ b, b ∈ [B, gx] → b < w5.heap.size := fun b hb => by
        simp at hb
        rcases hb with rfl | rfl
        · exact hPf.box.lt
        · exact hPf.gl
      have hBf : ∀ b, b ∈ [B, gx] → W2.heap.size ≤ b := fun b hb => by
        simp at hb
        rcases hb with rfl | rfl
        · exact hPf.B0
        · exact hPf.g0
      refine loop_all (α := Pk) rfl enter_pfx1 (pfx_drives hPf.box hPf.row hPf.gl hlenP) (fun _ => rfl) KeepS.trans (fun W l o o' hl h hc hw => keepS_put hBl W l o o' hl h hc hw)
        (fun pre W9 => Ls2 w w.heap.size w.heap.size (w.heap.size + 1) W2.heap.size w5.heap.size (es'.map sO ++ fs'.map sF ++ pre.map sW) W9 ∧ W9.heap[D]? = some (.deferred (some [])) ∧ W9.heap[D2]? = some (.deferred (some [])))
        (OwnFrom.and (ls2_own (B' := w5.heap.size) _ h1w (by omega)) (OwnFrom.and (fun _ _ _ _ h hg hr => grown_block hg hr (by omega) h) (fun _ _ _ _ h hg hr => grown_block hg hr (by omega) h))) ⟨hL5, hd5, hK5⟩
        (fun x a' W8 => ∃ Bp, Blk 36 W8 Bp #[.int .u32 x.a, .int .i64 x.n] ∧ a' = { tmps := #[.pointer (some ⟨R, 0, none⟩), undef, .slice none 0 0, .pointer (some ⟨w.heap.size, 0, none⟩), .pointer (some ⟨w.heap.size + 1, 0, none⟩), undef, undef, .pointer (some ⟨Bp, 0, none⟩), .func (.func 65) #[] #[.pointer (some ⟨w.heap.size, 0, none⟩)], .pointer (some ⟨R, 0, none⟩), .pointer (some ⟨R, 0, none⟩), .func (.func 90) #[] #[.pointer (some ⟨B3, 0, none⟩)], undef, undef, undef, undef, undef, .pointer (some ⟨R, 0, none⟩), .pointer (some ⟨R, 0, none⟩), .func (.func 121) #[] #[.pointer (some ⟨C1, 0, none⟩), .pointer (some ⟨C2, 0, none⟩)], undef, undef, undef, undef, undef, undef, .pointer (some ⟨R, 0, none⟩), .pointer (some ⟨R, 0, none⟩), .pointer (some ⟨R, 10, none⟩), .func (.func 96) #[] #[.pointer (some ⟨B, 0, none⟩)], .agg #[.int .u32 x.a, .int .i64 x.n], undef, undef, undef, undef, undef, undef, undef, undef, undef], defers := [] })
        ?_ ?assign ?body ?done
      · rintro x a' s W1 W3 row ⟨Bp, hp, rfl⟩ hg hr
        exact ⟨Bp, hp.grown hg hr, rfl⟩
      case assign =>
        rintro l pre ⟨xa, xn⟩ W1 K ⟨hL, hd, hk⟩ hK
        have hb := below_new W1 (.cells #[.int .u32 xa, .int .i64 xn] 36)
        have hl := hL.1.2.2
        have hdl : D < W1.heap.size := (Array.getElem?_eq_some_iff.1 hd).1
        have hdl2 : D2 < W1.heap.size := (Array.getElem?_eq_some_iff.1 hk).1
        simp only [arW]
        gi_wp2
        exact hK _ _ (keepsFrom_below _ hb) (.of_below (fun b hb' => Nat.lt_of_lt_of_le (hBl b hb') hl) hb) ⟨hL.alloc h1w _, (hb.block D hdl).trans hd, (hb.block D2 hdl2).trans hk⟩ ⟨_, Blk.new _ _ _, rfl⟩
      case body =>
        rintro l pre ⟨xa, xn⟩ a' W1 ⟨⟨⟨⟨v, hv, hrow, hnil, ho⟩, hBl1, hF⟩, hAn⟩, hd, hk⟩ ⟨Bp, hp, rfl⟩ hlt
        have cB := hv.cell
        have p0 := hp.at_ 0
        have p1 := hp.at_ 1
        have hle := hBl1.size
        obtain ⟨i0, hi, hz0, hz1, hz2⟩ := info_parts infoSj
        have hrl : (es'.map sO ++ fs'.map sF ++ pre.map sW).length ≤ 300000 := by
          rw [List.length_append]
          have : (pre.map sW).length = pre.length := by simp
          omega
        generalize hRR : es'.map sO ++ fs'.map sF ++ pre.map sW = RR at *
        gi_wp2_with (first
          | (gi_at_builtin; go_loud (refine wpListIn_append_own_at _ rfl _ _ 101 rfl w.heap.size 104 i0 _ 3 24 Tryz.underlying101 hi hz0 hz1 hz2 rfl (by decide) _ _ _ rfl (hrow.alloc _) ⟨W1.heap.size, 0, none⟩ 1 1 (ecl (sW ⟨xa, xn⟩)) rfl rfl (fun j u hj => (new_at _ _ _ j).trans (by rw [← hj]; simp [ecl, sW])) (by simp [Value.oneCell', ecl, sW]) (by unfold maxLen; omega) (by omega) (by simp; omega) ?_)
             intro v' w3 hown' hgrow _ hat
             obtain ⟨g', cap', rfl⟩ := ownsRow_succ hown'
             obtain ⟨hv1, hl2, hk2, hb2, hoth⟩ := Lsj.push h1w (Nat.le_refl _) hv hrow ho hBl1 hF hown' hgrow hat
             have hc1 := hv1.cell
             have hf1 := hv1.frozen)
          | gi_in)
        have hAl := hAn.lt
        refine ⟨hk2.from _, ⟨fun b hb => hoth b (Nat.lt_of_lt_of_le (hBl b hb) hF) (fun e => ?_) (fun e => ?_), hk2.size⟩, ⟨?_, ?_⟩, hk2.same _ _ hd rfl, hk2.same _ _ hk rfl⟩
        · have := hBf b hb
          have := hL2.1.2.1.size
          have := hL2.2.lt
          omega
        · have h5 := hBf b hb
          have h6 := hBl b hb
          rcases ho b e.symm with h | h <;> omega
        · have h3 := hl2
          generalize w3.setCell ⟨w.heap.size, 0, none⟩ (.slice (some ⟨g', 0, none⟩) (RR.length + 1) cap') = V7 at h3 ⊢
          rw [← hRR] at h3
          simpa [sW] using h3
        · exact (hoth _ hAl (by omega) (row_otherE hrow hAn (by decide))).trans hAn
      case done =>
        rintro D3 ps' W3 hD3 rfl ⟨hL3, hd3, hk3⟩ hK3
        obtain ⟨⟨⟨v, hv, hrow, hnil, ho⟩, hBl3, hF3⟩, hAn⟩ := hL3
        have cB := hv.cell
        have hle : es'.length = xs.length := by have h := HE.out.1; rw [← show es'.map (·.key) = xs from h]; simp
        have hlf : fs'.length = ys.length := by have h := HE2.out.1; rw [← show fs'.map (·.key) = ys from h]; simp
        have hlp := hPf.len
        have hlen : (es'.map sO ++ fs'.map sF ++ ps'.map sW).length < 20 := by
          rw [List.length_append, List.length_append, List.length_map, List.length_map, List.length_map]
          omega
        have hmem := hPf.mem
        have hSo := sj_sort hrow hnil hlen
        have oD := own_no_def hrow hd3
        have oD2 := own_no_def hrow hk3
        have oD3 := own_no_def hrow hK3
        have oB : v.ownBlock ≠ some w.heap.size := fun e => row_otherE hrow (show Blk 101 W3 w.heap.size #[v] from hv) (by decide) e.symm
        have hge : ∀ b, v.ownBlock = some b → w.heap.size ≤ b := fun b e => (hrow.lt b e).1
        have hDl : D < W3.heap.size := (Array.getElem?_eq_some_iff.1 hd3).1
        have hDl2 : D2 < W3.heap.size := (Array.getElem?_eq_some_iff.1 hk3).1
        have hDl3 : D3 < W3.heap.size := (Array.getElem?_eq_some_iff.1 hK3).1
        have n12 : D ≠ D2 := by omega
        have n13 : D ≠ D3 := by omega
        have n23 : D2 ≠ D3 := by omega
        have hs1 := hL2.1.2.1.size
        gi_wp2
        refine ⟨trivial, (callsIn_any hSo).mono ?_⟩
        rintro e W4 ⟨rfl, ds, hso, hat, hT4⟩
        have hno : ∀ {X : Nat}, v.ownBlock ≠ some X → X ∉ v.ownBlock.toList := fun {X} h hm => h (by simpa using hm)
        have cB4 : W4.cell? ⟨w.heap.size, 0, none⟩ = some v := hT4.cell cB (hno oB)
        have d4 := (hT4.block D hDl (hno oD)).trans hd3
        have e4 := (hT4.block D2 hDl2 (hno oD2)).trans hk3
        have k4 := (hT4.block D3 hDl3 (hno oD3)).trans hK3
        have hds : (ds.map (·.e)).length < 20 := by rw [List.length_map, hso.len]; exact hlen
        have hCo := sj_compact hat hds
        have hw4 := hT4.size
        clear hSo cB
        gi_wp2
        refine ⟨trivial, (callsIn_any hCo).mono ?_⟩
        rintro e W5 ⟨v', rfl, hat5, hT5, hown⟩
        have d5 := (hT5.block D (by omega) (hno oD)).trans d4
        have e5 := (hT5.block D2 (by omega) (hno oD2)).trans e4
        have k5 := (hT5.block D3 (by omega) (hno oD3)).trans k4
        have hB5 : Below w.heap.size w W5 := (hBl3.trans (hT4.below (fun i hi => hge i (by simpa using hi)) hBl3.size)).trans (hT5.below (fun i hi => hge i (by simpa using hi)) (Nat.le_trans hBl3.size hw4))
        clear hCo
        gi_wp2
        have d6 : ((W5.putObj D3 (.deferred none)).putObj D2 (.deferred none)).heap[D]? = some (.deferred (some [])) := (World.putObj_heap_other n12).trans ((World.putObj_heap_other n13).trans d5)
        have e6 : (W5.putObj D3 (.deferred none)).heap[D2]? = some (.deferred (some [])) := (World.putObj_heap_other n23).trans e5
        refine ⟨by simp, .inl ⟨_, _, rfl, run_takeDeferred k5, by simp, .inl ⟨_, _, rfl, run_takeDeferred e6, by simp, .inl ⟨_, _, rfl, run_takeDeferred d6, ?_⟩⟩⟩⟩
        refine ⟨_, results_tmp rfl _ _ _, v', xs, ys, ps', es', fs', ds, rfl, HE.out, HE2.out, hmem, hso, (by rw [hso.len]; exact hlen), ((hat5.put (by rw [hown]; exact oD3)).put (by rw [hown]; exact oD2)).put (by rw [hown]; exact oD), fun b e => hge b (by rw [← hown]; exact e), ?_⟩
        exact ((hB5.grown (grownBy_putObj' _ _ _) hB5.size (fun k e => by cases e; omega)).grown (grownBy_putObj' _ _ _) (by rw [World.putObj_size]; exact hB5.size) (fun k e => by cases e; omega)).grown (grownBy_putObj' _ _ _) (by rw [World.putObj_size, World.putObj_size]; exact hB5.size) (fun k e => by cases e; omega)
end Go.Proofs.YtmhcjhbmeohjdaaGreat

