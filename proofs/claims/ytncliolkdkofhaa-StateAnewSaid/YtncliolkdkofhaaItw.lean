/-
  Owns: the iterator over what is noted of prefixes, gone through.
-/
import Derived.Test.YtncliolkdkofhaaItcP
namespace Go.Proofs.Ytncliolkdkofhaa
open Go.RowKit Go.Maps Go.Sort
attribute [local go_sem] Oper.semAt_some

/-- what a caller's function is handed -/
def arO {f : Pk → Option Bool} (x : ElP f) : Array Value := #[.agg (clP x.key).toArray, .bool x.val]
/-- each block of type t is as it was -/
def KeepT (t : TypeId) (W W' : World) : Prop := ∀ b C, Blk t W b C → Blk t W' b C
/-- what it comes to: it goes on, or it does not -/
def goO {f : Pk → Option Bool} (B : Nat) (L : List Nat) (J Jx : List (ElP f) → World → Prop) (pre : List (ElP f)) (x : ElP f) (W1 : World) (e : Ending) (W' : World) : Prop :=
  ∃ b : Bool, e = .returned (.bool b) ∧ KeepsFrom B W1 W' ∧ (if b then J (pre ++ [x]) W' ∧ KeepS L W1 W' ∧ KeepT 71 W1 W' else Jx (pre ++ [x]) W')
theorem enter_inOrdP : ∀ args w, (callFunc 44 args).run Try.prog w = .ok (.enter 44 args) w := enters_of Try.func44 (by kernel_rfl) rfl

set_option maxRecDepth 100000 in
set_option maxHeartbeats 2000000 in
theorem owns1 {W : World} {B1 B2 B3 n : Nat} {v : Value} {o : Option Nat} {f : Pk → Option Bool} {xs : List Pk} {es : List (ElP f)} (h : ItP W B1 B2 v o n f xs) (hE : EsP f xs es)
    (h3 : Blk 79 W B3 #[.func (.func 44) #[] #[.pointer (some ⟨B1, 0, none⟩), .pointer (some ⟨B2, 0, none⟩)]])
    (fv : Fv) (J Jx : List (ElP f) → World → Prop) (hJ : OwnFrom W.heap.size J) (hJx : OwnFrom W.heap.size Jx)
    (hY : ∀ pre x W1, J pre W1 → W.heap.size ≤ W1.heap.size → pre.length < es.length → fv.At Try.prog (arO x) W1 (goO W.heap.size (itL B1 B2 v o) J Jx pre x W1)) (h0 : J [] W) (m : Nat) :
    CallsIn Fence.wide m Try.prog 35 #[fv.val, .pointer (some ⟨B3, 0, none⟩)] W fun e W' => (∃ v, e = .returned v) ∧ (J es W' ∨ ∃ pre, Jx pre W') := by
  refine callsIn_any ((callsIn_wide (n := 9)).1 ?_)
  have c3 := h3.at_ 0
  have hl3 := h3.lt
  cases fv with
  | fn gg lb =>
    refine callsIn_of_wp_marks Try.func35 rfl trivial ?_ rfl
    simp only [Fv.val, Try.ntmps35, List.size_toArray, List.length_cons, List.length_nil, Nat.reduceAdd, Nat.reduceSub, Array.replicate_succ, Array.replicate_zero, List.push_toArray, List.append_toArray, List.nil_append, List.cons_append]
    have hbx := below_new W (.cells #[.func (.func gg) #[] lb] 71)
    have hzx := size_new W (.cells #[.func (.func gg) #[] lb] 71)
    have hF := Blk.new W 71 #[.func (.func gg) #[] lb]
    have hJ0 : J [] (W.alloc (.cells #[.func (.func gg) #[] lb] 71)) := hJ.alloc _ h0
    have c3' := held hbx c3
    gi_wp2
    generalize W.alloc (.cells #[.func (.func gg) #[] lb] 71) = w at *
    refine wpIn_rangeFunc_ownH rfl (by omega) (gf := 44) (lb := #[.pointer (some ⟨B1, 0, none⟩), .pointer (some ⟨B2, 0, none⟩)]) rfl trivial enter_inOrdP (inOrdP_stops (h.held hbx) hE 8) KeepS.trans (keepS_put (h.held hbx).lt) (Below.refl _ _) (fun _ => rfl)
      (fun pre W' => (J pre W' ∧ Blk 71 W' W.heap.size #[.func (.func gg) #[] lb]) ∧ W.heap.size ≤ W'.heap.size)
      (fun c pre W' => c = .ret ∧ Jx pre W')
      (OwnFrom.and (OwnFrom.and (OwnFrom.up hJ (by omega)) (fun _ _ _ _ hs hg hr => hs.grown hg hr)) (fun _ _ _ _ hs hg _ => Nat.le_trans hs hg.size))
      (fun c => OwnFrom.and (ownFrom_pure _ _) (OwnFrom.up hJx (by omega)))
      ⟨⟨hJ0, hF⟩, by omega⟩
      (fun x a' W' => ∃ Bp Bo, Blk 32 W' Bp #[.int .u32 x.key.a, .int .i64 x.key.n] ∧ Blk 61 W' Bo #[.bool x.val] ∧ a' = { tmps := #[.func (.func gg) #[] lb, .pointer (some ⟨B3, 0, none⟩), .pointer (some ⟨W.heap.size, 0, none⟩), .pointer (some ⟨Bp, 0, none⟩), .pointer (some ⟨Bo, 0, none⟩), .func (.func 44) #[] #[.pointer (some ⟨B1, 0, none⟩), .pointer (some ⟨B2, 0, none⟩)], .agg #[.int .u32 x.key.a, .int .i64 x.key.n], .agg #[.bool x.val], undef, undef, undef, undef, undef, undef], defers := [] })
      ?_ ?assign ?body ?done ?stop
    · rintro x a' s W1 W' row ⟨Bp, Bo, hp, ho, rfl⟩ hg hr
      exact ⟨Bp, Bo, hp.grown hg hr, ho.grown hg hr, rfl⟩
    case assign =>
      rintro l pre ⟨⟨xa, xn⟩, y, hok, hfit, hhas⟩ W1 K ⟨⟨hj, hf⟩, hz⟩ hK
      have hP := (Blk.new W1 32 #[.int .u32 xa, .int .i64 xn]).more (.cells #[.bool y] 61)
      have hO := Blk.new (W1.alloc (.cells #[.int .u32 xa, .int .i64 xn] 32)) 61 #[.bool y]
      rw [size_new] at hO
      have hbb := next (below_new W1 (.cells #[.int .u32 xa, .int .i64 xn] 32)) (below_new (W1.alloc (.cells #[.int .u32 xa, .int .i64 xn] 32)) (.cells #[.bool y] 61))
      have hJ2 := hJ.alloc (.cells #[.bool y] 61) (hJ.alloc (.cells #[.int .u32 xa, .int .i64 xn] 32) hj)
      have hf2 := hf.held hbb
      have hsz2 := hbb.size
      simp only [arP, clP, ownV]
      gi_wp2
      exact hK _ _ (keepsFrom_below _ hbb) (.of_below (fun b hb => Nat.lt_of_lt_of_le (h.lt b hb) hz) hbb) ⟨⟨hJ2, hf2⟩, by omega⟩ ⟨_, _, hP, hO, rfl⟩
    case body =>
      rintro l pre ⟨⟨xa, xn⟩, y, hok, hfit, hhas⟩ a' W1 hl hr ⟨⟨hj, hf⟩, hz⟩ ⟨Bp, Bo, hp, ho, rfl⟩ hlt
      have hy := hY pre ⟨⟨xa, xn⟩, y, hok, hfit, hhas⟩ W1 hj hz hlt
      have p0 := hp.at_ 0
      have p1 := hp.at_ 1
      have o0 := ho.at_ 0
      have f0 := hf.at_ 0
      clear hY hJ hJx hp ho
      have eg := hy.1
      gi_wp2
      refine ⟨trivial, (callsIn_round hy.2).mono ?_⟩
      rintro e W2 ⟨b, rfl, hkf, hb⟩
      have hs2 := hkf.size
      cases b with
      | true =>
        rw [if_pos rfl] at hb
        obtain ⟨hb1, hb2, hb3⟩ := hb
        gi_wp2
        exact ⟨KeepsFrom.mono hkf (by omega), hb2, ⟨hb1, hb3 _ _ hf⟩, by omega⟩
      | false =>
        rw [if_neg (by simp)] at hb
        gi_wp2
        exact ⟨KeepsFrom.mono hkf (by omega), rfl, hb⟩
    case done =>
      rintro D ys W1 hD rfl ⟨⟨hj, hf⟩, hz⟩ hK
      have hj2 := hJ.putObj (.deferred none) hj (Nat.le_trans (by omega) hD) hK rfl
      gi_wp2
      refine ⟨by simp, .inl ⟨_, _, rfl, run_takeDeferred hK, ?_⟩⟩
      exact ⟨_, results_none rfl _ _ _, ⟨_, rfl⟩, .inl hj2⟩
    case stop =>
      rintro D c pre W1 hD _ ⟨rfl, hj⟩ hK
      have hj2 := hJx.putObj (.deferred none) hj (Nat.le_trans (by omega) hD) hK rfl
      gi_wp2
      refine ⟨by simp, .inl ⟨_, _, rfl, run_takeDeferred hK, ?_⟩⟩
      exact ⟨_, results_none rfl _ _ _, ⟨_, rfl⟩, .inr ⟨pre, hj2⟩⟩
  | loop l0 =>
    refine callsIn_of_wp_marks Try.func35 rfl trivial ?_ rfl
    simp only [Fv.val, Try.ntmps35, List.size_toArray, List.length_cons, List.length_nil, Nat.reduceAdd, Nat.reduceSub, Array.replicate_succ, Array.replicate_zero, List.push_toArray, List.append_toArray, List.nil_append, List.cons_append]
    have hbx := below_new W (.cells #[.func (.yield l0) #[] #[]] 71)
    have hzx := size_new W (.cells #[.func (.yield l0) #[] #[]] 71)
    have hF := Blk.new W 71 #[.func (.yield l0) #[] #[]]
    have hJ0 : J [] (W.alloc (.cells #[.func (.yield l0) #[] #[]] 71)) := hJ.alloc _ h0
    have c3' := held hbx c3
    gi_wp2
    generalize W.alloc (.cells #[.func (.yield l0) #[] #[]] 71) = w at *
    refine wpIn_rangeFunc_ownH rfl (by omega) (gf := 44) (lb := #[.pointer (some ⟨B1, 0, none⟩), .pointer (some ⟨B2, 0, none⟩)]) rfl trivial enter_inOrdP (inOrdP_stops (h.held hbx) hE 8) KeepS.trans (keepS_put (h.held hbx).lt) (Below.refl _ _) (fun _ => rfl)
      (fun pre W' => (J pre W' ∧ Blk 71 W' W.heap.size #[.func (.yield l0) #[] #[]]) ∧ W.heap.size ≤ W'.heap.size)
      (fun c pre W' => c = .ret ∧ Jx pre W')
      (OwnFrom.and (OwnFrom.and (OwnFrom.up hJ (by omega)) (fun _ _ _ _ hs hg hr => hs.grown hg hr)) (fun _ _ _ _ hs hg _ => Nat.le_trans hs hg.size))
      (fun c => OwnFrom.and (ownFrom_pure _ _) (OwnFrom.up hJx (by omega)))
      ⟨⟨hJ0, hF⟩, by omega⟩
      (fun x a' W' => ∃ Bp Bo, Blk 32 W' Bp #[.int .u32 x.key.a, .int .i64 x.key.n] ∧ Blk 61 W' Bo #[.bool x.val] ∧ a' = { tmps := #[.func (.yield l0) #[] #[], .pointer (some ⟨B3, 0, none⟩), .pointer (some ⟨W.heap.size, 0, none⟩), .pointer (some ⟨Bp, 0, none⟩), .pointer (some ⟨Bo, 0, none⟩), .func (.func 44) #[] #[.pointer (some ⟨B1, 0, none⟩), .pointer (some ⟨B2, 0, none⟩)], .agg #[.int .u32 x.key.a, .int .i64 x.key.n], .agg #[.bool x.val], undef, undef, undef, undef, undef, undef], defers := [] })
      ?_ ?assign ?body ?done ?stop
    · rintro x a' s W1 W' row ⟨Bp, Bo, hp, ho, rfl⟩ hg hr
      exact ⟨Bp, Bo, hp.grown hg hr, ho.grown hg hr, rfl⟩
    case assign =>
      rintro l pre ⟨⟨xa, xn⟩, y, hok, hfit, hhas⟩ W1 K ⟨⟨hj, hf⟩, hz⟩ hK
      have hP := (Blk.new W1 32 #[.int .u32 xa, .int .i64 xn]).more (.cells #[.bool y] 61)
      have hO := Blk.new (W1.alloc (.cells #[.int .u32 xa, .int .i64 xn] 32)) 61 #[.bool y]
      rw [size_new] at hO
      have hbb := next (below_new W1 (.cells #[.int .u32 xa, .int .i64 xn] 32)) (below_new (W1.alloc (.cells #[.int .u32 xa, .int .i64 xn] 32)) (.cells #[.bool y] 61))
      have hJ2 := hJ.alloc (.cells #[.bool y] 61) (hJ.alloc (.cells #[.int .u32 xa, .int .i64 xn] 32) hj)
      have hf2 := hf.held hbb
      have hsz2 := hbb.size
      simp only [arP, clP, ownV]
      gi_wp2
      exact hK _ _ (keepsFrom_below _ hbb) (.of_below (fun b hb => Nat.lt_of_lt_of_le (h.lt b hb) hz) hbb) ⟨⟨hJ2, hf2⟩, by omega⟩ ⟨_, _, hP, hO, rfl⟩
    case body =>
      rintro l pre ⟨⟨xa, xn⟩, y, hok, hfit, hhas⟩ a' W1 hl hr ⟨⟨hj, hf⟩, hz⟩ ⟨Bp, Bo, hp, ho, rfl⟩ hlt
      have hy := hY pre ⟨⟨xa, xn⟩, y, hok, hfit, hhas⟩ W1 hj hz hlt
      have p0 := hp.at_ 0
      have p1 := hp.at_ 1
      have o0 := ho.at_ 0
      have f0 := hf.at_ 0
      clear hY hJ hJx hp ho
      obtain ⟨fn, tmps, assign, body, hy, hR⟩ := hy
      simp only [arO, clP] at hy
      gi_wp2
      refine (roundIn_in hR).mono ?_
      rintro e W2 ⟨b, rfl, hkf, hb⟩
      have hs2 := hkf.size
      cases b with
      | true =>
        rw [if_pos rfl] at hb
        obtain ⟨hb1, hb2, hb3⟩ := hb
        gi_wp2
        exact ⟨KeepsFrom.mono hkf (by omega), hb2, ⟨hb1, hb3 _ _ hf⟩, by omega⟩
      | false =>
        rw [if_neg (by simp)] at hb
        gi_wp2
        exact ⟨KeepsFrom.mono hkf (by omega), rfl, hb⟩
    case done =>
      rintro D ys W1 hD rfl ⟨⟨hj, hf⟩, hz⟩ hK
      have hj2 := hJ.putObj (.deferred none) hj (Nat.le_trans (by omega) hD) hK rfl
      gi_wp2
      refine ⟨by simp, .inl ⟨_, _, rfl, run_takeDeferred hK, ?_⟩⟩
      exact ⟨_, results_none rfl _ _ _, ⟨_, rfl⟩, .inl hj2⟩
    case stop =>
      rintro D c pre W1 hD _ ⟨rfl, hj⟩ hK
      have hj2 := hJx.putObj (.deferred none) hj (Nat.le_trans (by omega) hD) hK rfl
      gi_wp2
      refine ⟨by simp, .inl ⟨_, _, rfl, run_takeDeferred hK, ?_⟩⟩
      exact ⟨_, results_none rfl _ _ _, ⟨_, rfl⟩, .inr ⟨pre, hj2⟩⟩
end Go.Proofs.Ytncliolkdkofhaa
