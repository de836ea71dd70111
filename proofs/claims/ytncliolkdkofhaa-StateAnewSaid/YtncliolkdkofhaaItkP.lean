/-
  The keys of a map (addr.Prefix): the iterator; what it hands on is collected.
-/
import Derived.Test.YtncliolkdkofhaaIt
import Derived.Test.YtncliolkdkofhaaStB
namespace Go.Proofs.Ytncliolkdkofhaa
open Go.RowKit Go.Maps
attribute [local go_sem] Oper.semAt_some

theorem enter_keysP : ∀ args w, (callFunc 59 args).run Try.prog w = .ok (.enter 59 args) w := enters_of Try.func59 (by kernel_rfl) rfl

set_option maxRecDepth 100000 in
set_option maxHeartbeats 1000000 in
theorem keysP_stops (m : Nat) (Bm b n : Nat) (f : Pk → Option Value) (w : World) (hm : w.cell? ⟨Bm, 0, none⟩ = some (.map (some b))) (hM : Mk pkE w b n f) :
    SeqStopsK Fence.wide m Try.prog 59 #[.pointer (some ⟨Bm, 0, none⟩)] (fun x : Pk => #[.agg #[.int .u32 x.a, .int .i64 x.n]]) KeepsWalks (fun xs => xs.Nodup ∧ ∀ x, x ∈ xs ↔ x.ok ∧ (f x).isSome = true) (fun _ => True) n w := fun l J Jx W hW hJ _ hY h0 => by
  have hm' := held hW hm
  have hM' := hM.held hW
  clear hm hM hW
  obtain ⟨w0, hr, hrg0, hg0, hs0⟩ := hM'.range (t := 56) (e := 61) (by kernel_rfl)
  have h00 := hJ [] W w0 none h0 hg0 (fun r e => by cases e)
  refine callsIn_of_wp Try.func59 rfl trivial ?_ rfl
  simp only [Try.ntmps59, List.size_toArray, List.length_cons, List.length_nil, Nat.reduceAdd, Nat.reduceSub, Array.replicate_succ, Array.replicate_zero, List.push_toArray, List.append_toArray, List.nil_append, List.cons_append]
  gi_wp2
  gi_loopw [6] (fun _ wr => ∃ (left : Pk → Bool) (cnt : Nat) (ss : List Pk), Rg pkE wr b W.heap.size n f left cnt ∧ ss.length + cnt ≤ n ∧ Came pkE f left ss ∧ J ss wr)
    (fun _ wr => wr.rangeLeft b W.heap.size)
  case atStart =>
    exact ⟨_, _, [], hrg0, by simp, Came.start _ _, h00⟩
  case round =>
    obtain ⟨left, cnt, ss, hrg, hcs, hC, hJs⟩ := hrel
    rcases hrg.next 0 with ⟨hc0, hl0, hrun⟩ | ⟨i, v, w2, cnt2, hi, hli, hfi, hrun, hrg2, hlt, hg2, hs2, hen⟩
    · gi_wp2
      go_end0
      exact ⟨⟨_, rfl⟩, .inl ⟨ss, hC.all hl0, hJs⟩⟩
    · obtain ⟨xa, xn⟩ := i
      have hJ2 : J ss w2 := hJ ss wr w2 (some W.heap.size) hJs hg2 (fun r e => by cases e; exact ⟨Nat.le_refl _, hrg.iter_walk⟩)
      have hJ3 : J ss (w2.alloc (.cells #[.int .u32 xa, .int .i64 xn] 32)) := hJ ss w2 _ none hJ2 (World.grownBy_alloc w2 _ none) (fun r e => by cases e)
      have hrg3 := hrg2.of_walks (KeepsWalks.alloc w2 (.cells #[.int .u32 xa, .int .i64 xn] 32))
      obtain ⟨fn, tmps, assign, body, hy, hR⟩ := hY ss ⟨xa, xn⟩ _ hJ3 (by omega)
      have hC2 := hC.step hi hli hfi
      replace hrun : (Instr.next (.pointer (some ⟨W.heap.size, 0, none⟩)) false 0).run Try.prog wr = .ok (.tuple #[.bool true, .agg #[.int .u32 xa, .int .i64 xn], v]) w2 := hrun
      replace hen : (Instr.entry (.pointer (some ⟨W.heap.size, 0, none⟩))).run Try.prog w2 = .ok (.tuple #[.agg #[.int .u32 xa, .int .i64 xn], v]) w2 := hen
      clear hs2
      gi_wp2
      refine ⟨fun h => (by cases h), hR.mono ?_⟩
      rintro e W3 (⟨rfl, hJ4, hk3⟩ | ⟨rfl, hJx3⟩)
      · gi_wp2
        have hrg4 := hrg3.of_walks hk3
        go_roundw
        case rel => exact ⟨_, cnt2, ss ++ [⟨xa, xn⟩], hrg4, by simp; omega, hC2, hJ4⟩
        case measure => rw [hrg4.left_eq, hrg.left_eq]; exact hlt
      · gi_wp2
        refine bodyPost_ret (results_none rfl _ _ _) rfl ?_
        exact ⟨⟨_, rfl⟩, .inr ⟨ss ++ [⟨xa, xn⟩], trivial, hJx3⟩⟩

set_option maxRecDepth 100000 in
set_option maxHeartbeats 1000000 in
/-- of the nil map: none -/
theorem keysP_stops_nil (m : Nat) (Bm : Nat) (w : World) (hm : w.cell? ⟨Bm, 0, none⟩ = some (.map none)) :
    SeqStopsK Fence.wide m Try.prog 59 #[.pointer (some ⟨Bm, 0, none⟩)] (fun x : Pk => #[.agg #[.int .u32 x.a, .int .i64 x.n]]) KeepsWalks (fun xs => xs = []) (fun _ => True) 0 w := fun l J Jx W hW hJ _ hY h0 => by
  have hm' := held hW hm
  clear hm hW
  refine callsIn_of_wp Try.func59 rfl trivial ?_ rfl
  simp only [Try.ntmps59, List.size_toArray, List.length_cons, List.length_nil, Nat.reduceAdd, Nat.reduceSub, Array.replicate_succ, Array.replicate_zero, List.push_toArray, List.append_toArray, List.nil_append, List.cons_append]
  have hrg := run_range_nilMap (P := Try.prog) W 56 32 61 (by kernel_rfl)
  have hnx : ∀ ty, (Instr.next (.pointer (some ⟨W.heap.size, 0, none⟩)) false ty).run Try.prog (W.alloc (.mapIter none 0 #[] 0)) = _ := fun ty => run_next_nilMap _ ty 0 0 #[]
  gi_wp2
  refine wpIn_loop_rounds 1 ?_
  rw [roundsIn_succ]
  gi_wp2
  go_end0
  exact ⟨⟨_, rfl⟩, .inl ⟨[], rfl, hJ [] W _ none h0 (World.grownBy_alloc W _ none) (fun r e => by cases e)⟩⟩

theorem keysP_fn (o : Option Nat) (w : World) : Calls Try.prog 53 #[.map o] w fun e w' =>
    e = .returned (.func (.func 59) #[] #[.pointer (some ⟨w.heap.size, 0, none⟩)]) ∧ w' = w.alloc (.cells #[.map o] 56) := by
  go_enter Try.func53, Try.ntmps53
  go_wp2
  go_ret
  exact ⟨rfl, rfl⟩

/-! ### they are collected -/
def clP (x : Pk) : List Value := [.int .u32 x.a, .int .i64 x.n]
theorem infoP : (Try.prog.info? 32).map (fun i => (i.zero, i.size, i.bytes)) = some (some (.agg #[.int .u32 0, .int .i64 0]), 2, 16) := by kernel_rfl

/-- what is collected: a row of the call's own -/
def GotP (n₀ : Nat) (v : Value) (xs : List Pk) (W : World) : Prop := W.ownsRow n₀ 32 2 v xs.length (xs.flatMap clP) ∧ (v = .slice none 0 0 ↔ xs = [])

set_option maxRecDepth 100000 in
set_option maxHeartbeats 2000000 in
theorem appendSeqP {g : Nat} {lb : Array Value} (eg : ∀ args w, (callFunc g args).run Try.prog w = .ok (.enter g args) w) {S Sp : List Pk → Prop} {N : Nat} (hN : N ≤ 100000) {w : World}
    (hseq : SeqStopsK Fence.wide 8 Try.prog g lb (fun x : Pk => #[.agg #[.int .u32 x.a, .int .i64 x.n]]) KeepsWalks S Sp N w) :
    Calls Try.prog 63 #[.slice none 0 0, .func (.func g) #[] lb] w fun e w' => ∃ v xs, e = .returned v ∧ S xs ∧ GotP w.heap.size v xs w' ∧ Below w.heap.size w w' := by
  obtain ⟨i0, hi, hz0, hz1, hz2⟩ := info_parts infoP
  refine (callsIn_wide (n := 9)).1 ?_
  refine callsIn_of_wp_marks Try.func63 rfl trivial ?_ rfl
  simp only [Try.ntmps63, List.size_toArray, List.length_cons, List.length_nil, Nat.reduceAdd, Nat.reduceSub, Array.replicate_succ, Array.replicate_zero, List.push_toArray, List.append_toArray, List.nil_append, List.cons_append]
  gi_wp2
  refine wpIn_rangeFunc_ownH rfl (by omega) (gf := g) (lb := lb) rfl trivial eg hseq walksK_t walksK_b (below_new _ _) (fun _ => rfl)
    (fun pre W => (∃ v, Boxed W w.heap.size 91 v ∧ W.ownsRow w.heap.size 32 2 v pre.length (pre.flatMap clP) ∧ (v = .slice none 0 0 ↔ pre = [])) ∧ Below w.heap.size w W)
    (fun _ _ _ => False)
    (OwnFrom.and (Own.from (holdsRow_own w.heap.size w.heap.size 91 32 2 (fun pre => pre.length) (fun pre => pre.flatMap clP) (fun pre v => (v = .slice none 0 0 ↔ pre = []))) _) (ownFrom_below (Nat.le_refl _) (by simp)))
    (fun _ _ _ _ _ h _ _ => h) ?_
    (fun x a' W => ∃ Bx, Blk 32 W Bx #[.int .u32 x.a, .int .i64 x.n] ∧ a' = { tmps := #[.slice none 0 0, .func (.func g) #[] lb, .pointer (some ⟨w.heap.size, 0, none⟩), undef, .slice none 0 0, .pointer (some ⟨Bx, 0, none⟩), .func (.func g) #[] lb, .agg #[.int .u32 x.a, .int .i64 x.n], undef, undef, undef, undef, undef], defers := [] })
    ?_ ?assign ?body ?done ?stop
  · exact ⟨⟨_, Boxed.new _ _ _, World.ownsRow_nil _ _ _ _, by simp⟩, below_new _ _⟩
  · rintro x a' s W W' row ⟨Bx, hX, rfl⟩ hg hr
    exact ⟨Bx, hX.grown hg hr, rfl⟩
  case assign =>
    rintro l pre x W K ⟨⟨v, hv, hrow, hnil⟩, hB⟩ hK
    gi_wp2
    exact hK _ _ ((KeepsOthers.alloc _ _).from _) (KeepsWalks.alloc _ _) ⟨⟨v, hv.alloc _, hrow.alloc _, hnil⟩, hB.alloc hB.size _⟩ ⟨_, Blk.new _ _ _, rfl⟩
  case body =>
    rintro l pre ⟨xa, xn⟩ a' W hl hr ⟨⟨v, hv, hrow, hnil⟩, hB⟩ ⟨Bx, hX, rfl⟩ hlt
    have cB := hv.cell
    have x0 := hX.at_ 0
    have x1 := hX.at_ 1
    have hle := hB.size
    gi_wp2_with (first
      | (gi_at_builtin; refine wpListIn_append_own _ rfl _ _ 91 rfl w.heap.size 32 i0 (.agg #[.int .u32 0, .int .i64 0]) 2 16 Try.underlying91 hi hz0 hz1 hz2 rfl (by decide) _ _ _ rfl (hrow.alloc _) ⟨W.heap.size, 0, none⟩ 1 1 [.int .u32 xa, .int .i64 xn] rfl rfl (fun j u hj => (new_at _ _ _ j).trans (by simpa using hj)) (by simp [Value.oneCell']) (by unfold maxLen; omega) (by omega) (by simp; omega) ?_
         intro v' w1 hown' hgrow _
         obtain ⟨g', cap', rfl⟩ := ownsRow_succ hown'
         obtain ⟨hv1, hv2, hr2, hk2, hb2⟩ := hv.appended (by decide) hrow hB.size (Nat.le_refl _) hown' hgrow
         have hc1 := hv1.cell
         have hf1 := hv1.frozen)
      | gi_in)
    refine ⟨hk2.from _, hk2.walks, ⟨_, hv2, by simpa [clP] using hr2, by simp⟩, ?_⟩
    exact hB.trans hb2
  case done =>
    rintro D xs W hD hS ⟨⟨v, hv, hrow, hnil⟩, hB⟩ hK
    have cB := hv.cell
    have hD' : w.heap.size ≤ D := by simp at hD; omega
    gi_wp2
    refine ⟨by simp, .inl ⟨_, _, rfl, run_takeDeferred hK, ?_⟩⟩
    exact ⟨_, results_tmp rfl _ _ _, v, xs, rfl, hS, ⟨ownsRow_putObj hrow _ hK rfl, hnil⟩, hB.grown (grownBy_putObj' _ _ _) hB.size (fun k e => by cases e; exact hD')⟩
  case stop =>
    rintro D c pre W _ _ h _
    exact h.elim
end Go.Proofs.Ytncliolkdkofhaa
