/-
  Package loop: Addresses, of two machines.
-/
import Derived.Test.YtdeiolpcppibgaaLpQ
import Derived.Test.YtdeiolpcppibgaaTakeL
namespace Go.Proofs.Ytdeiolpcppibgaa
open Go.RowKit Go.Maps Fm
attribute [local go_sem] Oper.semAt_some

section
variable {α : Type} {P : Program} {t e : TypeId} {cl : α → List Value} {k bytes B : Nat} {v : Value} {xs : List α} {W : World}
theorem flat_one (E : Elem P t e cl k bytes) : ∀ (ys : List α), ∀ u ∈ ys.flatMap cl, u.oneCell' = true
  | [], u, h => by simp at h
  | y :: r, u, h => by
    rw [List.flatMap_cons] at h
    rcases List.mem_append.1 h with h | h
    · exact E.one y u h
    · exact flat_one E r u h
/-- behind 'append(list, ys...)' -/
theorem Ol.pushL (E : Elem P t e cl k bytes) (h : Ol e cl k B v xs W) (hB : B ≤ W.heap.size) {ad : Addr} {c : Nat} (ys : List α) (hy : 0 < ys.length) (hx : ∀ j u, (ys.flatMap cl)[j]? = some u → W.cell? (ad.add j) = some u) (hbig : xs.length + ys.length ≤ 1000000) (ty : TypeId) :
    ∃ g' cap' W', (Builtin.append_ #[t, t] ty #[v, .slice (some ad) ys.length c]).run P W = .ok (.slice (some ⟨g', 0, none⟩) (xs.length + ys.length) cap') W' ∧ Ol e cl k B (.slice (some ⟨g', 0, none⟩) (xs.length + ys.length) cap') (xs ++ ys) W' ∧ W.grownBy W' v.ownBlock ∧ (v.ownBlock = some g' ∨ g' = W.heap.size) := by
  obtain ⟨i0, z, hi, hz0, hz1, hz2, hz3⟩ := E.info
  obtain ⟨v', W', hr, hown, hgr, hnil, hat⟩ := run_append_own_at (P := P) W B t ty e i0 z k bytes E.ht hi hz0 hz1 hz2 hz3 E.pos v xs.length (xs.flatMap cl) h ad ys.length c (ys.flatMap cl) (cl_flat_len E.len ys) hx (flat_one E ys)
    (by unfold maxLen; omega) (by have h1 := E.small; have := Nat.mul_le_mul (show xs.length + ys.length ≤ 1000001 by omega) h1; omega) hB
  have hne : ¬ v' = .slice none 0 0 := fun e => by have := (hnil.1 e).2; omega
  rcases hown.2 with ⟨rfl, _⟩ | ⟨g', cap', cur, rfl, h4, h5, h6, h7, h8, h9⟩
  · exact absurd rfl hne
  · have e1 : (xs ++ ys).flatMap cl = xs.flatMap cl ++ ys.flatMap cl := by simp
    have e2 : (xs ++ ys).length = xs.length + ys.length := by simp
    refine ⟨g', cap', W', hr, ⟨by rw [e1, e2]; exact hown.1, .inr ⟨g', cap', cur, by rw [e2], h4, h5, by rw [e2]; exact h6, h7, h8, by rw [e1, e2]; exact h9⟩⟩, hgr, ?_⟩
    rcases hat with h | h
    · exact .inl (h.symm.trans rfl)
    · exact .inr (by simpa [Value.ownBlock] using h)
end
/-- an append whose run is known, as a step of a region that draws -/
theorem step_append_run {P : Program} {ops : Array Oper} {o : Oper} {a : Act} {w : World} {K : Act → World → Prop} {Q : Exit → Act → World → Prop} {E : Prop} (hgd : o.guard = none) (s x : Operand) (t : TypeId)
    (ho : o.op = .call { callee := .builtin .append, args := #[s, x], argTypes := #[t, t] }) (v xv v' : Value) (w0 w' : World) (hw0 : w = w0) (hs : a.eval s = v) (hx : a.eval x = xv)
    (hr : (Builtin.append_ #[t, t] o.type #[v, xv]).run P w0 = .ok v' w') (h : K (a.put o.dst v') w') : if Region.wanted o (yielded ops a.tmps) = true then Oper.wp P o a w K Q else E := by
  have hw : Region.wanted o (yielded ops a.tmps) = true := by simp [Region.wanted, hgd]
  rw [if_pos hw]
  subst hw0
  unfold Oper.wp execOp
  simp only [ho, resolve, invoke, builtin, Sem.run_bind, Sem.run_pure, Result.andThen_ok, List.map_toArray, List.map_cons, List.map_nil, hs, hx, hr]
  exact h
/-- an address as a cell -/
def acl (z : Int) : List Value := [.int .u32 z]
theorem elemA : Elem Try.prog 53 23 acl 1 4 := ⟨by kernel_rfl, elem_info (z := .int .u32 0) (by kernel_rfl) rfl, by omega, fun _ => rfl, fun x v hv => by simp only [acl, List.mem_cons, List.not_mem_nil, or_false] at hv; subst hv; rfl, by omega⟩
abbrev Oa := Ol 23 acl 1

set_option maxRecDepth 100000 in
set_option maxHeartbeats 2000000 in
/-- both addresses of the one prefix into a list in a box -/
theorem add_any {W : World} {A n cc : Nat} {p0 : Option Addr} {xs : List Int} (hbx : Blk 53 W A #[.slice p0 n cc]) (hO : Oa (A + 1) (.slice p0 n cc) xs W) (hn : xs.length = n) (hl : n ≤ 100) :
    Calls Try.prog 23 #[.agg #[.int .u32 167772160, .int .i64 8], .pointer (some ⟨A, 0, none⟩)] W fun e W' => e = .returned (.tuple #[]) ∧ ∃ g' cap', Blk 53 W' A #[.slice (some ⟨g', 0, none⟩) (n + 2) cap'] ∧ Oa (A + 1) (.slice (some ⟨g', 0, none⟩) (n + 2) cap') (xs ++ [167772160, 184549375]) W' ∧ Below A W W' := by
  have hA := hbx.lt
  have HB := Lib.hid (And.intro hbx (And.intro hO (And.intro hn hl)))
  clear hbx hO hn hl
  go_enter Try.func23, Try.ntmps23
  have bq := Blk.new W 34 #[.int .u32 167772160, .int .i64 8]
  have hq := size_new W (.cells #[.int .u32 167772160, .int .i64 8] 34)
  have hbn := below_new W (.cells #[.int .u32 167772160, .int .i64 8] 34)
  have b0 := bq.at_ 0
  have b1 := bq.at_ 1
  go_upto_region 1 with fail
  have HR := right_eq (a := 167772160) (len := 8) (by omega) (r := true) (by decide +kernel) (W.alloc (.cells #[.int .u32 167772160, .int .i64 8] 34))
  generalize W.alloc (.cells #[.int .u32 167772160, .int .i64 8] 34) = w1 at *
  go_upto_region 2 with (go_at_call 24; refine HR.mono ?_; rintro e w2 ⟨rfl, hb2⟩)
  have hbx := HB.out.1.held (hbn.trans (hb2.mono hbn.size))
  have hO := HB.out.2.1.held (hbn.trans (hb2.mono hbn.size))
  have bq2 := bq.held hb2
  have hs2 : W.heap.size < w2.heap.size := by have := hb2.size; omega
  have k0 : w2.drew.cell? ⟨A, 0, none⟩ = some (.slice p0 n cc) := hbx.at_ 0
  have k1 : w2.drew.cell? ⟨W.heap.size, 0, none⟩ = some (.int .u32 167772160) := bq2.at_ 0
  have k2 : w2.drew.cell? ⟨W.heap.size, 1, none⟩ = some (.int .i64 8) := bq2.at_ 1
  have Y := Lib.hid (And.intro (show Blk 53 w2.drew A _ from hbx) (And.intro (hO.drew) (And.intro ((hbn.trans (hb2.mono hbn.size)).drew) (And.intro (show W.heap.size < w2.drew.heap.size from hs2) (show ∀ b, (Value.slice p0 n cc).ownBlock = some b → A + 1 ≤ b ∧ b < W.heap.size from fun b hb => ⟨(HB.out.2.1.lt hb).2, (HB.out.2.1.lt hb).1⟩)))))
  clear hbx hO bq2 hs2 bq b0 b1 hq hbn hb2 HR
  generalize W.heap.size = bk at *
  refine wp_region_held_drew (S := fun u => u.cell? ⟨bk, 0, none⟩ = some (.int .u32 167772160) ∧ u.cell? ⟨bk, 1, none⟩ = some (.int .i64 8)) (by kernel_rfl) ⟨k1, k2⟩ (fun hHeld => ?_)
  generalize w2.drew = w3 at *
  refine take_list (i := 1) (v := .pointer (some ⟨bk, 0, none⟩)) rfl (by kernel_rfl) (by kernel_rfl) (by kernel_rfl) (fun _ _ _ h => h) (.inl ⟨rfl, ?_⟩) hHeld ?_
  · (intro w hSw; go_simp)
  go_frame
  refine take_list (i := 2) (v := .int .u32 167772160) rfl (by kernel_rfl) (by kernel_rfl) (by kernel_rfl) (fun _ _ _ h => h) (.inl ⟨rfl, ?_⟩) hHeld ?_
  · (intro w hSw; go_simp)
  go_frame
  refine take_list (i := 3) (v := .pointer (some ⟨bk, 0, none⟩)) rfl (by kernel_rfl) (by kernel_rfl) (by kernel_rfl) (fun _ _ _ h => h) (.inl ⟨rfl, ?_⟩) hHeld ?_
  · (intro w hSw; go_simp)
  go_frame
  refine take_list (i := 4) (v := .int .u32 167772160) rfl (by kernel_rfl) (by kernel_rfl) (by kernel_rfl) (fun _ _ _ h => h) (.inl ⟨rfl, ?_⟩) hHeld ?_
  · (intro w hSw; go_simp)
  go_frame
  refine take_list (i := 5) (v := .pointer (some ⟨bk, 1, none⟩)) rfl (by kernel_rfl) (by kernel_rfl) (by kernel_rfl) (fun _ _ _ h => h) (.inl ⟨rfl, ?_⟩) hHeld ?_
  · (intro w hSw; go_simp)
  go_frame
  refine take_list (i := 6) (v := .int .i64 8) rfl (by kernel_rfl) (by kernel_rfl) (by kernel_rfl) (fun _ _ _ h => h) (.inl ⟨rfl, ?_⟩) hHeld ?_
  · (intro w hSw; go_simp)
  go_frame
  refine take_list (i := 7) (v := .int .u32 16777215) rfl (by kernel_rfl) (by kernel_rfl) (by kernel_rfl) (fun _ _ _ h => h) (.inl ⟨rfl, ?_⟩) hHeld ?_
  · (intro w hSw; go_simp)
  go_frame
  have hor : bits .or .u32 167772160 16777215 = 184549375 := by kernel_rfl
  refine take_list (i := 8) (v := .int .u32 184549375) rfl (by kernel_rfl) (by kernel_rfl) (by kernel_rfl) (fun _ _ _ h => h) (.inl ⟨rfl, ?_⟩) hHeld ?_
  · (intro w hSw; go_simp; try exact hor)
  try go_frame
  have b4 := Blk.new w3 23 #[.int .u32 167772160, .int .u32 184549375]
  have hb4 := below_new w3 (.cells #[.int .u32 167772160, .int .u32 184549375] 23)
  have m0 := held hb4 k0
  have m1 := held hb4 k1
  have m2 := held hb4 k2
  obtain ⟨g', cap', w5, hrun, hO5, hg5, hat5⟩ := Ol.pushL elemA (Y.out.2.1.held hb4) (Nat.le_trans (show A + 1 ≤ w3.heap.size from by have := Y.out.2.2.2.1; omega) hb4.size) (ad := ⟨w3.heap.size, 0, none⟩) (c := 2) [167772160, 184549375] (by simp) (fun jj u hj => by
    rw [Addr.add_mid, Nat.zero_add, b4.at_ jj]
    simpa [acl] using hj) (by rw [HB.out.2.2.1]; have := HB.out.2.2.2; simp; omega) 53
  rw [HB.out.2.2.1] at hrun hO5
  have hrun2 : (Builtin.append_ #[53, 53] 53 #[.slice p0 n cc, .slice (some ⟨w3.heap.size, 0, none⟩) 2 2]).run Try.prog (w3.alloc (.cells #[.int .u32 167772160, .int .u32 184549375] 23)) = .ok (.slice (some ⟨g', 0, none⟩) (n + 2) cap') w5 := hrun
  clear hrun
  have hbx4 := Y.out.1.held hb4
  have hpA := Y.out.2.2.2.2
  have hgA : g' ≠ A := fun e => by
    have := (hO5.lt (b := g') rfl).2
    omega
  have hkeep : ∀ i, i < w3.heap.size → (Value.slice p0 n cc).ownBlock ≠ some i → w5.heap[i]? = w3.heap[i]? := fun i hi hne => (hg5.block i (Nat.lt_of_lt_of_le hi hb4.size) (fun e => hne e.symm)).trans (hb4.block i hi)
  have hbk := Y.out.2.2.2.1
  have hb5 : Below A w3 w5 := ⟨hg5.os.trans hb4.os, hg5.tape.trans hb4.tape, hg5.output.trans hb4.output, Nat.le_trans hb4.size hg5.size, fun i hi => hkeep i (by omega) (fun e => by have := hpA i e; omega)⟩
  have hbx5 : Blk 53 w5 A #[.slice p0 n cc] := (hkeep A (by omega) (fun e => by have := hpA A e; omega)).trans Y.out.1
  have q0 : w5.cell? ⟨A, 0, none⟩ = some (.slice p0 n cc) := hbx5.at_ 0
  have hq1 : w5.heap[bk]? = w3.heap[bk]? := hkeep bk hbk (fun e => by have := hpA bk e; omega)
  have q1 : w5.cell? ⟨bk, 0, none⟩ = some (.int .u32 167772160) := by rw [← k1]; unfold World.cell?; rw [hq1]
  have q2 : w5.cell? ⟨bk, 1, none⟩ = some (.int .i64 8) := by rw [← k2]; unfold World.cell?; rw [hq1]
  have Z := Lib.hid (And.intro hO5 (And.intro hb5 (And.intro hbx5 hgA)))
  clear hO5 hg5 hat5 hbx4 hgA hpA hkeep hbk hb5 hbx5 hq1 b4 hb4
  have hf5 : w5.frozen? ⟨A, 0, none⟩ = false := Z.out.2.2.1.free 0
  refine ready_two (i := 0) (i' := 9) rfl rfl (by kernel_rfl) (fun K hK => ?a1) (fun K hK => ?b1)
  case' a1 =>
    go_simp
    refine hK.out _ _ ⟨k1, k2⟩ (fun hHeld => ?_)
    clear hK K
    try go_frame
    refine ready_list (i := 9) rfl (by kernel_rfl) (fun K hK => ?_)
    go_simp
    refine hK.out _ _ ⟨m1, m2⟩ (fun hHeld => ?_)
    clear hK K
    try go_frame
  case' b1 =>
    go_simp
    refine hK.out _ _ ⟨m1, m2⟩ (fun hHeld => ?_)
    clear hK K
    try go_frame
    refine ready_list (i := 0) rfl (by kernel_rfl) (fun K hK => ?_)
    go_simp
    refine hK.out _ _ ⟨m1, m2⟩ (fun hHeld => ?_)
    clear hK K
    try go_frame
  all_goals
    refine ready_list (i := 10) rfl (by kernel_rfl) (fun K hK => ?_)
    refine step_append_run rfl _ _ _ rfl _ _ _ _ _ ?_ ?_ ?_ hrun2 ?_ <;> first | rfl | skip
    refine hK.out _ _ ⟨q1, q2⟩ (fun hHeld => ?_)
    clear hK K m0 m1 m2 hrun2
    try go_frame
    refine ready_list (i := 11) rfl (by kernel_rfl) (fun K hK => ?_)
    go_simp
    have hS6 := Z.out.2.2.1.store 0 (.slice (some ⟨g', 0, none⟩) (n + 2) cap')
    have hO6 : Oa (A + 1) (.slice (some ⟨g', 0, none⟩) (n + 2) cap') (xs ++ [167772160, 184549375]) (w5.setCell ⟨A, 0, none⟩ (.slice (some ⟨g', 0, none⟩) (n + 2) cap')) := Z.out.1.of_block (fun b hb => Below.heap_setCell _ _ _ _ (fun e => by cases hb; first | exact Z.out.2.2.2 e | exact Z.out.2.2.2 e.symm))
    refine hK.out _ _ ⟨?_, ?_⟩ (fun hHeld => ?_)
    rotate_right
    · clear hK K
      refine wpAnyH_done (by kernel_rfl) ?_ _
      try go_frame
      have hB6 : Below A w5 (w5.setCell ⟨A, 0, none⟩ (.slice (some ⟨g', 0, none⟩) (n + 2) cap')) := (Turn.setCell (L := [A]) w5 (by simp) _).below (fun i hi => by simp at hi; omega) (Nat.le_of_lt Z.out.2.2.1.lt)
      have hB7 := ((Y.out.2.2.1.mono (Nat.le_of_lt hA)).trans Z.out.2.1).trans hB6
      clear hB6
      go_wp2_with fail
      go_end0
      exact ⟨rfl, g', cap', hS6, hO6, hB7⟩
    · rw [World.cell?_setCell_far _ _ _ _ (by show A ≠ bk; omega)]; exact q1
    · rw [World.cell?_setCell_far _ _ _ _ (by show A ≠ bk; omega)]; exact q2
end Go.Proofs.Ytdeiolpcppibgaa
