/-
  Iterators: what is collected off a map; what a function value answers, be it a function's or a loop's. No program's own text in sight.
  The keys of a map (addr.Prefix): the iterator; what it hands on is collected.
  AddrOrders: what Compare answers, and the plain facts behind the law.
  cmp.Compare at int.
  The orders of prefixes and keys, as a sort asks them: what a call leaves is draws and new blocks.
  A row of structs that a sort has turned. No program's own text in sight.
-/
import Derived.Test.YtpgcnjoodoabhaaGreatS01
import Derived.RangeFuncNested
import Derived.RangeFuncBound
import Derived.RangeFuncCalls
import Derived.RangeFuncLeaves
import Derived.RangeFuncBox
import Derived.Sort.KeysCollected
import Derived.Maps.AppendAt
import Derived.Shelf.RegionOpen
import Derived.OwnWalkIn
import Derived.TacticsInMore
import Derived.LoopNIn
import Derived.LoopIn
import Derived.Test.YtpgcnjoodoabhaaGreatS02
import Derived.Sort.Grow
import Derived.Shelf.SlSortCmp.WholeK
namespace Go.Proofs.YtpgcnjoodoabhaaGreat
open Go.RowKit Go.Maps

section
variable {P : Program} {k t e : TypeId} {α : Type} [DecidableEq α] {E : Ke P k α} {w w' : World} {b r n : Nat} {f : α → Option Value}

/-- a list of all keys, none of them twice, is as long as the map -/
theorem Mk.card (h : Mk E w b n f) {xs : List α} (hnd : xs.Nodup) (hm : ∀ k, k ∈ xs ↔ E.ok k ∧ (f k).isSome = true) : xs.length = n := by
  obtain ⟨D, hown, hn, S⟩ := h
  obtain ⟨es, hD, hpw, _⟩ := hown.entries E.law
  obtain ⟨es', hD', hko⟩ := hown.keysOf
  obtain rfl : es = es' := by rw [hD] at hD'; simpa using hD'
  subst hD
  have hn' : es.length = n := hn
  have hlit : ∀ p ∈ es, ∃ x, E.ok x ∧ p.1 = E.lit x := fun p hp => by
    obtain ⟨v, hv⟩ := hko p hp
    obtain ⟨x, hx, -, e⟩ := E.inv _ _ hv
    exact ⟨x, hx, e⟩
  have hP : (xs.map E.lit).Perm (es.map fun p => p.1) := by
    refine (List.perm_ext_iff_of_nodup ?_ ?_).2 fun l => ?_
    · refine List.pairwise_map.2 (hnd.imp_of_mem fun {a b} ha hb hne e => hne (E.inj a b ((hm a).1 ha).1 ((hm b).1 hb).1 e))
    · exact List.pairwise_map.2 hpw
    · rw [List.mem_map, List.mem_map]
      constructor
      · rintro ⟨x, hx, rfl⟩
        obtain ⟨h1, h2⟩ := (hm x).1 hx
        rw [← (S x h1).2, has_eq, List.any_eq_true] at h2
        obtain ⟨p, hp, hs⟩ := h2
        obtain ⟨y, hy, e⟩ := hlit p hp
        refine ⟨p, hp, ?_⟩
        rw [e] at hs ⊢
        rw [E.sameKey hy h1, decide_eq_true_eq] at hs
        rw [hs]
      · rintro ⟨p, hp, rfl⟩
        obtain ⟨y, hy, e⟩ := hlit p hp
        refine ⟨y, (hm y).2 ⟨hy, ?_⟩, e.symm⟩
        rw [← (S y hy).2, has_eq, List.any_eq_true]
        refine ⟨p, hp, ?_⟩
        rw [e, E.sameKey hy hy]
        simp
  have := hP.length_eq
  simpa [hn'] using this

/-- of the keys of f those that are no longer to come, none of them twice -/
def Came (E : Ke P k α) (f : α → Option Value) (left : α → Bool) (xs : List α) : Prop := xs.Nodup ∧ ∀ x, x ∈ xs ↔ E.ok x ∧ (f x).isSome = true ∧ left x = false
omit [DecidableEq α] in
theorem Came.start (E : Ke P k α) (f : α → Option Value) : Came E f (fun z => (f z).isSome) [] :=
  ⟨List.nodup_nil, fun x => ⟨fun h => by simp at h, fun h => by have h1 := h.2.1; have h2 : (f x).isSome = false := h.2.2; rw [h1] at h2; cases h2⟩⟩
theorem Came.step {left : α → Bool} {xs : List α} (h : Came E f left xs) {x : α} (hx : E.ok x) (hl : left x = true) {v : Value} (hf : f x = some v) : Came E f (fun z => left z && !decide (z = x)) (xs ++ [x]) := by
  have hnew : x ∉ xs := fun hm => by have := ((h.2 x).1 hm).2.2; rw [hl] at this; cases this
  refine ⟨List.nodup_append.2 ⟨h.1, by simp, fun a ha b hb => by simp at hb; subst hb; exact fun e => hnew (e ▸ ha)⟩, fun y => ?_⟩
  by_cases hy : y = x
  · subst hy; simp [hx, hf]
  · simp [h.2 y, hy]
omit [DecidableEq α] in
theorem Came.all {left : α → Bool} {xs : List α} (h : Came E f left xs) (hl : ∀ z, E.ok z → left z = false) : xs.Nodup ∧ ∀ x, x ∈ xs ↔ E.ok x ∧ (f x).isSome = true :=
  ⟨h.1, fun x => by rw [h.2 x]; exact ⟨fun h => ⟨h.1, h.2.1⟩, fun h => ⟨h.1, h.2, hl x h.1⟩⟩⟩

omit [DecidableEq α] in
theorem Rg.of_walks {left : α → Bool} {cnt : Nat} (h : Rg E w b r n f left cnt) (hk : KeepsWalks w w') : Rg E w' b r n f left cnt := by
  obtain ⟨D, m, L, h1, h2⟩ := h
  exact ⟨D, m, L, h1.of_walks hk, h2⟩
omit [DecidableEq α] in
theorem Rg.iter_walk {left : α → Bool} {cnt : Nat} (h : Rg E w b r n f left cnt) : ∃ o : Obj, w.heap[r]? = some o ∧ o.isWalk = true := by
  obtain ⟨D, m, L, h1, h2⟩ := h
  exact h1.iter_walk
end

/-! ### a function value: a function's, or a loop's -/
inductive Fv
  | fn (g : Nat) (lb : Array Value)
  | loop (l : Nat)
def Fv.val : Fv → Value
  | .fn g lb => .func (.func g) #[] lb
  | .loop l => .func (.yield l) #[] #[]
/-- what a call of it comes to -/
def Fv.At (P : Program) (fv : Fv) (args : Array Value) (W : World) (R : Ending → World → Prop) : Prop :=
  match fv with
  | .fn g lb => (∀ args w, (callFunc g args).run P w = .ok (.enter g args) w) ∧ Calls P g (args ++ lb) W R
  | .loop l => YieldAt Fence.wide 0 P l args W R
theorem Fv.At.mono {P : Program} {fv : Fv} {args : Array Value} {W : World} {R R' : Ending → World → Prop} (h : fv.At P args W R) (hr : ∀ e w, R e w → R' e w) : fv.At P args W R' := by
  cases fv with
  | fn g lb => exact ⟨h.1, h.2.mono hr⟩
  | loop l =>
    obtain ⟨fn, tmps, assign, body, h1, h2⟩ := h
    exact ⟨fn, tmps, assign, body, h1, h2.mono hr⟩
theorem roundIn_any {n m : Nat} {P : Program} {l f : Nat} {tmps : Array Value} {assign body : Code} {w : World} {R : Ending → World → Prop} (h : RoundIn Fence.wide n P l f tmps assign body w R) : RoundIn Fence.wide m P l f tmps assign body w R :=
  ⟨trivial, fun c cs _ => h.2 c cs (room_wide _)⟩
theorem roundIn_in {n m : Nat} {P : Program} {l l' f : Nat} {tmps : Array Value} {assign body : Code} {w : World} {R : Ending → World → Prop} (h : RoundIn Fence.wide n P l f tmps assign body w R) : RoundIn (Fence.wide.inRound l') m P l f tmps assign body w R :=
  roundIn_any (m := m) h
theorem yieldAt_any {n m : Nat} {P : Program} {l : Nat} {args : Array Value} {W : World} {R : Ending → World → Prop} (h : YieldAt Fence.wide n P l args W R) : YieldAt Fence.wide m P l args W R := by
  obtain ⟨fn, tmps, assign, body, h1, h2⟩ := h
  exact ⟨fn, tmps, assign, body, h1, roundIn_any h2⟩
theorem callsIn_any {n : Nat} {P : Program} {f : Nat} {args : Array Value} {w : World} {R : Ending → World → Prop} (h : Calls P f args w R) : CallsIn Fence.wide n P f args w R := callsIn_wide.2 h
theorem callsIn_round {n l : Nat} {P : Program} {f : Nat} {args : Array Value} {w : World} {R : Ending → World → Prop} (h : Calls P f args w R) : CallsIn (Fence.wide.inRound l) n P f args w R := callsIn_wide.2 h

/-- the blocks in L are as they were -/
def Keep (L : List Nat) (W W' : World) : Prop := ∀ b, b ∈ L → W'.heap[b]? = W.heap[b]?
theorem Keep.refl (L : List Nat) (W : World) : Keep L W W := fun _ _ => rfl
theorem Keep.trans {L : List Nat} {A B C : World} (h : Keep L A B) (k : Keep L B C) : Keep L A C := fun b hb => (k b hb).trans (h b hb)
theorem Keep.mono {L L' : List Nat} {A B : World} (h : Keep L A B) (hs : ∀ b, b ∈ L' → b ∈ L) : Keep L' A B := fun b hb => h b (hs b hb)
theorem Keep.of_below {L : List Nat} {W W' : World} (hL : ∀ b, b ∈ L → b < W.heap.size) (h : Below W.heap.size W W') : Keep L W W' := fun b hb => h.block b (hL b hb)
theorem Keep.of_turn {L T : List Nat} {W W' : World} (hL : ∀ b, b ∈ L → b < W.heap.size) (h : Turn T W W') (hT : ∀ b, b ∈ L → b ∉ T) : Keep L W W' := fun b hb => h.block b (hL b hb) (hT b hb)
theorem keep_put {L : List Nat} {w : World} (hL : ∀ b, b ∈ L → b < w.heap.size) (W : World) (l : Nat) (o o' : Obj) (hl : w.heap.size ≤ l) (_ : W.heap[l]? = some o) (_ : o.isCells = false) (_ : o.isWalk = false) : Keep L W (W.putObj l o') :=
  fun b hb => World.putObj_heap_other (by have := hL b hb; omega)

/-- whatever is no cells and lies at or beyond B is as it was, where but cells are turned -/
theorem keepsFrom_below {W W' : World} (B : Nat) (h : Below W.heap.size W W') : KeepsFrom B W W' := ⟨h.size, fun k _ _ hk _ => (h.block k (Array.getElem?_eq_some_iff.1 hk).1).trans hk⟩
theorem KeepsFrom.mono {B B' : Nat} {W W' : World} (h : KeepsFrom B W W') (hB : B ≤ B') : KeepsFrom B' W W' := ⟨h.size, fun k o hk => h.same k o (by omega)⟩
theorem Blk.grown {t : TypeId} {W W' : World} {row : Option Nat} {b B : Nat} {C : Array Value} (h : Blk t W b C) (hg : W.grownBy W' row) (hr : ∀ r, row = some r → B ≤ r ∧ ∃ o : Obj, W.heap[r]? = some o ∧ o.isCells = false) : Blk t W' b C := by
  refine (hg.block b h.lt fun e => ?_).trans h
  obtain ⟨_, o, ho, hc⟩ := hr b e.symm
  unfold Blk at h
  rw [h] at ho
  cases ho
  cases hc
theorem new_at (w : World) (C : Array Value) (t : TypeId) (j : Nat) : (w.alloc (.cells C t)).cell? ((⟨w.heap.size, 0, none⟩ : Addr).add j) = C[j]? := by
  rw [show ((⟨w.heap.size, 0, none⟩ : Addr).add j) = ⟨w.heap.size, j, none⟩ from by unfold Addr.add; simp; omega]
  exact new_cell _ _ _ _
/-- .. and the heap has not shrunk -/
def KeepS (L : List Nat) (A B : World) : Prop := Keep L A B ∧ A.heap.size ≤ B.heap.size
theorem KeepS.trans {L : List Nat} {A B C : World} (h : KeepS L A B) (k : KeepS L B C) : KeepS L A C := ⟨h.1.trans k.1, Nat.le_trans h.2 k.2⟩
theorem keepS_put {L : List Nat} {w : World} (hL : ∀ b, b ∈ L → b < w.heap.size) (W : World) (l : Nat) (o o' : Obj) (hl : w.heap.size ≤ l) (h : W.heap[l]? = some o) (h1 : o.isCells = false) (h2 : o.isWalk = false) : KeepS L W (W.putObj l o') :=
  ⟨keep_put hL W l o o' hl h h1 h2, by simp⟩
theorem KeepS.of_below {L : List Nat} {W W' : World} (hL : ∀ b, b ∈ L → b < W.heap.size) (h : Below W.heap.size W W') : KeepS L W W' := ⟨.of_below hL h, h.size⟩
theorem OwnFrom.up {β : Type} {B B' : Nat} {I : β → World → Prop} (h : OwnFrom B I) (hB : B ≤ B') : OwnFrom B' I := fun s W W' row hs hg hr => h s W W' row hs hg fun r e => ⟨Nat.le_trans hB (hr r e).1, (hr r e).2⟩
theorem OwnFrom.abides {β : Type} {B : Nat} {I : β → World → Prop} (h : OwnFrom B I) : AbidesFrom B I := fun s W W' row hs hg hr => h s W W' row hs hg fun r e => ⟨(hr r e).1, by obtain ⟨_, o, ho, hw⟩ := hr r e; exact ⟨o, ho, Obj.not_cells_of_walk hw⟩⟩
end Go.Proofs.YtpgcnjoodoabhaaGreat

namespace Go.Proofs.YtpgcnjoodoabhaaGreat
open Go.RowKit Go.Maps
attribute [local go_sem] Oper.semAt_some

theorem enter_keysP : ∀ args w, (callFunc 99 args).run Tryz.prog w = .ok (.enter 99 args) w := enters_of Tryz.func99 (by kernel_rfl) rfl

set_option maxRecDepth 100000 in
set_option maxHeartbeats 1000000 in
theorem keysP_stops (m : Nat) (Bm b n : Nat) (f : Pk → Option Value) (w : World) (hm : w.cell? ⟨Bm, 0, none⟩ = some (.map (some b))) (hM : Mk pkE w b n f) :
    SeqStopsK Fence.wide m Tryz.prog 99 #[.pointer (some ⟨Bm, 0, none⟩)] (fun x : Pk => #[.agg #[.int .u32 x.a, .int .i64 x.n]]) KeepsWalks (fun xs => xs.Nodup ∧ ∀ x, x ∈ xs ↔ x.ok ∧ (f x).isSome = true) (fun _ => True) n w := fun l J Jx W hW hJ _ hY h0 => by
  have hm' := held hW hm
  have hM' := hM.held hW
  clear hm hM hW
  obtain ⟨w0, hr, hrg0, hg0, hs0⟩ := hM'.range (t := 68) (e := 117) (by kernel_rfl)
  have h00 := hJ [] W w0 none h0 hg0 (fun r e => by cases e)
  refine callsIn_of_wp Tryz.func99 rfl trivial ?_ rfl
  simp only [Tryz.ntmps99, List.size_toArray, List.length_cons, List.length_nil, Nat.reduceAdd, Nat.reduceSub, Array.replicate_succ, Array.replicate_zero, List.push_toArray, List.append_toArray, List.nil_append, List.cons_append]
  gi_wp2
  gi_loopw [6] (fun _ wr => ∃ (left : Pk → Bool) (cnt : Nat) (ss : List Pk), Rg pkE wr b W.heap.size n f left cnt ∧ ss.length + cnt ≤ n ∧ Came pkE f left ss ∧ J ss wr)
    (fun _ wr => wr.rangeLeft b W.heap.size)
  case atStart =>
    exact ⟨_, _, [], hrg0, by simp, Came.start _ _, h00⟩
  case round =>
    obtain ⟨left, cnt, ss, hrg, hcs, hC, hJs⟩ := hrel
    rcases hrg.next 0 with ⟨hc0, hl0, hrun⟩ | ⟨i, v, w2, cnt2, hi, hli, hfi, hrun, hrg2, hlt, hg2, hs2, hen⟩
    · gi_wp2
      go_end0
      exact ⟨⟨_, rfl⟩, .inl ⟨ss, hC.all hl0, hJs⟩⟩
    · obtain ⟨xa, xn⟩ := i
      have hJ2 : J ss w2 := hJ ss wr w2 (some W.heap.size) hJs hg2 (fun r e => by cases e; exact ⟨Nat.le_refl _, hrg.iter_walk⟩)
      have hJ3 : J ss (w2.alloc (.cells #[.int .u32 xa, .int .i64 xn] 36)) := hJ ss w2 _ none hJ2 (World.grownBy_alloc w2 _ none) (fun r e => by cases e)
      have hrg3 := hrg2.of_walks (KeepsWalks.alloc w2 (.cells #[.int .u32 xa, .int .i64 xn] 36))
      obtain ⟨fn, tmps, assign, body, hy, hR⟩ := hY ss ⟨xa, xn⟩ _ hJ3 (by omega)
      have hC2 := hC.step hi hli hfi
      replace hrun : (Instr.next (.pointer (some ⟨W.heap.size, 0, none⟩)) false 0).run Tryz.prog wr = .ok (.tuple #[.bool true, .agg #[.int .u32 xa, .int .i64 xn], v]) w2 := hrun
      replace hen : (Instr.entry (.pointer (some ⟨W.heap.size, 0, none⟩))).run Tryz.prog w2 = .ok (.tuple #[.agg #[.int .u32 xa, .int .i64 xn], v]) w2 := hen
      clear hs2
      gi_wp2
      refine ⟨fun h => (by cases h), hR.mono ?_⟩
      rintro e W3 (⟨rfl, hJ4, hk3⟩ | ⟨rfl, hJx3⟩)
      · gi_wp2
        have hrg4 := hrg3.of_walks hk3
        go_roundw
        case rel => exact ⟨_, cnt2, ss ++ [⟨xa, xn⟩], hrg4, by simp; omega, hC2, hJ4⟩
        case measure => rw [hrg4.left_eq, hrg.left_eq]; exact hlt
      · gi_wp2
        refine bodyPost_ret (results_none rfl _ _ _) rfl ?_
        exact ⟨⟨_, rfl⟩, .inr ⟨ss ++ [⟨xa, xn⟩], trivial, hJx3⟩⟩

set_option maxRecDepth 100000 in
set_option maxHeartbeats 1000000 in
/-- of the nil map: none -/
theorem keysP_stops_nil (m : Nat) (Bm : Nat) (w : World) (hm : w.cell? ⟨Bm, 0, none⟩ = some (.map none)) :
    SeqStopsK Fence.wide m Tryz.prog 99 #[.pointer (some ⟨Bm, 0, none⟩)] (fun x : Pk => #[.agg #[.int .u32 x.a, .int .i64 x.n]]) KeepsWalks (fun xs => xs = []) (fun _ => True) 0 w := fun l J Jx W hW hJ _ hY h0 => by
  have hm' := held hW hm
  clear hm hW
  refine callsIn_of_wp Tryz.func99 rfl trivial ?_ rfl
  simp only [Tryz.ntmps99, List.size_toArray, List.length_cons, List.length_nil, Nat.reduceAdd, Nat.reduceSub, Array.replicate_succ, Array.replicate_zero, List.push_toArray, List.append_toArray, List.nil_append, List.cons_append]
  have hrg := run_range_nilMap (P := Tryz.prog) W 68 36 117 (by kernel_rfl)
  have hnx : ∀ ty, (Instr.next (.pointer (some ⟨W.heap.size, 0, none⟩)) false ty).run Tryz.prog (W.alloc (.mapIter none 0 #[] 0)) = _ := fun ty => run_next_nilMap _ ty 0 0 #[]
  gi_wp2
  refine wpIn_loop_rounds 1 ?_
  rw [roundsIn_succ]
  gi_wp2
  go_end0
  exact ⟨⟨_, rfl⟩, .inl ⟨[], rfl, hJ [] W _ none h0 (World.grownBy_alloc W _ none) (fun r e => by cases e)⟩⟩

theorem keysP_fn (o : Option Nat) (w : World) : Calls Tryz.prog 89 #[.map o] w fun e w' =>
    e = .returned (.func (.func 99) #[] #[.pointer (some ⟨w.heap.size, 0, none⟩)]) ∧ w' = w.alloc (.cells #[.map o] 68) := by
  go_enter Tryz.func89, Tryz.ntmps89
  go_wp2
  go_ret
  exact ⟨rfl, rfl⟩

/-! ### they are collected -/
def clP (x : Pk) : List Value := [.int .u32 x.a, .int .i64 x.n]
theorem infoP : (Tryz.prog.info? 36).map (fun i => (i.zero, i.size, i.bytes)) = some (some (.agg #[.int .u32 0, .int .i64 0]), 2, 16) := by kernel_rfl

/-- what is collected: a row of the call's own -/
def GotP (n₀ : Nat) (v : Value) (xs : List Pk) (W : World) : Prop := W.ownsRow n₀ 36 2 v xs.length (xs.flatMap clP) ∧ (v = .slice none 0 0 ↔ xs = [])

set_option maxRecDepth 100000 in
set_option maxHeartbeats 2000000 in
theorem appendSeqP {g : Nat} {lb : Array Value} (eg : ∀ args w, (callFunc g args).run Tryz.prog w = .ok (.enter g args) w) {S Sp : List Pk → Prop} {N : Nat} (hN : N ≤ 100000) {w : World}
    (hseq : SeqStopsK Fence.wide 8 Tryz.prog g lb (fun x : Pk => #[.agg #[.int .u32 x.a, .int .i64 x.n]]) KeepsWalks S Sp N w) :
    Calls Tryz.prog 105 #[.slice none 0 0, .func (.func g) #[] lb] w fun e w' => ∃ v xs, e = .returned v ∧ S xs ∧ GotP w.heap.size v xs w' ∧ Below w.heap.size w w' := by
  obtain ⟨i0, hi, hz0, hz1, hz2⟩ := info_parts infoP
  refine (callsIn_wide (n := 9)).1 ?_
  refine callsIn_of_wp_marks Tryz.func105 rfl trivial ?_ rfl
  simp only [Tryz.ntmps105, List.size_toArray, List.length_cons, List.length_nil, Nat.reduceAdd, Nat.reduceSub, Array.replicate_succ, Array.replicate_zero, List.push_toArray, List.append_toArray, List.nil_append, List.cons_append]
  gi_wp2
  refine wpIn_rangeFunc_ownH rfl (by omega) (gf := g) (lb := lb) rfl trivial eg hseq walksK_t walksK_b (below_new _ _) (fun _ => rfl)
    (fun pre W => (∃ v, Boxed W w.heap.size 134 v ∧ W.ownsRow w.heap.size 36 2 v pre.length (pre.flatMap clP) ∧ (v = .slice none 0 0 ↔ pre = [])) ∧ Below w.heap.size w W)
    (fun _ _ _ => False)
    (OwnFrom.and (Own.from (holdsRow_own w.heap.size w.heap.size 134 36 2 (fun pre => pre.length) (fun pre => pre.flatMap clP) (fun pre v => (v = .slice none 0 0 ↔ pre = []))) _) (ownFrom_below (Nat.le_refl _) (by simp)))
    (fun _ _ _ _ _ h _ _ => h) ?_
    (fun x a' W => ∃ Bx, Blk 36 W Bx #[.int .u32 x.a, .int .i64 x.n] ∧ a' = { tmps := #[.slice none 0 0, .func (.func g) #[] lb, .pointer (some ⟨w.heap.size, 0, none⟩), undef, .slice none 0 0, .pointer (some ⟨Bx, 0, none⟩), .func (.func g) #[] lb, .agg #[.int .u32 x.a, .int .i64 x.n], undef, undef, undef, undef, undef], defers := [] })
    ?_ ?assign ?body ?done ?stop
  · exact ⟨⟨_, Boxed.new _ _ _, World.ownsRow_nil _ _ _ _, by simp⟩, below_new _ _⟩
  · rintro x a' s W W' row ⟨Bx, hX, rfl⟩ hg hr
    exact ⟨Bx, hX.grown hg hr, rfl⟩
  case assign =>
    rintro l pre x W K ⟨⟨v, hv, hrow, hnil⟩, hB⟩ hK
    gi_wp2
    exact hK _ _ ((KeepsOthers.alloc _ _).from _) (KeepsWalks.alloc _ _) ⟨⟨v, hv.alloc _, hrow.alloc _, hnil⟩, hB.alloc hB.size _⟩ ⟨_, Blk.new _ _ _, rfl⟩
  case body =>
    rintro l pre ⟨xa, xn⟩ a' W hl hr ⟨⟨v, hv, hrow, hnil⟩, hB⟩ ⟨Bx, hX, rfl⟩ hlt
    have cB := hv.cell
    have x0 := hX.at_ 0
    have x1 := hX.at_ 1
    have hle := hB.size
    gi_wp2_with (first
      | (gi_at_builtin; refine wpListIn_append_own _ rfl _ _ 134 rfl w.heap.size 36 i0 (.agg #[.int .u32 0, .int .i64 0]) 2 16 Tryz.underlying134 hi hz0 hz1 hz2 rfl (by decide) _ _ _ rfl (hrow.alloc _) ⟨W.heap.size, 0, none⟩ 1 1 [.int .u32 xa, .int .i64 xn] rfl rfl (fun j u hj => (new_at _ _ _ j).trans (by simpa using hj)) (by simp [Value.oneCell']) (by unfold maxLen; omega) (by omega) (by simp; omega) ?_
         intro v' w1 hown' hgrow _
         obtain ⟨g', cap', rfl⟩ := ownsRow_succ hown'
         obtain ⟨hv1, hv2, hr2, hk2, hb2⟩ := hv.appended (by decide) hrow hB.size (Nat.le_refl _) hown' hgrow
         have hc1 := hv1.cell
         have hf1 := hv1.frozen)
      | gi_in)
    refine ⟨hk2.from _, hk2.walks, ⟨_, hv2, by simpa [clP] using hr2, by simp⟩, ?_⟩
    exact hB.trans hb2
  case done =>
    rintro D xs W hD hS ⟨⟨v, hv, hrow, hnil⟩, hB⟩ hK
    have cB := hv.cell
    have hD' : w.heap.size ≤ D := by simp at hD; omega
    gi_wp2
    refine ⟨by simp, .inl ⟨_, _, rfl, run_takeDeferred hK, ?_⟩⟩
    exact ⟨_, results_tmp rfl _ _ _, v, xs, rfl, hS, ⟨ownsRow_putObj hrow _ hK rfl, hnil⟩, hB.grown (grownBy_putObj' _ _ _) hB.size (fun k e => by cases e; exact hD')⟩
  case stop =>
    rintro D c pre W _ _ h _
    exact h.elim
end Go.Proofs.YtpgcnjoodoabhaaGreat

namespace Go.Proofs.YtpgcnjoodoabhaaGreat.Om

/-- the order of prefixes: addresses first, then lengths -/
def pcmp (a : Int) (n : Int) (b : Int) (m : Int) : Int := or2 (cmpI a b) (cmpI n m)
def less (a : Int) (n : Int) (b : Int) (m : Int) : Bool := decide (a < b ∨ a = b ∧ n < m)
theorem pcmp_lt {a n b m : Int} (h : a < b ∨ a = b ∧ n < m) : pcmp a n b m = -1 := by
  unfold pcmp or2
  rcases h with h | ⟨rfl, h⟩
  · rw [cmpI_lt h]; rfl
  · rw [cmpI_self, cmpI_lt h]; rfl
theorem pcmp_gt {a n b m : Int} (h : b < a ∨ b = a ∧ m < n) : pcmp a n b m = 1 := by
  unfold pcmp or2
  rcases h with h | ⟨rfl, h⟩
  · rw [cmpI_gt h]; rfl
  · rw [cmpI_self, cmpI_gt h]; rfl
theorem pcmp_self (a n : Int) : pcmp a n a n = 0 := by unfold pcmp or2; rw [cmpI_self, cmpI_self]; rfl
theorem less_yes {a n b m : Int} (h : a < b ∨ a = b ∧ n < m) : less a n b m = true := decide_eq_true h
theorem less_no {a n b m : Int} (h : ¬ (a < b ∨ a = b ∧ n < m)) : less a n b m = false := decide_eq_false h

open Am in
/-- a shorter prefix that has a longer one's address has its last address too -/
theorem has_last {p n q m : Nat} (hn : n ≤ m) (hm : m ≤ 32) (hr : right p n = true) (h : has p n q = true) (hz : q % 2 ^ (32 - m) = 0) : has p n (q ||| (4294967295 / 2 ^ m)) = true := by
  rw [has_in hr] at h ⊢
  rw [decide_eq_true_eq] at h ⊢
  rw [behind_eq m hm, ← h]
  have hp : 0 < 2 ^ (32 - m) := Nat.two_pow_pos _
  have hj : q ||| (2 ^ (32 - m) - 1) = q + (2 ^ (32 - m) - 1) := by
    have hq : q = 2 ^ (32 - m) * (q / 2 ^ (32 - m)) := by have := Nat.div_add_mod q (2 ^ (32 - m)); omega
    rw [hq, ← Nat.two_pow_add_eq_or_of_lt (by omega)]
  rw [hj, show 32 - n = (32 - m) + (m - n) from by omega, Nat.pow_add, ← Nat.div_div_eq_div_mul, ← Nat.div_div_eq_div_mul]
  congr 1
  generalize 2 ^ (32 - m) = k at *
  obtain ⟨t, rfl⟩ : ∃ t, q = k * t := ⟨q / k, by have := Nat.div_add_mod q k; omega⟩
  rw [Nat.mul_add_div hp, Nat.mul_div_cancel_left _ hp, Nat.div_eq_of_lt (show k - 1 < k by omega), Nat.add_zero]
open Am in
/-- a shorter prefix that has a longer one's address doesn't come behind it -/
theorem has_order {p n q m : Nat} (hn : n ≤ m) (hr : right p n = true) (hn2 : n ≤ 32) (h : has p n q = true) : p < q ∨ (p = q ∧ (n < m ∨ n = m)) := by
  rw [has_in hr, decide_eq_true_eq] at h
  rw [right_in hn2, decide_eq_true_eq] at hr
  have e1 := Nat.div_add_mod q (2 ^ (32 - n))
  have e2 := Nat.div_add_mod p (2 ^ (32 - n))
  rw [h] at e1
  omega
end Go.Proofs.YtpgcnjoodoabhaaGreat.Om

namespace Go.Proofs.YtpgcnjoodoabhaaGreat
open Go.RowKit

theorem nanInt (x : Int) (w : World) : Calls Tryz.prog 91 #[.int .i64 x] w fun e w' => e = .returned (.bool false) ∧ w = w' := by
  go_enter Tryz.func91, Tryz.ntmps91
  go_wp2
  go_ret
  exact ⟨by simp, rfl⟩
theorem cmpInt (x y : Int) (w : World) : Calls Tryz.prog 76 #[.int .i64 x, .int .i64 y] w fun e w' => e = .returned (.int .i64 (cmpI x y)) ∧ w = w' := by
  rcases Int.lt_trichotomy x y with h | h | h
  · have F := Lib.hid (cmpI_lt h)
    go_enter Tryz.func76, Tryz.ntmps76
    go_wp2_with (go_at_call 91; refine (nanInt _ _).mono ?_; rintro e w' ⟨rfl, rfl⟩)
    go_ret
    exact ⟨ret_int F.out.symm, rfl⟩
  · subst h
    have F := Lib.hid (cmpI_self x)
    go_enter Tryz.func76, Tryz.ntmps76
    go_wp2_with (go_at_call 91; refine (nanInt _ _).mono ?_; rintro e w' ⟨rfl, rfl⟩)
    go_ret
    exact ⟨ret_int F.out.symm, rfl⟩
  · have F := Lib.hid (cmpI_gt h)
    go_enter Tryz.func76, Tryz.ntmps76
    go_wp2_with (go_at_call 91; refine (nanInt _ _).mono ?_; rintro e w' ⟨rfl, rfl⟩)
    go_ret
    exact ⟨ret_int F.out.symm, rfl⟩
end Go.Proofs.YtpgcnjoodoabhaaGreat

namespace Go.Proofs.YtpgcnjoodoabhaaGreat
open Go.RowKit Go.Sort

/-- draws, and new blocks -/
def Gr (w w' : World) : Prop := ∃ q os, w' = grow (w.drewN q) os
theorem Gr.refl (w : World) : Gr w w := ⟨0, #[], by rw [grow_empty]; rfl⟩
theorem Gr.alloc {w w' : World} (h : Gr w w') (o : Obj) : Gr w (w'.alloc o) := by
  obtain ⟨q, os, rfl⟩ := h
  exact ⟨q, os ++ #[o], by rw [alloc_eq_grow, grow_grow]⟩
theorem Gr.drewN {w w' : World} (h : Gr w w') (n : Nat) : Gr w (w'.drewN n) := by
  obtain ⟨q, os, rfl⟩ := h
  exact ⟨q + n, os, by show grow ((w.drewN q).drewN n) os = _; rw [World.drewN_drewN]⟩
theorem Gr.drew {w w' : World} (h : Gr w w') : Gr w w'.drew := h.drewN 1
theorem Gr.trans {a b c : World} (h : Gr a b) (k : Gr b c) : Gr a c := by
  obtain ⟨q, os, rfl⟩ := k
  obtain ⟨q0, os0, rfl⟩ := h
  exact ⟨q0 + q, os0 ++ os, by show grow (grow ((a.drewN q0).drewN q) os0) os = _; rw [grow_grow, World.drewN_drewN]⟩
theorem Gr.below {w w' : World} (h : Gr w w') : Below w.heap.size w w' := by
  obtain ⟨q, os, rfl⟩ := h
  exact ⟨rfl, rfl, rfl, by show w.heap.size ≤ _; rw [size_grow]; exact Nat.le_add_right _ _, fun k hk => heap_grow_old (w.drewN q) os hk⟩
theorem Gr.cell {w w' : World} (h : Gr w w') {a : Addr} {v : Value} (hc : w.cell? a = some v) : w'.cell? a = some v := held h.below hc

def cfP (x y : Pk) : Int := Om.pcmp x.a x.n y.a y.n
def cfK (x y : Ky) : Int := or2 (Om.pcmp x.a x.n y.a y.n) (cmpI x.id y.id)

theorem two_gr (w : World) (t t' : TypeId) (C D : Array Value) : Gr w ((w.alloc (.cells C t)).alloc (.cells D t')) := ((Gr.refl w).alloc _).alloc _

set_option maxHeartbeats 400000 in
theorem cmpP_gr (a n b m : Int) (w : World) :
    Calls Tryz.prog 54 #[.agg #[.int .u32 a, .int .i64 n], .agg #[.int .u32 b, .int .i64 m]] w fun e w' => e = .returned (.int .i64 (Om.pcmp a n b m)) ∧ Gr w w' := by
  have D : Hid (or2 (cmpI a b) (cmpI n m) = Om.pcmp a n b m) := Lib.hid rfl
  go_enter Tryz.func54, Tryz.ntmps54
  go_wp2_with fail
  have A := (Blk.new w 36 #[.int .u32 a, .int .i64 n]).more (.cells #[.int .u32 b, .int .i64 m] 36)
  have B := Blk.new (w.alloc (.cells #[.int .u32 a, .int .i64 n] 36)) 36 #[.int .u32 b, .int .i64 m]
  rw [size_new] at B
  have a0 := A.at_ 0
  have a1 := A.at_ 1
  have b0 := B.at_ 0
  have b1 := B.at_ 1
  have HB := Lib.hid (two_gr w 36 36 #[.int .u32 a, .int .i64 n] #[.int .u32 b, .int .i64 m])
  clear A B
  generalize (w.alloc (.cells #[.int .u32 a, .int .i64 n] 36)).alloc (.cells #[.int .u32 b, .int .i64 m] 36) = w2 at *
  go_region_held3 (fun w' => w'.cell? ⟨w.heap.size, 0, none⟩ = some (.int .u32 a) ∧ w'.cell? ⟨w.heap.size, 1, none⟩ = some (.int .i64 n) ∧ w'.cell? ⟨w.heap.size + 1, 0, none⟩ = some (.int .u32 b) ∧ w'.cell? ⟨w.heap.size + 1, 1, none⟩ = some (.int .i64 m)) (go_keep)
    (first | (go_at_call 75; refine (cmp32 _ _ _).mono ?_; rintro e w' ⟨rfl, rfl⟩) | (go_at_call 76; refine (cmpInt _ _ _).mono ?_; rintro e w' ⟨rfl, rfl⟩) | (go_at_call 74; refine (or_two _ (cmpI a b) (cmpI n m) _ ?_ ?_).mono ?_; (· exact (new_cell _ _ _ _).trans rfl); (· exact (new_cell _ _ _ _).trans rfl); rintro e w' ⟨rfl, rfl⟩))
  go_wp2
  go_ret
  exact ⟨ret_int D.out, (HB.out.alloc _).drew⟩

set_option maxHeartbeats 400000 in
theorem cmpK_gr (a n : Int) (i : Int) (b m j : Int) (w : World) :
    Calls Tryz.prog 57 #[.agg #[.int .u32 a, .int .i64 n, .int .u32 i], .agg #[.int .u32 b, .int .i64 m, .int .u32 j]] w fun e w' => e = .returned (.int .i64 (or2 (Om.pcmp a n b m) (cmpI i j))) ∧ Gr w w' := by
  go_enter Tryz.func57, Tryz.ntmps57
  go_wp2_with fail
  have A := (Blk.new w 90 #[.int .u32 a, .int .i64 n, .int .u32 i]).more (.cells #[.int .u32 b, .int .i64 m, .int .u32 j] 90)
  have B := Blk.new (w.alloc (.cells #[.int .u32 a, .int .i64 n, .int .u32 i] 90)) 90 #[.int .u32 b, .int .i64 m, .int .u32 j]
  rw [size_new] at B
  have a0 := A.at_ 0
  have a1 := A.at_ 1
  have a2 := A.at_ 2
  have b0 := B.at_ 0
  have b1 := B.at_ 1
  have b2 := B.at_ 2
  have HB := Lib.hid (two_gr w 90 90 #[.int .u32 a, .int .i64 n, .int .u32 i] #[.int .u32 b, .int .i64 m, .int .u32 j])
  clear A B
  generalize (w.alloc (.cells #[.int .u32 a, .int .i64 n, .int .u32 i] 90)).alloc (.cells #[.int .u32 b, .int .i64 m, .int .u32 j] 90) = w2 at *
  obtain ⟨r, hr⟩ : ∃ r, r = Om.pcmp a n b m := ⟨_, rfl⟩
  have HP : Hid (∀ w, Calls Tryz.prog 54 #[.agg #[.int .u32 a, .int .i64 n], .agg #[.int .u32 b, .int .i64 m]] w fun e w' => e = .returned (.int .i64 r) ∧ Gr w w') := Lib.hid (hr ▸ cmpP_gr a n b m)
  have D : Hid (or2 r (cmpI i j) = or2 (Om.pcmp a n b m) (cmpI i j)) := Lib.hid (by rw [hr])
  clear hr
  go_region_held3 (fun w' => w'.cell? ⟨w.heap.size, 0, none⟩ = some (.int .u32 a) ∧ w'.cell? ⟨w.heap.size, 1, none⟩ = some (.int .i64 n) ∧ w'.cell? ⟨w.heap.size, 2, none⟩ = some (.int .u32 i) ∧ w'.cell? ⟨w.heap.size + 1, 0, none⟩ = some (.int .u32 b) ∧ w'.cell? ⟨w.heap.size + 1, 1, none⟩ = some (.int .i64 m) ∧ w'.cell? ⟨w.heap.size + 1, 2, none⟩ = some (.int .u32 j)) (go_keep)
    (first | (go_at_call 54; refine (HP.out _).mono ?_; rintro e w3 ⟨rfl, hg⟩; have z0 := hg.cell a0; have z1 := hg.cell a1; have z2 := hg.cell a2; have y0 := hg.cell b0; have y1 := hg.cell b1; have y2 := hg.cell b2; replace hg := Lib.hid hg) | (go_at_call 75; refine (cmp32 _ _ _).mono ?_; rintro e w' ⟨rfl, rfl⟩) | (go_at_call 74; refine (or_two _ r (cmpI i j) _ ?_ ?_).mono ?_; (· exact (new_cell _ _ _ _).trans rfl); (· exact (new_cell _ _ _ _).trans rfl); rintro e w' ⟨rfl, rfl⟩))
  all_goals
    go_wp2
    go_ret
    exact ⟨ret_int D.out, ((HB.out.drew.trans hg.out).alloc _)⟩

def ltP (x y : Pk) : Prop := x.a < y.a ∨ x.a = y.a ∧ x.n < y.n
def ltK (x y : Ky) : Prop := ltP ⟨x.a, x.n⟩ ⟨y.a, y.n⟩ ∨ (x.a = y.a ∧ x.n = y.n) ∧ x.id < y.id
theorem cfP_neg (x y : Pk) : ltOf cfP x y = true ↔ ltP x y := by
  unfold ltOf cfP Om.pcmp or2 cmpI ltP
  rw [decide_eq_true_eq]
  split <;> (try split) <;> (try split) <;> (try split) <;> omega
theorem cfK_neg (x y : Ky) : ltOf cfK x y = true ↔ ltK x y := by
  unfold ltOf cfK Om.pcmp or2 cmpI ltK ltP
  rw [decide_eq_true_eq]
  dsimp only
  split <;> (try split) <;> (try split) <;> (try split) <;> (try split) <;> (try split) <;> omega
theorem cfP_no (x y : Pk) : ltOf cfP x y = false ↔ ¬ ltP x y := by rw [← cfP_neg, Bool.not_eq_true]
theorem cfK_no (x y : Ky) : ltOf cfK x y = false ↔ ¬ ltK x y := by rw [← cfK_neg, Bool.not_eq_true]
theorem swoP : SWO (ltOf cfP) where
  irrefl x := by rw [cfP_no]; unfold ltP; omega
  trans x y z h1 h2 := by rw [cfP_neg] at *; unfold ltP at *; omega
  ntrans x y z h1 h2 := by rw [cfP_no] at *; unfold ltP at *; omega
theorem swoK : SWO (ltOf cfK) where
  irrefl x := by rw [cfK_no]; unfold ltK ltP; dsimp only; omega
  trans x y z h1 h2 := by rw [cfK_neg] at *; unfold ltK ltP at *; dsimp only at *; omega
  ntrans x y z h1 h2 := by rw [cfK_no] at *; unfold ltK ltP at *; dsimp only at *; omega
end Go.Proofs.YtpgcnjoodoabhaaGreat

namespace Go.Proofs.YtpgcnjoodoabhaaGreat
open Go.RowKit Go.Sort

section
variable {α : Type} [Inhabited α] {cl : α → List Value} {k : Nat}

theorem flat_get (hk : ∀ x, (cl x).length = k) : ∀ (xs : List α) (j : Nat), j < xs.length * k → (xs.flatMap cl)[j]? = (cl xs[j / k]!)[j % k]?
  | [], j, h => by simp at h
  | x :: r, j, h => by
    have hk0 : 0 < k := by
      rcases Nat.eq_zero_or_pos k with h0 | h0
      · subst h0; simp at h
      · exact h0
    rw [List.flatMap_cons]
    by_cases hj : j < k
    · rw [List.getElem?_append_left (by rw [hk]; exact hj), Nat.div_eq_of_lt hj, Nat.mod_eq_of_lt hj]
      rfl
    · have hj' : k ≤ j := Nat.le_of_not_lt hj
      have h' : j - k < r.length * k := by rw [List.length_cons, Nat.add_mul, Nat.one_mul] at h; omega
      rw [List.getElem?_append_right (by rw [hk]; exact hj'), hk, flat_get hk r (j - k) h']
      have e1 : j / k = (j - k) / k + 1 := by
        have : j = (j - k) + k := by omega
        conv => lhs; rw [this]
        exact Nat.add_div_right _ hk0
      have e2 : j % k = (j - k) % k := by
        have : j = (j - k) + k := by omega
        conv => lhs; rw [this]
        exact Nat.add_mod_right _ _
      rw [e1, e2]
      simp

/-- a slice of structs: its elements lie one behind the other -/
def Row (cl : α → List Value) (k : Nat) (w : World) (v : Value) (xs : List α) : Prop :=
  (v = .slice none 0 0 ∧ xs = []) ∨ ∃ g cap, v = .slice (some ⟨g, 0, none⟩) xs.length cap ∧ xs.length ≤ cap ∧ cap ≤ maxLen ∧ ∀ i (h : i < xs.length) j, j < k → w.cell? ⟨g, i * k + j, none⟩ = (cl xs[i])[j]?
omit [Inhabited α] in
theorem Row.slice {w : World} {v : Value} {xs : List α} (h : Row cl k w v xs) : ∃ p n c, v = .slice p n c := by
  rcases h with ⟨rfl, -⟩ | ⟨g, cap, rfl, -⟩
  · exact ⟨_, _, _, rfl⟩
  · exact ⟨_, _, _, rfl⟩

theorem bnd_at {i j n k : Nat} (hi : i < n) (hj : j < k) : i * k + j < n * k := by
  have := Nat.mul_le_mul_right k (show i + 1 ≤ n from hi)
  rw [Nat.add_mul, Nat.one_mul] at this
  omega
theorem getB {l : List Value} {j : Nat} (h : j < l.length) : l[j]? = some (l[j]!) := by rw [List.getElem?_eq_getElem h]; simp [h]
theorem Row.of_owns {w : World} {base : Nat} {e : TypeId} {v : Value} {xs : List α} (hk : ∀ x, (cl x).length = k) (h : w.ownsRow base e k v xs.length (xs.flatMap cl)) : Row cl k w v xs := by
  rcases h.2 with ⟨rfl, h0⟩ | ⟨g, cap, cur, rfl, -, hb, h1, h2, h3, h4⟩
  · exact .inl ⟨rfl, List.eq_nil_of_length_eq_zero h0⟩
  · refine .inr ⟨g, cap, rfl, h1, h2, fun i hi j hj => ?_⟩
    have hj2 : i * k + j < xs.length * k := bnd_at hi hj
    have e1 : (xs.flatMap cl)[i * k + j]? = (cl xs[i])[j]? := by
      have hk0 : 0 < k := by omega
      rw [flat_get hk xs _ hj2, show (i * k + j) / k = i from by rw [Nat.mul_comm, Nat.mul_add_div hk0, Nat.div_eq_of_lt hj]; rfl, show (i * k + j) % k = j from by rw [Nat.mul_comm, Nat.mul_add_mod, Nat.mod_eq_of_lt hj]]
      simp [hi]
    rw [← e1, ← h4]
    simp only [World.cell?, hb]
    rw [List.getElem?_take_of_lt (by exact hj2)]
    simp

theorem holdsK_of_owns {w : World} {g : Nat} {cur : Array Value} {e : TypeId} {xs : List α} (hk : ∀ x, (cl x).length = k) (hb : w.heap[g]? = some (.cells cur e (0, 0))) (h4 : cur.toList.take (xs.length * k) = xs.flatMap cl) : HoldsK cl k w g 0 xs.toArray := by
  intro j hj
  have hj : j < xs.length * k := by simpa using hj
  have e1 : (xs.flatMap cl)[j]? = some ((flatK cl k xs.toArray)[j]!) := by
    rw [get_flatK _ _ _ _ (by simpa using hj), flat_get hk xs j hj]
    have hk0 : 0 < k := by
      rcases Nat.eq_zero_or_pos k with h0 | h0
      · subst h0; simp at hj
      · exact h0
    have hl : j % k < (cl xs[j / k]!).length := by rw [hk]; exact Nat.mod_lt _ hk0
    rw [getB hl]
    simp
  refine ⟨?_, by simp [World.frozen?, hb]⟩
  show w.cell? ⟨g, 0 + j, none⟩ = some _
  rw [Nat.zero_add]
  show _ = some ((flatK cl k xs.toArray)[j]!)
  rw [← e1, ← h4, List.getElem?_take_of_lt hj]
  simp [World.cell?, hb]

theorem grownBy_sortK {w : World} {g n : Nat} {os : Array Obj} (d : Array α) : w.grownBy (sortWorldK cl k w g 0 n d os) (some g) := by
  unfold sortWorldK
  refine ⟨rfl, rfl, rfl, by rw [size_grow, size_putRowK]; exact Nat.le_add_right _ _, fun i hi hne => ?_⟩
  rw [heap_grow_old _ _ (by rw [size_putRowK]; exact hi)]
  show (Array.modify _ g _)[i]? = _
  rw [Array.getElem?_modify, if_neg (fun e => hne (by rw [e]))]
  rfl

theorem Row.of_holds {w : World} {g cap : Nat} {d : Array α} (hk : ∀ x, (cl x).length = k) (h : HoldsK cl k w g 0 d) (h1 : d.size ≤ cap) (h2 : cap ≤ maxLen) : Row cl k w (.slice (some ⟨g, 0, none⟩) d.size cap) d.toList := by
  refine .inr ⟨g, cap, by simp, by simpa using h1, h2, fun i hi j hj => ?_⟩
  have hi' : i < d.size := by simpa using hi
  have := (h.cell hi' hj).1
  rw [Nat.zero_add] at this
  have hl : j < (cl d[i]!).length := by rw [hk]; exact hj
  rw [this, show d.toList[i] = d[i]! from by simp [hi'], getB hl]
omit [Inhabited α] in
theorem Row.keep {w w' : World} {v : Value} {xs : List α} {L : List Nat} (h : Row cl k w v xs) (hK : Keep L w w') (hL : ∀ b, v.ownBlock = some b → b ∈ L) : Row cl k w' v xs := by
  rcases h with ⟨rfl, rfl⟩ | ⟨g, cap, rfl, h1, h2, h3⟩
  · exact .inl ⟨rfl, rfl⟩
  · exact .inr ⟨g, cap, rfl, h1, h2, fun i hi j hj => by rw [World.cell?_of_block (hK g (hL g rfl))]; exact h3 i hi j hj⟩

theorem sorted_pairs {lt : α → α → Bool} {d : Array α} (h : SortedIn lt 0 d.size d) : d.toList.Pairwise fun x y => lt y x = false := by
  rw [List.pairwise_iff_getElem]
  intro i j hi hj hij
  have := h i j (Nat.zero_le _) hij (by simpa using hj)
  simp only [Array.length_toList] at hi hj
  simpa [hi, hj] using this
theorem perm_lists {d d' : Array α} (h : PermIn 0 d.size d d') : d'.toList.Perm d.toList := by
  have h3 := h.2.2
  rw [← h.1] at h3
  have e : d'.extract 0 d'.size = d' := by simp
  rw [e, h.1] at h3
  simpa using h3
end

/-- the blocks of an iterator over a map in order -/
def itL (B1 B2 : Nat) (v : Value) (o : Option Nat) : List Nat := B1 :: B2 :: (v.ownBlock.toList ++ o.toList)
theorem mem_itL {B1 B2 : Nat} {v : Value} {o : Option Nat} {b : Nat} : b ∈ itL B1 B2 v o ↔ b = B1 ∨ b = B2 ∨ v.ownBlock = some b ∨ o = some b := by
  unfold itL
  simp [eq_comm]
end Go.Proofs.YtpgcnjoodoabhaaGreat

