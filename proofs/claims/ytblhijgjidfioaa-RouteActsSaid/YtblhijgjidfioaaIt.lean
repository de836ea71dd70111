/-
  Iterators: what is collected off a map; what a function value answers, be it a function's or a loop's. No program's own text in sight.
-/
import Derived.Test.YtblhijgjidfioaaTurn
import Derived.Test.YtblhijgjidfioaaMk
import Derived.RangeFuncNested
import Derived.RangeFuncBound
import Derived.RangeFuncCalls
import Derived.RangeFuncLeaves
import Derived.RangeFuncBox
import Derived.Sort.KeysCollected
import Derived.Maps.AppendAt
import Derived.Shelf.RegionOpen
import Derived.OwnWalkIn
import Derived.TacticsInMore
import Derived.LoopNIn
import Derived.LoopIn
namespace Go.Proofs.Ytblhijgjidfioaa
open Go.RowKit Go.Maps

section
variable {P : Program} {k t e : TypeId} {α : Type} [DecidableEq α] {E : Ke P k α} {w w' : World} {b r n : Nat} {f : α → Option Value}

/-- a list of all keys, none of them twice, is as long as the map -/
theorem Mk.card (h : Mk E w b n f) {xs : List α} (hnd : xs.Nodup) (hm : ∀ k, k ∈ xs ↔ E.ok k ∧ (f k).isSome = true) : xs.length = n := by
  obtain ⟨D, hown, hn, S⟩ := h
  obtain ⟨es, hD, hpw, _⟩ := hown.entries E.law
  obtain ⟨es', hD', hko⟩ := hown.keysOf
  obtain rfl : es = es' := by rw [hD] at hD'; simpa using hD'
  subst hD
  have hn' : es.length = n := hn
  have hlit : ∀ p ∈ es, ∃ x, E.ok x ∧ p.1 = E.lit x := fun p hp => by
    obtain ⟨v, hv⟩ := hko p hp
    obtain ⟨x, hx, -, e⟩ := E.inv _ _ hv
    exact ⟨x, hx, e⟩
  have hP : (xs.map E.lit).Perm (es.map fun p => p.1) := by
    refine (List.perm_ext_iff_of_nodup ?_ ?_).2 fun l => ?_
    · refine List.pairwise_map.2 (hnd.imp_of_mem fun {a b} ha hb hne e => hne (E.inj a b ((hm a).1 ha).1 ((hm b).1 hb).1 e))
    · exact List.pairwise_map.2 hpw
    · rw [List.mem_map, List.mem_map]
      constructor
      · rintro ⟨x, hx, rfl⟩
        obtain ⟨h1, h2⟩ := (hm x).1 hx
        rw [← (S x h1).2, has_eq, List.any_eq_true] at h2
        obtain ⟨p, hp, hs⟩ := h2
        obtain ⟨y, hy, e⟩ := hlit p hp
        refine ⟨p, hp, ?_⟩
        rw [e] at hs ⊢
        rw [E.sameKey hy h1, decide_eq_true_eq] at hs
        rw [hs]
      · rintro ⟨p, hp, rfl⟩
        obtain ⟨y, hy, e⟩ := hlit p hp
        refine ⟨y, (hm y).2 ⟨hy, ?_⟩, e.symm⟩
        rw [← (S y hy).2, has_eq, List.any_eq_true]
        refine ⟨p, hp, ?_⟩
        rw [e, E.sameKey hy hy]
        simp
  have := hP.length_eq
  simpa [hn'] using this

/-- of the keys of f those that are no longer to come, none of them twice -/
def Came (E : Ke P k α) (f : α → Option Value) (left : α → Bool) (xs : List α) : Prop := xs.Nodup ∧ ∀ x, x ∈ xs ↔ E.ok x ∧ (f x).isSome = true ∧ left x = false
omit [DecidableEq α] in
theorem Came.start (E : Ke P k α) (f : α → Option Value) : Came E f (fun z => (f z).isSome) [] :=
  ⟨List.nodup_nil, fun x => ⟨fun h => by simp at h, fun h => by have h1 := h.2.1; have h2 : (f x).isSome = false := h.2.2; rw [h1] at h2; cases h2⟩⟩
theorem Came.step {left : α → Bool} {xs : List α} (h : Came E f left xs) {x : α} (hx : E.ok x) (hl : left x = true) {v : Value} (hf : f x = some v) : Came E f (fun z => left z && !decide (z = x)) (xs ++ [x]) := by
  have hnew : x ∉ xs := fun hm => by have := ((h.2 x).1 hm).2.2; rw [hl] at this; cases this
  refine ⟨List.nodup_append.2 ⟨h.1, by simp, fun a ha b hb => by simp at hb; subst hb; exact fun e => hnew (e ▸ ha)⟩, fun y => ?_⟩
  by_cases hy : y = x
  · subst hy; simp [hx, hf]
  · simp [h.2 y, hy]
omit [DecidableEq α] in
theorem Came.all {left : α → Bool} {xs : List α} (h : Came E f left xs) (hl : ∀ z, E.ok z → left z = false) : xs.Nodup ∧ ∀ x, x ∈ xs ↔ E.ok x ∧ (f x).isSome = true :=
  ⟨h.1, fun x => by rw [h.2 x]; exact ⟨fun h => ⟨h.1, h.2.1⟩, fun h => ⟨h.1, h.2, hl x h.1⟩⟩⟩

omit [DecidableEq α] in
theorem Rg.of_walks {left : α → Bool} {cnt : Nat} (h : Rg E w b r n f left cnt) (hk : KeepsWalks w w') : Rg E w' b r n f left cnt := by
  obtain ⟨D, m, L, h1, h2⟩ := h
  exact ⟨D, m, L, h1.of_walks hk, h2⟩
omit [DecidableEq α] in
theorem Rg.iter_walk {left : α → Bool} {cnt : Nat} (h : Rg E w b r n f left cnt) : ∃ o : Obj, w.heap[r]? = some o ∧ o.isWalk = true := by
  obtain ⟨D, m, L, h1, h2⟩ := h
  exact h1.iter_walk
end

/-! ### a function value: a function's, or a loop's -/
inductive Fv
  | fn (g : Nat) (lb : Array Value)
  | loop (l : Nat)
def Fv.val : Fv → Value
  | .fn g lb => .func (.func g) #[] lb
  | .loop l => .func (.yield l) #[] #[]
/-- what a call of it comes to -/
def Fv.At (P : Program) (fv : Fv) (args : Array Value) (W : World) (R : Ending → World → Prop) : Prop :=
  match fv with
  | .fn g lb => (∀ args w, (callFunc g args).run P w = .ok (.enter g args) w) ∧ Calls P g (args ++ lb) W R
  | .loop l => YieldAt Fence.wide 0 P l args W R
theorem Fv.At.mono {P : Program} {fv : Fv} {args : Array Value} {W : World} {R R' : Ending → World → Prop} (h : fv.At P args W R) (hr : ∀ e w, R e w → R' e w) : fv.At P args W R' := by
  cases fv with
  | fn g lb => exact ⟨h.1, h.2.mono hr⟩
  | loop l =>
    obtain ⟨fn, tmps, assign, body, h1, h2⟩ := h
    exact ⟨fn, tmps, assign, body, h1, h2.mono hr⟩
theorem roundIn_any {n m : Nat} {P : Program} {l f : Nat} {tmps : Array Value} {assign body : Code} {w : World} {R : Ending → World → Prop} (h : RoundIn Fence.wide n P l f tmps assign body w R) : RoundIn Fence.wide m P l f tmps assign body w R :=
  ⟨trivial, fun c cs _ => h.2 c cs (room_wide _)⟩
theorem roundIn_in {n m : Nat} {P : Program} {l l' f : Nat} {tmps : Array Value} {assign body : Code} {w : World} {R : Ending → World → Prop} (h : RoundIn Fence.wide n P l f tmps assign body w R) : RoundIn (Fence.wide.inRound l') m P l f tmps assign body w R :=
  roundIn_any (m := m) h
theorem yieldAt_any {n m : Nat} {P : Program} {l : Nat} {args : Array Value} {W : World} {R : Ending → World → Prop} (h : YieldAt Fence.wide n P l args W R) : YieldAt Fence.wide m P l args W R := by
  obtain ⟨fn, tmps, assign, body, h1, h2⟩ := h
  exact ⟨fn, tmps, assign, body, h1, roundIn_any h2⟩
theorem callsIn_any {n : Nat} {P : Program} {f : Nat} {args : Array Value} {w : World} {R : Ending → World → Prop} (h : Calls P f args w R) : CallsIn Fence.wide n P f args w R := callsIn_wide.2 h
theorem callsIn_round {n l : Nat} {P : Program} {f : Nat} {args : Array Value} {w : World} {R : Ending → World → Prop} (h : Calls P f args w R) : CallsIn (Fence.wide.inRound l) n P f args w R := callsIn_wide.2 h

/-- the blocks in L are as they were -/
def Keep (L : List Nat) (W W' : World) : Prop := ∀ b, b ∈ L → W'.heap[b]? = W.heap[b]?
theorem Keep.refl (L : List Nat) (W : World) : Keep L W W := fun _ _ => rfl
theorem Keep.trans {L : List Nat} {A B C : World} (h : Keep L A B) (k : Keep L B C) : Keep L A C := fun b hb => (k b hb).trans (h b hb)
theorem Keep.mono {L L' : List Nat} {A B : World} (h : Keep L A B) (hs : ∀ b, b ∈ L' → b ∈ L) : Keep L' A B := fun b hb => h b (hs b hb)
theorem Keep.of_below {L : List Nat} {W W' : World} (hL : ∀ b, b ∈ L → b < W.heap.size) (h : Below W.heap.size W W') : Keep L W W' := fun b hb => h.block b (hL b hb)
theorem Keep.of_turn {L T : List Nat} {W W' : World} (hL : ∀ b, b ∈ L → b < W.heap.size) (h : Turn T W W') (hT : ∀ b, b ∈ L → b ∉ T) : Keep L W W' := fun b hb => h.block b (hL b hb) (hT b hb)
theorem keep_put {L : List Nat} {w : World} (hL : ∀ b, b ∈ L → b < w.heap.size) (W : World) (l : Nat) (o o' : Obj) (hl : w.heap.size ≤ l) (_ : W.heap[l]? = some o) (_ : o.isCells = false) (_ : o.isWalk = false) : Keep L W (W.putObj l o') :=
  fun b hb => World.putObj_heap_other (by have := hL b hb; omega)

/-- whatever is no cells and lies at or beyond B is as it was, where but cells are turned -/
theorem keepsFrom_below {W W' : World} (B : Nat) (h : Below W.heap.size W W') : KeepsFrom B W W' := ⟨h.size, fun k _ _ hk _ => (h.block k (Array.getElem?_eq_some_iff.1 hk).1).trans hk⟩
theorem KeepsFrom.mono {B B' : Nat} {W W' : World} (h : KeepsFrom B W W') (hB : B ≤ B') : KeepsFrom B' W W' := ⟨h.size, fun k o hk => h.same k o (by omega)⟩
theorem Blk.grown {t : TypeId} {W W' : World} {row : Option Nat} {b B : Nat} {C : Array Value} (h : Blk t W b C) (hg : W.grownBy W' row) (hr : ∀ r, row = some r → B ≤ r ∧ ∃ o : Obj, W.heap[r]? = some o ∧ o.isCells = false) : Blk t W' b C := by
  refine (hg.block b h.lt fun e => ?_).trans h
  obtain ⟨_, o, ho, hc⟩ := hr b e.symm
  unfold Blk at h
  rw [h] at ho
  cases ho
  cases hc
theorem new_at (w : World) (C : Array Value) (t : TypeId) (j : Nat) : (w.alloc (.cells C t)).cell? ((⟨w.heap.size, 0, none⟩ : Addr).add j) = C[j]? := by
  rw [show ((⟨w.heap.size, 0, none⟩ : Addr).add j) = ⟨w.heap.size, j, none⟩ from by unfold Addr.add; simp; omega]
  exact new_cell _ _ _ _
/-- .. and the heap has not shrunk -/
def KeepS (L : List Nat) (A B : World) : Prop := Keep L A B ∧ A.heap.size ≤ B.heap.size
theorem KeepS.trans {L : List Nat} {A B C : World} (h : KeepS L A B) (k : KeepS L B C) : KeepS L A C := ⟨h.1.trans k.1, Nat.le_trans h.2 k.2⟩
theorem keepS_put {L : List Nat} {w : World} (hL : ∀ b, b ∈ L → b < w.heap.size) (W : World) (l : Nat) (o o' : Obj) (hl : w.heap.size ≤ l) (h : W.heap[l]? = some o) (h1 : o.isCells = false) (h2 : o.isWalk = false) : KeepS L W (W.putObj l o') :=
  ⟨keep_put hL W l o o' hl h h1 h2, by simp⟩
theorem KeepS.of_below {L : List Nat} {W W' : World} (hL : ∀ b, b ∈ L → b < W.heap.size) (h : Below W.heap.size W W') : KeepS L W W' := ⟨.of_below hL h, h.size⟩
theorem OwnFrom.up {β : Type} {B B' : Nat} {I : β → World → Prop} (h : OwnFrom B I) (hB : B ≤ B') : OwnFrom B' I := fun s W W' row hs hg hr => h s W W' row hs hg fun r e => ⟨Nat.le_trans hB (hr r e).1, (hr r e).2⟩
theorem OwnFrom.abides {β : Type} {B : Nat} {I : β → World → Prop} (h : OwnFrom B I) : AbidesFrom B I := fun s W W' row hs hg hr => h s W W' row hs hg fun r e => ⟨(hr r e).1, by obtain ⟨_, o, ho, hw⟩ := hr r e; exact ⟨o, ho, Obj.not_cells_of_walk hw⟩⟩
end Go.Proofs.Ytblhijgjidfioaa
