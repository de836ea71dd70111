/-
  A loop over what an iterator yields, where the iterator is a loop itself; no round leaves it.
-/
import Derived.Test.YtncliolkdkofhaaIt
namespace Go.Proofs.Ytncliolkdkofhaa
open Go.RowKit
variable {P : Program} {α : Type}

/-- The iterator g, called in W at whatever loop, drives rounds that go on: all of some xs with S come. -/
def Drives (P : Program) (g : Nat) (lb : Array Value) (encs : α → Array Value) (N : Nat) (S : List α → Prop) (Kq : World → World → Prop) (W : World) : Prop :=
  ∀ (l : Nat) (J : List α → World → Prop), OwnFrom W.heap.size J →
    (∀ pre x W1, J pre W1 → W.heap.size ≤ W1.heap.size → pre.length < N → YieldAt Fence.wide 0 P l (encs x) W1 fun e W' => e = .returned (.bool true) ∧ KeepsFrom W.heap.size W1 W' ∧ J (pre ++ [x]) W' ∧ Kq W1 W') →
    J [] W → Calls P g (#[.func (.yield l) #[] #[]] ++ lb) W fun e W' => (∃ v, e = .returned v) ∧ ∃ xs, S xs ∧ J xs W'

/-- a block that is no cells, and is none that is turned -/
theorem grown_block {W W' : World} {row : Option Nat} {B b : Nat} {o : Obj} (hg : W.grownBy W' row) (hr : ∀ r, row = some r → B ≤ r ∧ ∃ o : Obj, W.heap[r]? = some o ∧ o.isCells = false) (hb : b < B) (h : W.heap[b]? = some o) : W'.heap[b]? = some o := by
  refine (hg.block b (Array.getElem?_eq_some_iff.1 h).1 fun e => ?_).trans h
  have := (hr b e.symm).1
  omega

theorem loop_all {n : Nat} {g : Operand} {ps : Array Tmp} {assign body : Code} {Q : Exit → Act → World → Prop} {a : Act} {w : World} {gf : Nat} {lb : Array Value}
    (hg : a.eval g = .func (.func gf) #[] lb) (eg : ∀ args w, (callFunc gf args).run P w = .ok (.enter gf args) w)
    {encs : α → Array Value} {N : Nat} {S : List α → Prop} {Kq : World → World → Prop} (hseq : ∀ W, Below w.heap.size w W → Drives P gf lb encs N S Kq W) (hps : ∀ x, (encs x).size = ps.size)
    (hKt : ∀ {A B C : World}, Kq A B → Kq B C → Kq A C) (hKb : ∀ (W : World) (l : Nat) (o o' : Obj), w.heap.size ≤ l → W.heap[l]? = some o → o.isCells = false → o.isWalk = false → Kq W (W.putObj l o'))
    (I : List α → World → Prop) (hI : OwnFrom w.heap.size I) (h0 : I [] w) (Ax : α → Act → World → Prop) (hAx : ∀ x a', OwnFrom w.heap.size (fun (_ : Unit) W => Ax x a' W))
    (hassign : ∀ (l : Nat) (pre : List α) (x : α) (W : World) (K : Act → World → Prop), I pre W → (∀ a' W', KeepsFrom w.heap.size W W' → Kq W W' → I pre W' → Ax x a' W' → K a' W') →
      assign.wpIn (Fence.wide.inRound l) 0 P (Exit.then K (fun _ _ _ => False)) { tmps := (ps.zip (encs x)).foldl (fun t (p, v) => t.setIfInBounds p v) a.tmps, defers := [] } W)
    (hbody : ∀ (l : Nat) (pre : List α) (x : α) (a' : Act) (W : World), I pre W → Ax x a' W → pre.length < N → body.wpIn (Fence.wide.inRound l) 0 P (fun e _ W' => e = .normal ∧ KeepsFrom w.heap.size W W' ∧ Kq W W' ∧ I (pre ++ [x]) W') a' W)
    (hdone : ∀ (D : Nat) (xs : List α) (W : World), w.heap.size ≤ D → S xs → I xs W → W.heap[D]? = some (.deferred (some [])) → Q .normal { a with defers := { target := .collected D, args := #[] } :: a.defers } W) :
    (Code.rangeFunc g ps assign body).wpIn Fence.wide n P Q a w := by
  refine wpIn_rangeFunc fun fn _ => ?_
  obtain ⟨R, hR⟩ : ∃ R : LoopState → Loop, R = fun st => { state := st, pending := none, fn := fn, tmps := a.tmps, params := ps, assign := assign, body := body, defers := w.heap.size } := ⟨_, rfl⟩
  obtain ⟨V, hV⟩ : ∃ V, V = (w.alloc (.deferred (some []))).alloc (.loop (R .ready)) := ⟨_, rfl⟩
  have hb : Below w.heap.size w V := by rw [hV]; exact next (below_new _ _) (below_new _ _)
  have hVs : V.heap.size = w.heap.size + 2 := by rw [hV, size_new, size_new]
  have hD : V.heap[w.heap.size]? = some (.deferred (some [])) := by
    rw [hV]
    exact ((below_new _ (.loop (R .ready))).block _ (by rw [size_new]; omega)).trans (World.alloc_heap_new w _)
  have hL : V.heap[w.heap.size + 1]? = some (.loop (R .ready)) := by
    have := World.alloc_heap_new (w.alloc (.deferred (some []))) (.loop (R .ready))
    rw [size_new] at this
    rw [hV]
    exact this
  have hI0 : I [] V := by rw [hV]; exact hI.alloc _ (hI.alloc _ h0)
  refine ⟨w.heap.size + 1, [{ target := .collected w.heap.size, args := #[] }], V, { target := .fn (.func gf) lb, args := #[.func (.yield (w.heap.size + 1)) #[] #[]] }, V, gf, #[.func (.yield (w.heap.size + 1)) #[] #[]] ++ lb, V, ?_, ?_, (fun _ _ => trivial), ?_, (fun h => by cases h), ?_⟩
  · rw [hV, hR]; exact run_enterLoop_outer _ _ _ _ _
  · simp only [resolve, hg]
    simp [go_sem]
  · simp [invoke, go_sem, eg]
  refine callsIn_any ((hseq V hb (w.heap.size + 1) (fun pre W => I pre W ∧ W.heap[w.heap.size + 1]? = some (.loop (R .ready)) ∧ W.heap[w.heap.size]? = some (.deferred (some []))) ?_ ?_ ⟨hI0, hL, hD⟩).mono ?_)
  · intro s X Y row hs hgr hr
    exact ⟨hI s X Y row hs.1 hgr (fun r e => ⟨by have := (hr r e).1; omega, (hr r e).2⟩), grown_block hgr hr (by omega) hs.2.1, grown_block hgr hr (by omega) hs.2.2⟩
  · rintro pre x W ⟨hi, hl, hd⟩ hsz hlen
    have hy := run_yield (P := P) (args := encs x) hl (by rw [hR]; exact hps x)
    rw [hR] at hy
    refine ⟨fn, _, assign, body, hy, roundIn_of_wpIn trivial (hassign _ pre x W _ hi ?_)⟩
    intro a' W2 hk2 hq2 hi2 hax2
    have hl2 := hk2.same _ _ (by omega) hl rfl
    have hd2 := hk2.same _ _ (by omega) hd rfl
    refine ⟨_, run_beginRound hl2 (by rw [hR]), ?_⟩
    obtain ⟨W3, hW3⟩ : ∃ W3, W3 = W2.putObj (w.heap.size + 1) (.loop { R .ready with state := .busy }) := ⟨_, rfl⟩
    have hl3 : W3.heap[w.heap.size + 1]? = some (.loop { R .ready with state := .busy }) := by rw [hW3]; exact World.putObj_heap_same (Array.getElem?_eq_some_iff.1 hl2).1
    have hd3 : W3.heap[w.heap.size]? = some (.deferred (some [])) := by rw [hW3]; exact (World.putObj_heap_other (by omega)).trans hd2
    have hi3 : I pre W3 := by rw [hW3]; exact hI.putObj _ hi2 (by omega) hl2 rfl
    have hax3 : Ax x a' W3 := by rw [hW3]; exact (hAx x a').putObj (s := ()) _ hax2 (by omega) hl2 rfl
    have hq3 : Kq W2 W3 := by rw [hW3]; exact hKb _ _ _ _ (by omega) hl2 rfl rfl
    have hk3 : KeepsFrom V.heap.size W2 W3 := by rw [hW3]; exact KeepsFrom.of_grownBy (grownBy_putObj' _ _ _) (fun j e => by cases e; omega)
    rw [← hW3]
    refine wpIn_mono (hbody _ pre x a' W3 hi3 hax3 hlen) ?_
    rintro e a4 W4 ⟨rfl, hk4, hq4, hi4⟩
    have hl4 := hk4.same _ _ (by omega) hl3 rfl
    have hd4 := hk4.same _ _ (by omega) hd3 rfl
    have hrun := run_endRound (P := P) none hl4
    obtain ⟨W5, hW5⟩ : ∃ W5, W5 = W4.putObj (w.heap.size + 1) (.loop (R .ready)) := ⟨_, rfl⟩
    have hrec : ({ R .ready with state := .busy } : Loop) = R .busy := by rw [hR]
    have hend : (Instr.endRound (w.heap.size + 1) none).run P W4 = .ok (.bool true) W5 := by
      rw [hW5]
      rw [hR] at hrun ⊢
      exact hrun
    refine ⟨_, _, hend, rfl, ?_, ⟨?_, ?_, ?_⟩, ?_⟩
    · have h5 : KeepsFrom V.heap.size W4 W5 := by rw [hW5]; exact KeepsFrom.of_grownBy (grownBy_putObj' _ _ _) (fun j e => by cases e; omega)
      exact (((KeepsFrom.mono hk2 (by omega)).trans hk3).trans (KeepsFrom.mono hk4 (by omega))).trans h5
    · rw [hW5]; exact hI.putObj _ hi4 (by omega) hl4 rfl
    · rw [hW5]; exact World.putObj_heap_same (Array.getElem?_eq_some_iff.1 hl4).1
    · rw [hW5]; exact (World.putObj_heap_other (by omega)).trans hd4
    · refine hKt (hKt (hKt hq2 hq3) hq4) ?_
      rw [hW5]
      exact hKb _ _ _ _ (by omega) hl4 rfl rfl
  · rintro e W ⟨⟨v, rfl⟩, xs, hS, hi, hl, hd⟩
    have hend := run_endLoop (P := P) hl (by rw [hR]; simp)
    refine ⟨_, _, hend, ?_⟩
    have hp : (R .ready).pending = none := by rw [hR]
    rw [hp]
    exact hdone _ xs _ (Nat.le_refl _) hS (hI.putObj _ hi (by omega) hl rfl) ((World.putObj_heap_other (by omega)).trans hd)
end Go.Proofs.Ytncliolkdkofhaa
