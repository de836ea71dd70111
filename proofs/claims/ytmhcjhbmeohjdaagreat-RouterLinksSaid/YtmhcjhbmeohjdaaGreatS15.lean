/-
  A loop over what an iterator yields, where the iterator is a loop itself; no round leaves it.
  What a router knows something of: subjects.
  Plain mathematics of a sort that keeps the order of equals: entries with their places; rotations; merging. No program in sight.
  A sort that keeps the order of equals, of subjects: what it moves, its comparison.
-/
import Derived.Test.YtmhcjhbmeohjdaaGreatS07
import Derived.Test.YtmhcjhbmeohjdaaGreatS01
import Derived.Test.YtmhcjhbmeohjdaaGreatS10
import Derived.Sort.LotA
import Derived.Shelf.SlSortCmp.Insertion
import Derived.Shelf.SlSortCmp.KitK
import Derived.Shelf.SlSortCmp.QuietGrown
namespace Go.Proofs.YtmhcjhbmeohjdaaGreat
open Go.RowKit
variable {P : Program} {α : Type}

/-- The iterator g, called in W at whatever loop, drives rounds that go on: all of some xs with S come. -/
def Drives (P : Program) (g : Nat) (lb : Array Value) (encs : α → Array Value) (N : Nat) (S : List α → Prop) (Kq : World → World → Prop) (W : World) : Prop :=
  ∀ (l : Nat) (J : List α → World → Prop), OwnFrom W.heap.size J →
    (∀ pre x W1, J pre W1 → W.heap.size ≤ W1.heap.size → pre.length < N → YieldAt Fence.wide 0 P l (encs x) W1 fun e W' => e = .returned (.bool true) ∧ KeepsFrom W.heap.size W1 W' ∧ J (pre ++ [x]) W' ∧ Kq W1 W') →
    J [] W → Calls P g (#[.func (.yield l) #[] #[]] ++ lb) W fun e W' => (∃ v, e = .returned v) ∧ ∃ xs, S xs ∧ J xs W'

/-- a block that is no cells, and is none that is turned -/
theorem grown_block {W W' : World} {row : Option Nat} {B b : Nat} {o : Obj} (hg : W.grownBy W' row) (hr : ∀ r, row = some r → B ≤ r ∧ ∃ o : Obj, W.heap[r]? = some o ∧ o.isCells = false) (hb : b < B) (h : W.heap[b]? = some o) : W'.heap[b]? = some o := by
  refine (hg.block b (Array.getElem?_eq_some_iff.1 h).1 fun e => ?_).trans h
  have := (hr b e.symm).1
  omega

theorem loop_all {n : Nat} {g : Operand} {ps : Array Tmp} {assign body : Code} {Q : Exit → Act → World → Prop} {a : Act} {w : World} {gf : Nat} {lb : Array Value}
    (hg : a.eval g = .func (.func gf) #[] lb) (eg : ∀ args w, (callFunc gf args).run P w = .ok (.enter gf args) w)
    {encs : α → Array Value} {N : Nat} {S : List α → Prop} {Kq : World → World → Prop} (hseq : ∀ W, Below w.heap.size w W → Drives P gf lb encs N S Kq W) (hps : ∀ x, (encs x).size = ps.size)
    (hKt : ∀ {A B C : World}, Kq A B → Kq B C → Kq A C) (hKb : ∀ (W : World) (l : Nat) (o o' : Obj), w.heap.size ≤ l → W.heap[l]? = some o → o.isCells = false → o.isWalk = false → Kq W (W.putObj l o'))
    (I : List α → World → Prop) (hI : OwnFrom w.heap.size I) (h0 : I [] w) (Ax : α → Act → World → Prop) (hAx : ∀ x a', OwnFrom w.heap.size (fun (_ : Unit) W => Ax x a' W))
    (hassign : ∀ (l : Nat) (pre : List α) (x : α) (W : World) (K : Act → World → Prop), I pre W → (∀ a' W', KeepsFrom w.heap.size W W' → Kq W W' → I pre W' → Ax x a' W' → K a' W') →
      assign.wpIn (Fence.wide.inRound l) 0 P (Exit.then K (fun _ _ _ => False)) { tmps := (ps.zip (encs x)).foldl (fun t (p, v) => t.setIfInBounds p v) a.tmps, defers := [] } W)
    (hbody : ∀ (l : Nat) (pre : List α) (x : α) (a' : Act) (W : World), I pre W → Ax x a' W → pre.length < N → body.wpIn (Fence.wide.inRound l) 0 P (fun e _ W' => e = .normal ∧ KeepsFrom w.heap.size W W' ∧ Kq W W' ∧ I (pre ++ [x]) W') a' W)
    (hdone : ∀ (D : Nat) (xs : List α) (W : World), w.heap.size ≤ D → S xs → I xs W → W.heap[D]? = some (.deferred (some [])) → Q .normal { a with defers := { target := .collected D, args := #[] } :: a.defers } W) :
    (Code.rangeFunc g ps assign body).wpIn Fence.wide n P Q a w := by
  refine wpIn_rangeFunc fun fn _ => ?_
  obtain ⟨R, hR⟩ : ∃ R : LoopState → Loop, R = fun st => { state := st, pending := none, fn := fn, tmps := a.tmps, params := ps, assign := assign, body := body, defers := w.heap.size } := ⟨_, rfl⟩
  obtain ⟨V, hV⟩ : ∃ V, V = (w.alloc (.deferred (some []))).alloc (.loop (R .ready)) := ⟨_, rfl⟩
  have hb : Below w.heap.size w V := by rw [hV]; exact next (below_new _ _) (below_new _ _)
  have hVs : V.heap.size = w.heap.size + 2 := by rw [hV, size_new, size_new]
  have hD : V.heap[w.heap.size]? = some (.deferred (some [])) := by
    rw [hV]
    exact ((below_new _ (.loop (R .ready))).block _ (by rw [size_new]; omega)).trans (World.alloc_heap_new w _)
  have hL : V.heap[w.heap.size + 1]? = some (.loop (R .ready)) := by
    have := World.alloc_heap_new (w.alloc (.deferred (some []))) (.loop (R .ready))
    rw [size_new] at this
    rw [hV]
    exact this
  have hI0 : I [] V := by rw [hV]; exact hI.alloc _ (hI.alloc _ h0)
  refine ⟨w.heap.size + 1, [{ target := .collected w.heap.size, args := #[] }], V, { target := .fn (.func gf) lb, args := #[.func (.yield (w.heap.size + 1)) #[] #[]] }, V, gf, #[.func (.yield (w.heap.size + 1)) #[] #[]] ++ lb, V, ?_, ?_, (fun _ _ => trivial), ?_, (fun h => by cases h), ?_⟩
  · rw [hV, hR]; exact run_enterLoop_outer _ _ _ _ _
  · simp only [resolve, hg]
    simp [go_sem]
  · simp [invoke, go_sem, eg]
  refine callsIn_any ((hseq V hb (w.heap.size + 1) (fun pre W => I pre W ∧ W.heap[w.heap.size + 1]? = some (.loop (R .ready)) ∧ W.heap[w.heap.size]? = some (.deferred (some []))) ?_ ?_ ⟨hI0, hL, hD⟩).mono ?_)
  · intro s X Y row hs hgr hr
    exact ⟨hI s X Y row hs.1 hgr (fun r e => ⟨by have := (hr r e).1; omega, (hr r e).2⟩), grown_block hgr hr (by omega) hs.2.1, grown_block hgr hr (by omega) hs.2.2⟩
  · rintro pre x W ⟨hi, hl, hd⟩ hsz hlen
    have hy := run_yield (P := P) (args := encs x) hl (by rw [hR]; exact hps x)
    rw [hR] at hy
    refine ⟨fn, _, assign, body, hy, roundIn_of_wpIn trivial (hassign _ pre x W _ hi ?_)⟩
    intro a' W2 hk2 hq2 hi2 hax2
    have hl2 := hk2.same _ _ (by omega) hl rfl
    have hd2 := hk2.same _ _ (by omega) hd rfl
    refine ⟨_, run_beginRound hl2 (by rw [hR]), ?_⟩
    obtain ⟨W3, hW3⟩ : ∃ W3, W3 = W2.putObj (w.heap.size + 1) (.loop { R .ready with state := .busy }) := ⟨_, rfl⟩
    have hl3 : W3.heap[w.heap.size + 1]? = some (.loop { R .ready with state := .busy }) := by rw [hW3]; exact World.putObj_heap_same (Array.getElem?_eq_some_iff.1 hl2).1
    have hd3 : W3.heap[w.heap.size]? = some (.deferred (some [])) := by rw [hW3]; exact (World.putObj_heap_other (by omega)).trans hd2
    have hi3 : I pre W3 := by rw [hW3]; exact hI.putObj _ hi2 (by omega) hl2 rfl
    have hax3 : Ax x a' W3 := by rw [hW3]; exact (hAx x a').putObj (s := ()) _ hax2 (by omega) hl2 rfl
    have hq3 : Kq W2 W3 := by rw [hW3]; exact hKb _ _ _ _ (by omega) hl2 rfl rfl
    have hk3 : KeepsFrom V.heap.size W2 W3 := by rw [hW3]; exact KeepsFrom.of_grownBy (grownBy_putObj' _ _ _) (fun j e => by cases e; omega)
    rw [← hW3]
    refine wpIn_mono (hbody _ pre x a' W3 hi3 hax3 hlen) ?_
    rintro e a4 W4 ⟨rfl, hk4, hq4, hi4⟩
    have hl4 := hk4.same _ _ (by omega) hl3 rfl
    have hd4 := hk4.same _ _ (by omega) hd3 rfl
    have hrun := run_endRound (P := P) none hl4
    obtain ⟨W5, hW5⟩ : ∃ W5, W5 = W4.putObj (w.heap.size + 1) (.loop (R .ready)) := ⟨_, rfl⟩
    have hrec : ({ R .ready with state := .busy } : Loop) = R .busy := by rw [hR]
    have hend : (Instr.endRound (w.heap.size + 1) none).run P W4 = .ok (.bool true) W5 := by
      rw [hW5]
      rw [hR] at hrun ⊢
      exact hrun
    refine ⟨_, _, hend, rfl, ?_, ⟨?_, ?_, ?_⟩, ?_⟩
    · have h5 : KeepsFrom V.heap.size W4 W5 := by rw [hW5]; exact KeepsFrom.of_grownBy (grownBy_putObj' _ _ _) (fun j e => by cases e; omega)
      exact (((KeepsFrom.mono hk2 (by omega)).trans hk3).trans (KeepsFrom.mono hk4 (by omega))).trans h5
    · rw [hW5]; exact hI.putObj _ hi4 (by omega) hl4 rfl
    · rw [hW5]; exact World.putObj_heap_same (Array.getElem?_eq_some_iff.1 hl4).1
    · rw [hW5]; exact (World.putObj_heap_other (by omega)).trans hd4
    · refine hKt (hKt (hKt hq2 hq3) hq4) ?_
      rw [hW5]
      exact hKb _ _ _ _ (by omega) hl4 rfl rfl
  · rintro e W ⟨⟨v, rfl⟩, xs, hS, hi, hl, hd⟩
    have hend := run_endLoop (P := P) hl (by rw [hR]; simp)
    refine ⟨_, _, hend, ?_⟩
    have hp : (R .ready).pending = none := by rw [hR]
    rw [hp]
    exact hdone _ xs _ (Nat.le_refl _) hS (hI.putObj _ hi (by omega) hl rfl) ((World.putObj_heap_other (by omega)).trans hd)
end Go.Proofs.YtmhcjhbmeohjdaaGreat

namespace Go.Proofs.YtmhcjhbmeohjdaaGreat
namespace Fm
/-- a prefix, and whether the router answers for it -/
structure En where
  a : Nat
  n : Int
  on : Bool
deriving DecidableEq
def En.zero : En := ⟨0, 0, false⟩
instance : Inhabited En := ⟨En.zero⟩
end Fm
open Fm
def ecl (e : En) : List Value := [.int .u32 e.a, .int .i64 e.n, .bool e.on]
theorem ecl_len (e : En) : (ecl e).length = 3 := rfl
end Go.Proofs.YtmhcjhbmeohjdaaGreat

namespace Go.Proofs.YtmhcjhbmeohjdaaGreat
namespace Sb
open Go.Sort Fm

/-- an entry, and where it stood -/
structure De where
  e : En
  i : Nat
instance : Inhabited De := ⟨⟨En.zero, 0⟩⟩
def cf (x y : De) : Int := Om.pcmp x.e.a x.e.n y.e.a y.e.n
/-- the order of the keys -/
def Kl (x y : De) : Prop := x.e.a < y.e.a ∨ x.e.a = y.e.a ∧ x.e.n < y.e.n
/-- .. and of the places, where the keys are the same -/
def Lx (x y : De) : Prop := x.e.a < y.e.a ∨ x.e.a = y.e.a ∧ (x.e.n < y.e.n ∨ x.e.n = y.e.n ∧ x.i < y.i)
instance (x y : De) : Decidable (Lx x y) := by unfold Lx; infer_instance
instance (x y : De) : Decidable (Kl x y) := by unfold Kl; infer_instance
theorem cf_lt (x y : De) : cf x y < 0 ↔ Kl x y := by
  unfold cf Om.pcmp or2 cmpI Kl
  split <;> (try split) <;> (try split) <;> (try split) <;> omega
theorem cf_dec (x y : De) : ltOf cf x y = decide (Kl x y) := by
  unfold ltOf
  exact decide_eq_decide.2 (cf_lt x y)
def lxB (x y : De) : Bool := decide (Lx x y)
theorem swoLx : SWO lxB where
  irrefl x := decide_eq_false (by unfold Lx; omega)
  trans x y z h1 h2 := by simp only [lxB, decide_eq_true_eq] at *; unfold Lx at *; omega
  ntrans x y z h1 h2 := by simp only [lxB, decide_eq_false_iff_not] at *; unfold Lx at *; omega
theorem lx_of_kl {x y : De} (h : Kl x y) : Lx x y := by unfold Kl at h; unfold Lx; omega
theorem lx_of_not {x y : De} (h : ¬ Kl y x) (hi : x.i < y.i) : Lx x y := by unfold Kl at h; unfold Lx; omega
theorem lx_trans {x y z : De} (h1 : Lx x y) (h2 : Lx y z) : Lx x z := by unfold Lx at *; omega
theorem lx_not_kl {x y : De} (h : Lx x y) : ¬ Kl y x := by unfold Lx at h; unfold Kl; omega

/-- in order from a on, ahead of b -/
def Srt (a b : Nat) (d : Array De) : Prop := ∀ i j, a ≤ i → i < j → j < b → Lx d[i]! d[j]!
def Aft (a m b : Nat) (d : Array De) : Prop := ∀ i j, a ≤ i → i < m → m ≤ j → j < b → d[i]!.i < d[j]!.i
structure Mer (a m b : Nat) (d : Array De) : Prop where
  l : Srt a m d
  r : Srt m b d
  aft : Aft a m b d
/-- d' is d with [a, m) and [m, b) exchanged -/
structure Rot (a m b : Nat) (d d' : Array De) : Prop where
  perm : PermIn a b d d'
  fst : ∀ i, a ≤ i → i < a + (b - m) → d'[i]! = d[i + (m - a)]!
  snd : ∀ i, a + (b - m) ≤ i → i < b → d'[i]! = d[i - (b - m)]!
theorem Rot.none {a m b : Nat} {d : Array De} (hm : a ≤ m) (hb : m ≤ b) (h : a = m ∨ m = b) : Rot a m b d d :=
  ⟨permIn_refl _ _ _, fun i h1 h2 => by congr 1; omega, fun i h1 h2 => by congr 1; omega⟩

theorem Srt.sub {a b a' b' : Nat} {d : Array De} (h : Srt a b d) (ha : a ≤ a') (hb : b' ≤ b) : Srt a' b' d := fun i j h1 h2 h3 => h i j (by omega) h2 (by omega)
theorem Srt.same {a b : Nat} {d d' : Array De} (h : Srt a b d) (he : ∀ i, a ≤ i → i < b → d'[i]! = d[i]!) : Srt a b d' := fun i j h1 h2 h3 => by rw [he i h1 (by omega), he j (by omega) h3]; exact h i j h1 h2 h3
theorem Srt.glue {a m b : Nat} {d : Array De} (h1 : Srt a m d) (h2 : Srt m b d) (h : ∀ i j, a ≤ i → i < m → m ≤ j → j < b → Lx d[i]! d[j]!) : Srt a b d := fun i j hi hij hj => by
  by_cases c1 : j < m
  · exact h1 i j hi hij c1
  · by_cases c2 : m ≤ i
    · exact h2 i j c2 hij hj
    · exact h i j hi (by omega) (by omega) hj
/-- the step of a merge -/
structure Step (a s m t b mid : Nat) (d d' : Array De) : Prop where
  perm : PermIn a b d d'
  l : Mer a s mid d'
  r : Mer mid t b d'
  lt : ∀ i j, a ≤ i → i < mid → mid ≤ j → j < b → Lx d'[i]! d'[j]!
theorem merge_step {a s m t b mid : Nat} {d d' : Array De} (h : Mer a m b d) (hR : Rot s m t d d') (h1 : a ≤ s) (h2 : s ≤ m) (h3 : m ≤ t) (h4 : t ≤ b) (hb : b ≤ d.size) (hmid : s + t = mid + m)
    (hu : s = a ∨ t = b ∨ ¬ Kl d[t]! d[s - 1]!) (hv : s = m ∨ t = m ∨ Kl d[t - 1]! d[s]!) : Step a s m t b mid d d' := by
  have out : ∀ i, i < s ∨ t ≤ i → d'[i]! = d[i]! := hR.perm.2.1
  have f1 : ∀ i, s ≤ i → i < mid → d'[i]! = d[i + (m - s)]! := fun i h5 h6 => hR.fst i h5 (by omega)
  have f2 : ∀ i, mid ≤ i → i < t → d'[i]! = d[i - (mid - s)]! := fun i h5 h6 => by rw [hR.snd i (by omega) h6]; congr 1; omega
  -- u ≤ v
  have uv : ∀ i j, a ≤ i → i < s → t ≤ j → j < b → Lx d[i]! d[j]! := fun i j h5 h6 h7 h8 => by
    have hu' : ¬ Kl d[t]! d[s - 1]! := by rcases hu with hu | hu | hu <;> first | exact hu | omega
    have k1 : Lx d[s - 1]! d[t]! := lx_of_not hu' (h.aft (s - 1) t (by omega) (by omega) (by omega) (by omega))
    have k2 : Lx d[i]! d[t]! := by
      by_cases e : i = s - 1
      · rw [e]; exact k1
      · exact lx_trans (h.l i (s - 1) h5 (by omega) (by omega)) k1
    by_cases e : j = t
    · rw [e]; exact k2
    · exact lx_trans k2 (h.r t j (by omega) (by omega) h8)
  -- v' < u'
  have vu : ∀ i j, m ≤ i → i < t → s ≤ j → j < m → Lx d[i]! d[j]! := fun i j h5 h6 h7 h8 => by
    have hv' : Kl d[t - 1]! d[s]! := by rcases hv with hv | hv | hv <;> first | exact hv | omega
    have k1 : Lx d[t - 1]! d[s]! := lx_of_kl hv'
    have k2 : Lx d[i]! d[s]! := by
      by_cases e : i = t - 1
      · rw [e]; exact k1
      · exact lx_trans (h.r i (t - 1) h5 (by omega) (by omega)) k1
    by_cases e : j = s
    · rw [e]; exact k2
    · exact lx_trans k2 (h.l s j (by omega) (by omega) h8)
  refine ⟨permIn_mono _ _ _ _ _ _ h1 h4 hb hR.perm, ⟨?_, ?_, ?_⟩, ⟨?_, ?_, ?_⟩, ?_⟩
  · exact (h.l.sub (Nat.le_refl _) h2).same fun i h5 h6 => out i (.inl h6)
  · intro i j h5 h6 h7
    rw [f1 i h5 (by omega), f1 j (by omega) h7]
    exact h.r _ _ (by omega) (by omega) (by omega)
  · intro i j h5 h6 h7 h8
    rw [out i (.inl h6), f1 j h7 h8]
    exact h.aft _ _ h5 (by omega) (by omega) (by omega)
  · intro i j h5 h6 h7
    rw [f2 i h5 (by omega), f2 j (by omega) h7]
    exact h.l _ _ (by omega) (by omega) (by omega)
  · exact (h.r.sub h3 (Nat.le_refl _)).same fun i h5 h6 => out i (.inr h5)
  · intro i j h5 h6 h7 h8
    rw [f2 i h5 h6, out j (.inr h7)]
    exact h.aft _ _ (by omega) (by omega) (by omega) h8
  · intro i j h5 h6 h7 h8
    by_cases c1 : i < s
    · rw [out i (.inl c1)]
      by_cases c2 : j < t
      · rw [f2 j h7 c2]
        exact h.l _ _ h5 (by omega) (by omega)
      · rw [out j (.inr (by omega))]
        exact uv i j h5 c1 (by omega) h8
    · rw [f1 i (by omega) h6]
      by_cases c2 : j < t
      · rw [f2 j h7 c2]
        exact vu _ _ (by omega) (by omega) (by omega) (by omega)
      · rw [out j (.inr (by omega))]
        exact h.r _ _ (by omega) (by omega) h8
/-- a permutation of either part keeps what is so of each -/
theorem lt_perm {a mid b : Nat} {d d1 d2 : Array De} (hm : mid ≤ d.size) (hb : b ≤ d.size) (h : ∀ i j, a ≤ i → i < mid → mid ≤ j → j < b → Lx d[i]! d[j]!) (p1 : PermIn a mid d d1) (p2 : PermIn mid b d1 d2) :
    ∀ i j, a ≤ i → i < mid → mid ≤ j → j < b → Lx d2[i]! d2[j]! := by
  have s1 : d1.size = d.size := p1.1
  have k1 : ∀ i, a ≤ i → i < mid → ∀ j, mid ≤ j → j < b → Lx d1[i]! d1[j]! := by
    intro i h1 h2 j h3 h4
    rw [p1.2.1 j (.inr h3)]
    exact permIn_all d d1 a mid (fun x => Lx x d[j]!) hm p1 (fun i h1 h2 => h i j h1 h2 h3 h4) i h1 h2
  intro i j h1 h2 h3 h4
  rw [p2.2.1 i (.inl h2)]
  exact permIn_all d1 d2 mid b (fun y => Lx d1[i]! y) (by omega) p2 (fun j h3 h4 => k1 i h1 h2 j h3 h4) j h3 h4
/-- two parts that are in order already -/
theorem Mer.done {a m b : Nat} {d : Array De} (h : Mer a m b d) (hk : a = m ∨ m = b ∨ ¬ Kl d[m]! d[m - 1]!) : Srt a b d := by
  refine h.l.glue h.r fun i j h1 h2 h3 h4 => ?_
  have hk' : ¬ Kl d[m]! d[m - 1]! := by rcases hk with hk | hk | hk <;> first | exact hk | omega
  have k1 : Lx d[m - 1]! d[m]! := lx_of_not hk' (h.aft _ _ (by omega) (by omega) (by omega) (by omega))
  have k2 : Lx d[i]! d[m]! := by
    by_cases e : i = m - 1
    · rw [e]; exact k1
    · exact lx_trans (h.l i (m - 1) h1 (by omega) (by omega)) k1
  by_cases e : j = m
  · rw [e]; exact k2
  · exact lx_trans k2 (h.r m j (Nat.le_refl _) (by omega) h4)

/-! ### insertion: what comes later is put behind its equals -/
theorem inner_keep (lt : De → De → Bool) (a : Nat) : ∀ (j : Nat) (d : Array De), j < d.size → (insInner lt a j d).size = d.size ∧ (∀ p, j < p → (insInner lt a j d)[p]! = d[p]!) ∧
    ∀ Q : De → Prop, (∀ p, a ≤ p → p ≤ j → Q d[p]!) → ∀ p, a ≤ p → p ≤ j → Q (insInner lt a j d)[p]!
  | 0, d, _ => ⟨rfl, fun _ _ => rfl, fun _ h => h⟩
  | j + 1, d, hj => by
    unfold insInner
    split
    · rename_i hc
      have hja : j + 1 > a := by simp only [Bool.and_eq_true, decide_eq_true_eq] at hc; exact hc.1
      obtain ⟨k1, k2, k3⟩ := inner_keep lt a j (swp d (j + 1) j) (by rw [size_swp]; omega)
      refine ⟨by rw [k1, size_swp], fun p hp => by rw [k2 p (by omega), swp_other d _ _ p (by omega) (by omega)], fun Q hQ p h1 h2 => ?_⟩
      by_cases e : p = j + 1
      · rw [e, k2 (j + 1) (by omega), swp_left d _ _ (by omega) (by omega)]
        exact hQ j (by omega) (by omega)
      · refine k3 Q (fun q h3 h4 => ?_) p h1 (by omega)
        by_cases e2 : q = j
        · rw [e2, swp_right d _ _ (by omega)]; exact hQ _ (by omega) (by omega)
        · rw [swp_other d _ _ q (by omega) (by omega)]; exact hQ q h3 (by omega)
    · exact ⟨rfl, fun _ _ => rfl, fun _ h => h⟩
theorem inner_lex (a : Nat) : ∀ (j : Nat) (d : Array De), j < d.size → (∀ p, a ≤ p → p < j → d[p]!.i < d[j]!.i) → insInner (ltOf cf) a j d = insInner lxB a j d
  | 0, _, _, _ => rfl
  | j + 1, d, hj, h => by
    unfold insInner
    by_cases hja : j + 1 > a
    · have hi := h j (by omega) (by omega)
      have e : ltOf cf d[j + 1]! d[j]! = lxB d[j + 1]! d[j]! := by
        rw [cf_dec]
        exact decide_eq_decide.2 ⟨lx_of_kl, fun hl => by unfold Lx at hl; unfold Kl; omega⟩
      rw [e]
      rw [inner_lex a j (swp d (j + 1) j) (by rw [size_swp]; omega) fun p h1 h2 => by
        rw [swp_right d _ _ (by omega), swp_other d _ _ p (by omega) (by omega)]
        exact h p h1 (by omega)]
    · simp [hja]
theorem outer_lex (a b : Nat) : ∀ (n i : Nat) (d : Array De), b - i = n → a < i → b ≤ d.size → (∀ p q, a ≤ p → p < q → i ≤ q → q < b → d[p]!.i < d[q]!.i) → insOuter (ltOf cf) a b i d = insOuter lxB a b i d := by
  intro n
  induction n with
  | zero =>
    intro i d hn hi hb h
    rw [insOuter.eq_1 (ltOf cf), insOuter.eq_1 lxB, if_neg (by omega), if_neg (by omega)]
  | succ n ih =>
    intro i d hn hi hb h
    rw [insOuter.eq_1 (ltOf cf), insOuter.eq_1 lxB]
    rw [if_pos (by omega), if_pos (by omega)]
    rw [inner_lex a i d (by omega) fun p h1 h2 => h p i h1 h2 (Nat.le_refl _) (by omega)]
    obtain ⟨k1, k2, k3⟩ := inner_keep lxB a i d (by omega)
    refine ih (i + 1) _ (by omega) (by omega) (by rw [k1]; exact hb) fun p q h1 h2 h3 h4 => ?_
    rw [k2 q (by omega)]
    by_cases c : p ≤ i
    · exact k3 (fun x => x.i < d[q]!.i) (fun p h1 h2 => h p q h1 (by omega) (by omega) h4) p h1 c
    · rw [k2 p (by omega)]
      exact h p q h1 h2 (by omega) h4
/-- places that are all different stay so -/
theorem perm_ne {d d' : Array De} {a b : Nat} (hb : b ≤ d.size) (hp : PermIn a b d d') (h : ∀ p q, a ≤ p → p < q → q < b → d[p]!.i ≠ d[q]!.i) : ∀ p q, a ≤ p → p < q → q < b → d'[p]!.i ≠ d'[q]!.i := by
  have hb' : b ≤ d'.size := by rw [hp.1]; exact hb
  have h1 : (d.extract a b).toList.Pairwise fun x y => x.i ≠ y.i := by
    rw [extract_toList d a b hb, List.pairwise_iff_getElem]
    intro i j hi hj hij
    simp only [List.length_map, List.length_range'] at hi hj
    simp only [List.getElem_map, List.getElem_range', Nat.one_mul]
    exact h _ _ (by omega) (by omega) (by omega)
  have h2 : (d'.extract a b).toList.Pairwise fun x y => x.i ≠ y.i := hp.2.2.symm.pairwise h1 (fun {x y} e => Ne.symm e)
  rw [extract_toList d' a b hb', List.pairwise_iff_getElem] at h2
  intro p q h3 h4 h5
  have k := h2 (p - a) (q - a) (by simp; omega) (by simp; omega) (by omega)
  simp only [List.getElem_map, List.getElem_range', Nat.one_mul] at k
  rw [show a + (p - a) = p by omega, show a + (q - a) = q by omega] at k
  exact k
theorem ins_done {d : Array De} {a b : Nat} (hab : a ≤ b) (hb : b ≤ d.size) (h : ∀ p q, a ≤ p → p < q → q < b → d[p]!.i < d[q]!.i) :
    PermIn a b d (Sort.insertionSort (ltOf cf) d a b) ∧ Srt a b (Sort.insertionSort (ltOf cf) d a b) := by
  have e : Sort.insertionSort (ltOf cf) d a b = Sort.insertionSort lxB d a b := outer_lex a b _ (a + 1) d rfl (by omega) hb fun p q h1 h2 _ h4 => h p q h1 h2 h4
  rw [e]
  have hp := insertionSort_holds (lt := lxB) swoLx d a b hab hb
  refine ⟨hp.1, fun i j h1 h2 h3 => ?_⟩
  have k := hp.2 i j h1 h2 h3
  have hne : (Sort.insertionSort lxB d a b)[i]!.i ≠ (Sort.insertionSort lxB d a b)[j]!.i := perm_ne hb hp.1 (fun p q h1 h2 h3 => by have := h p q h1 h2 h3; omega) i j h1 h2 h3
  simp only [lxB, decide_eq_false_iff_not] at k
  unfold Lx at *
  omega
end Sb
end Go.Proofs.YtmhcjhbmeohjdaaGreat

namespace Go.Proofs.YtmhcjhbmeohjdaaGreat
open Go.RowKit Go.Lib Go.Sort Fm Sb

def dcl (x : De) : List Value := ecl x.e
theorem dcl_len (x : De) : (dcl x).length = 3 := rfl
theorem dcl_one (x : De) : ∀ v ∈ dcl x, v.oneCell' = true := by
  intro v hv
  simp only [dcl, ecl, List.mem_cons, List.not_mem_nil, or_false] at hv
  rcases hv with rfl | rfl | rfl <;> rfl
abbrev SW := SWK dcl 3
theorem mixed_orders : Tryz.prog.follows .mixedOrders = true := by kernel_rfl
abbrev RW := RowK dcl 3
def FV : Value := .func (.func 69) #[] #[]

set_option maxHeartbeats 400000 in
theorem cmpE_gr (x y : De) (w : World) :
    Calls Tryz.prog 69 #[.agg (dcl x).toArray, .agg (dcl y).toArray] w fun e w' => e = .returned (.int .i64 (cf x y)) ∧ Gr w w' := by
  obtain ⟨⟨a, n, h⟩, i⟩ := x
  obtain ⟨⟨b, m, h'⟩, i'⟩ := y
  have A := (Blk.new w 104 #[.int .u32 a, .int .i64 n, .bool h]).more (.cells #[.int .u32 b, .int .i64 m, .bool h'] 104)
  have B := Blk.new (w.alloc (.cells #[.int .u32 a, .int .i64 n, .bool h] 104)) 104 #[.int .u32 b, .int .i64 m, .bool h']
  rw [size_new] at B
  have HB := Lib.hid (two_gr w 104 104 #[.int .u32 a, .int .i64 n, .bool h] #[.int .u32 b, .int .i64 m, .bool h'])
  show Calls Tryz.prog 69 #[.agg #[.int .u32 a, .int .i64 n, .bool h], .agg #[.int .u32 b, .int .i64 m, .bool h']] w fun e w' => e = .returned (.int .i64 (Om.pcmp a n b m)) ∧ Gr w w'
  go_enter Tryz.func69, Tryz.ntmps69
  go_wp2_with fail
  have a0 := A.at_ 0
  have a1 := A.at_ 1
  have b0 := B.at_ 0
  have b1 := B.at_ 1
  generalize (w.alloc (.cells #[.int .u32 a, .int .i64 n, .bool h] 104)).alloc (.cells #[.int .u32 b, .int .i64 m, .bool h'] 104) = w2 at *
  clear A B
  go_wp2_with fail
  refine (cmpP_gr _ _ _ _ _).mono ?_
  rintro e w3 ⟨rfl, hg⟩
  have HG := Lib.hid (HB.out.trans hg)
  clear hg HB
  go_wp2_with fail
  go_ret
  exact ⟨rfl, HG.out⟩
theorem cmpE_lays (blk off size : Nat) (w : World) : CmpLays Tryz.prog 69 #[] dcl 3 cf blk off size w :=
  fun _ _ _ _ x y => (cmpE_gr x y _).mono fun _ _ ⟨he, q, os', hw⟩ => ⟨he, q, os', hw⟩
end Go.Proofs.YtmhcjhbmeohjdaaGreat

