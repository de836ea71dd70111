/-
  RouteEarly: the two times that the prefixes are gone through.
-/
import Derived.Test.YtblhijgjidfioaaReRow
namespace Go.Proofs.Ytblhijgjidfioaa
open Go.RowKit Go.Maps

/-- what Prefixes listed, in a box -/
structure Rw (W : World) (B g cap : Nat) (xs : List Pk) : Prop where
  box : Blk 60 W B #[.slice (some ⟨g, 0, none⟩) xs.length cap]
  row : ∃ F, PR W g F xs.length ∧ ∀ i (h : i < xs.length), F i = xs[i]
  lt : g < W.heap.size
theorem Rw.turn {W W' : World} {B g cap : Nat} {xs : List Pk} {L : List Nat} (h : Rw W B g cap xs) (ht : Turn L W W') (h1 : B ∉ L) (h2 : g ∉ L) : Rw W' B g cap xs := by
  obtain ⟨F, hP, hF⟩ := h.row
  exact ⟨h.box.turn ht h1, ⟨F, hP.turn ht h2 h.lt, hF⟩, Nat.lt_of_lt_of_le h.lt ht.size⟩
theorem Rw.loop {W : World} {B g cap : Nat} {xs : List Pk} (h : Rw W B g cap xs) : W.cell? ⟨B, 0, none⟩ = some (.slice (some ⟨g, 0, none⟩) xs.length cap) ∧ ∃ F, PR W g F xs.length ∧ ∀ i (h : i < xs.length), F i = xs[i] := ⟨h.box.at_ 0, h.row⟩
theorem Pfx.rw {w w' : World} {f : Ways} {n B g cap : Nat} {xs : List Pk} (h : Pfx w w' f n B g cap xs) : Rw w' B g cap xs := ⟨h.box, h.row, h.gl⟩
theorem Rw.alloc {W : World} {B g cap : Nat} {xs : List Pk} (h : Rw W B g cap xs) (o : Obj) : Rw (W.alloc o) B g cap xs := h.turn (L := []) ((Turn.refl _ _).alloc o) (by simp) (by simp)
theorem LP.alloc {W : World} {base A g cap : Nat} {xs : List Pk} (h : LP W base A g cap xs) (o : Obj) : LP (W.alloc o) base A g cap xs := h.turn (L := []) ((Turn.refl _ _).alloc o) (by simp) (by simp)
/-- blocks of other types lie elsewhere -/
theorem LP.apart {W : World} {base A g cap : Nat} {xs : List Pk} (h : LP W base A g cap xs) {t : TypeId} {C : Nat} {cs : Array Value} (hC : Blk t W C cs) (h1 : t ≠ 60) (h2 : t ≠ 32) : C ≠ A ∧ C ≠ g := by
  constructor
  · intro e
    have := h.box
    unfold Blk at this hC
    rw [← e, hC] at this
    cases this
    exact h1 rfl
  · intro e
    obtain ⟨_, _, hk⟩ := Lib.ownsRow_kind h.row g rfl
    unfold Blk at hC
    rw [← e, hC] at hk
    cases hk
    exact h2 rfl
theorem LP.apart_box {W : World} {base A g cap : Nat} {xs : List Pk} (h : LP W base A g cap xs) {B : Nat} {cs : Array Value} (hB : Blk 60 W B cs) : B ≠ g := by
  intro e
  obtain ⟨_, _, hk⟩ := Lib.ownsRow_kind h.row g rfl
  unfold Blk at hB
  rw [← e, hB] at hk
  cases hk
theorem LP.apart_tb {W : World} {base A g cap : Nat} {xs : List Pk} (h : LP W base A g cap xs) {t n : Nat} {o : Option Nat} {f : Ways} (hT : Tb W t o n f) : t ∉ [A, g] ∧ ∀ b, o = some b → b ∉ [A, g] := by
  have h1 := h.apart hT.head (by decide) (by decide)
  refine ⟨by simp; exact h1, fun b e => ?_⟩
  obtain ⟨es, cl, hm⟩ := hT.map.isMap e
  have h2 : b ≠ A := fun e2 => by
    have := h.box
    unfold Blk at this
    rw [← e2, hm] at this
    cases this
  have h3 : b ≠ g := fun e2 => by
    obtain ⟨_, _, hk⟩ := Lib.ownsRow_kind h.row g rfl
    rw [← e2, hm] at hk
    cases hk
  simp
  exact ⟨h2, h3⟩
theorem LP.gbase {W : World} {base A g cap : Nat} {xs : List Pk} (h : LP W base A g cap xs) : base ≤ g := (h.row.lt g rfl).1

theorem enter_cl1 : ∀ args w, (callFunc 22 args).run Try.prog w = .ok (.enter 22 args) w := enters_of Try.func22 (by kernel_rfl) rfl
theorem enter_cl2 : ∀ args w, (callFunc 23 args).run Try.prog w = .ok (.enter 23 args) w := enters_of Try.func23 (by kernel_rfl) rfl
theorem take_snoc {xs : List Pk} {k : Nat} (h : k < xs.length) : xs.take (k + 1) = xs.take k ++ [xs[k]] := by
  rw [List.take_add_one]
  simp [h]

structure J1 (w : World) (A B gx capx t n : Nat) (o : Option Nat) (f : Ways) (xs : List Pk) (k : Nat) (W : World) : Prop where
  lp : ∃ g c, LP W w.heap.size A g c (xs.take k) ∧ g ≠ gx
  rw : Rw W B gx capx xs
  tb : Tb W t o n f
  below : Below w.heap.size w W
theorem J1.alloc {w : World} {A B gx capx t n : Nat} {o : Option Nat} {f : Ways} {xs : List Pk} {k : Nat} {W : World} (h : J1 w A B gx capx t n o f xs k W) (ob : Obj) : J1 w A B gx capx t n o f xs k (W.alloc ob) := by
  obtain ⟨g, c, h1, h2⟩ := h.lp
  exact ⟨⟨g, c, h1.alloc ob, h2⟩, h.rw.alloc ob, h.tb.held (below_new _ _), h.below.alloc h.below.size ob⟩
theorem pass1 {w W : World} {A B gx capx t n : Nat} {o : Option Nat} {f : Ways} {xs : List Pk} (hl : xs.length ≤ 1000) (hA : w.heap.size ≤ A) (hAB : B ≠ A) (hgA : gx ≠ A) (h : J1 w A B gx capx t n o f xs 0 W) :
    Calls Try.prog 33 #[.func (.func 22) #[] #[.pointer (some ⟨A, 0, none⟩)], .pointer (some ⟨B, 0, none⟩)] W fun e W' => e = .returned (.tuple #[]) ∧ J1 w A B gx capx t n o f xs xs.length W' := by
  refine (pfx_loop (J := J1 w A B gx capx t n o f xs) (E := fun _ _ => False) enter_cl1 (fun k W h => h.rw.loop) (fun k W ob h => h.alloc ob) ?_ (by omega) h).mono ?_
  · intro k hk W h
    obtain ⟨g, c, hL, hg⟩ := h.lp
    refine (cl1_any hL (by rw [List.length_take]; omega) h.below.size xs[k].a xs[k].n).mono ?_
    rintro e W' ⟨rfl, g', c', hL', hT, hg'⟩
    refine ⟨true, rfl, fun _ => ⟨⟨g', c', by rw [take_snoc hk]; exact hL', ?_⟩, ?_, ?_, ?_⟩, fun e => by cases e⟩
    · rcases hg' with e | e
      · rw [e]; exact hg
      · have := h.rw.lt; omega
    · exact h.rw.turn hT (by simp; exact ⟨hAB, hL.apart_box h.rw.box⟩) (by simp; exact ⟨hgA, Ne.symm hg⟩)
    · exact h.tb.turn hT (hL.apart_tb h.tb).1 (hL.apart_tb h.tb).2
    · exact h.below.trans (hT.below (fun i hi => by
        simp at hi
        rcases hi with rfl | rfl
        · exact hA
        · exact hL.gbase) h.below.size)
  · rintro e W' ⟨rfl, h | ⟨k, -, h⟩⟩
    · exact ⟨rfl, h⟩
    · exact h.elim

structure J2 (w : World) (A gA cA B gx capx S N K kk : Nat) (xs : List Pk) (k : Nat) (W : World) : Prop where
  s : Blk 4 W S #[.bool true]
  n : Blk 3 W N #[.int .i64 (k : Int)]
  k : Blk 3 W K #[.int .i64 (kk : Int)]
  lp : LP W w.heap.size A gA cA xs
  rw : Rw W B gx capx xs
  below : Below w.heap.size w W
theorem J2.alloc {w : World} {A gA cA B gx capx S N K kk : Nat} {xs : List Pk} {k : Nat} {W : World} (h : J2 w A gA cA B gx capx S N K kk xs k W) (ob : Obj) : J2 w A gA cA B gx capx S N K kk xs k (W.alloc ob) :=
  ⟨h.s.more ob, h.n.more ob, h.k.more ob, h.lp.alloc ob, h.rw.alloc ob, h.below.alloc h.below.size ob⟩
theorem pass2 {w W : World} {A gA cA B gx capx S N K kk : Nat} {xs : List Pk} (hl : xs.length ≤ 1000) (hS : w.heap.size ≤ S) (hN : w.heap.size ≤ N) (hNK : N ≠ K) (hgS : gx ≠ S) (hgN : gx ≠ N) (hkk : kk ≤ xs.length) (h : J2 w A gA cA B gx capx S N K kk xs 0 W) :
    Calls Try.prog 33 #[.func (.func 23) #[] #[.pointer (some ⟨S, 0, none⟩), .pointer (some ⟨N, 0, none⟩), .pointer (some ⟨A, 0, none⟩), .pointer (some ⟨K, 0, none⟩)], .pointer (some ⟨B, 0, none⟩)] W fun e W' => e = .returned (.tuple #[]) ∧ J2 w A gA cA B gx capx S N K kk xs (min (kk + 1) xs.length) W' := by
  refine (pfx_loop (J := fun k W => J2 w A gA cA B gx capx S N K kk xs k W ∧ (k = 0 ∨ k ≤ kk)) (E := fun k W => J2 w A gA cA B gx capx S N K kk xs (k + 1) W ∧ k = kk) enter_cl2 (fun k W h => h.1.rw.loop) (fun k W ob h => ⟨h.1.alloc ob, h.2⟩) ?_ (by omega) ⟨h, .inl rfl⟩).mono ?_
  · rintro k hk W ⟨h, hkc⟩
    refine (cl2_any h.lp hl h.s h.n h.k hNK hk (a := xs[k].a) (n := xs[k].n) (by simp [hk]) rfl).mono ?_
    rintro e W' ⟨rfl, h1, h2, hT⟩
    have hsA := h.lp.apart h.s (by decide) (by decide)
    have hnA := h.lp.apart h.n (by decide) (by decide)
    have ne_of : ∀ {t t' : TypeId} {C C' : Nat} {cs cs' : Array Value}, Blk t W C cs → Blk t' W C' cs' → t ≠ t' → C ≠ C' := fun h1 h2 ht e => by
      unfold Blk at h1 h2
      rw [e, h2] at h1
      cases h1
      exact ht rfl
    have J' : J2 w A gA cA B gx capx S N K kk xs (k + 1) W' := ⟨h1, h2, h.k.turn hT (by simp; exact ⟨ne_of h.k h.s (by decide), hNK.symm⟩), h.lp.turn hT (by simp; exact ⟨hsA.1.symm, hnA.1.symm⟩) (by simp; exact ⟨hsA.2.symm, hnA.2.symm⟩),
      h.rw.turn hT (by simp; exact ⟨ne_of h.rw.box h.s (by decide), ne_of h.rw.box h.n (by decide)⟩) (by simp; exact ⟨hgS, hgN⟩),
      h.below.trans (hT.below (fun i hi => by
        simp at hi
        rcases hi with rfl | rfl
        · exact hS
        · exact hN) h.below.size)⟩
    refine ⟨_, rfl, fun e => ⟨J', .inr ?_⟩, fun e => ⟨J', ?_⟩⟩
    · have := of_decide_eq_true e; omega
    · have := of_decide_eq_false e; omega
  · rintro e W' ⟨rfl, ⟨h, hc⟩ | ⟨k, hk, h, rfl⟩⟩
    · refine ⟨rfl, ?_⟩
      rw [show min (kk + 1) xs.length = xs.length by omega]
      exact h
    · refine ⟨rfl, ?_⟩
      rw [show min (k + 1) xs.length = k + 1 by omega]
      exact h
end Go.Proofs.Ytblhijgjidfioaa
