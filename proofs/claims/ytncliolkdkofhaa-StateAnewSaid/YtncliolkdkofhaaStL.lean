/-
  The state and the statement's model side by side.
-/
import Derived.Test.YtncliolkdkofhaaStH
namespace Go.Proofs.Ytncliolkdkofhaa
open Go.RowKit Rm

/-- A state in block sd that notes S1, a model in block md that says S2, in blocks that W0 hasn't; the rest of W0 stands. -/
def LR (W0 : World) (sd md mo mf id : Nat) (S1 : Sm) (N1 : Nat) (S2 : Sm) (N2 : Nat) (w : World) : Prop :=
  ∃ o fl, Notes w sd o fl id N1 S1 ∧ Says w md mo mf id N2 S2 ∧ Below W0.heap.size W0 w ∧ (∀ y, y ∈ fp sd o fl → W0.heap.size ≤ y ∧ y ≠ md ∧ y ≠ mo ∧ y ≠ mf) ∧ W0.heap.size ≤ md ∧ W0.heap.size ≤ mo ∧ W0.heap.size ≤ mf
theorem Says.turn {L : List Nat} {w w' : World} {d o fl id N : Nat} {S : Sm} (h : Says w d o fl id N S) (t : Turn L w w') (hd : d ∉ L) (ho : o ∉ L) (hf : fl ∉ L) : Says w' d o fl id N S := by
  obtain ⟨n, m, h1, h2⟩ := h
  exact ⟨n, m, h1, h2.turn t hd ho hf⟩
theorem Notes.turn {L : List Nat} {w w' : World} {d : Nat} {o fl : Option Nat} {id N : Nat} {S : Sm} (h : Notes w d o fl id N S) (t : Turn L w w') (hL : ∀ x, x ∈ fp d o fl → x ∉ L) : Notes w' d o fl id N S := by
  obtain ⟨n, m, h1, h2⟩ := h
  exact ⟨n, m, h1, h2.turn t hL⟩
theorem Says.lts {w : World} {d o fl id N : Nat} {S : Sm} (h : Says w d o fl id N S) : d < w.heap.size ∧ o < w.heap.size ∧ fl < w.heap.size := by
  obtain ⟨n, m, -, h2⟩ := h
  exact ⟨h2.head.lt, h2.owns.lt, h2.floors.lt⟩
section
variable {W0 w w' : World} {sd md mo mf id N1 N2 : Nat} {S1 S2 : Sm}
theorem LR.held (h : LR W0 sd md mo mf id S1 N1 S2 N2 w) (hb : Below w.heap.size w w') : LR W0 sd md mo mf id S1 N1 S2 N2 w' := by
  obtain ⟨o, fl, h1, h2, h3, h4⟩ := h
  exact ⟨o, fl, h1.held hb, h2.turn (.of_below [] hb) (by simp) (by simp) (by simp), next h3 (hb.mono (Nat.le_refl _)), h4⟩
theorem LR.below (h : LR W0 sd md mo mf id S1 N1 S2 N2 w) : Below W0.heap.size W0 w := by obtain ⟨o, fl, h1, h2, h3, h4⟩ := h; exact h3
theorem LR.apply_at {wr : World} (h : LR W0 sd md mo mf id S1 N1 S2 N2 wr) (hb : Below wr.heap.size wr w) (hN : N1 < 100000) (r : Rc) (hr : r.Fits) :
    Calls Try.prog 9 #[.pointer (some ⟨sd, 0, none⟩), .agg (rcl r)] w fun e w' => e = .returned (.tuple #[]) ∧ LR W0 sd md mo mf id (app S1 r) (N1 + 1) S2 N2 w' ∧ ∀ t g cs, wr.heap.size ≤ g → Blk t w g cs → Blk t w' g cs := by
  obtain ⟨o, fl, h1, h2, h3, h4, h5, h6, h7⟩ := h
  have hlt : ∀ y, y ∈ fp sd o fl → y < wr.heap.size := fun y hy => by
    obtain ⟨_, _, _, hS⟩ := h1
    exact hS.lt hy
  have h1' := h1.held hb
  have h2' := h2.turn (.of_below [] hb) (by simp) (by simp) (by simp)
  have h3' := next h3 (hb.mono (Nat.le_refl _))
  refine (apply_any h1' hN r hr).mono ?_
  rintro e w' ⟨rfl, o', fl', hN', hT, hf⟩
  have hsz := h3'.size
  obtain ⟨l1, l2, l3⟩ := h2'.lts
  refine ⟨rfl, ⟨o', fl', hN', h2'.turn hT (fun hm => (h4 _ hm).2.1 rfl) (fun hm => (h4 _ hm).2.2.1 rfl) (fun hm => (h4 _ hm).2.2.2 rfl), h3'.trans (hT.below (fun i hi => (h4 i hi).1) hsz), fun y hy => ?_, h5, h6, h7⟩, fun t g cs hg hB => hB.turn hT fun hm => by have := hlt g hm; omega⟩
  rcases hf y hy with h | h
  · exact h4 y h
  · exact ⟨by omega, by omega, by omega, by omega⟩
theorem LR.mapply (h : LR W0 sd md mo mf id S1 N1 S2 N2 w) (hN : N2 < 100000) (r : Rc) (hr : r.Fits) :
    Calls Try.prog 10 #[.pointer (some ⟨md, 0, none⟩), .agg (rcl r)] w fun e w' => e = .returned (.tuple #[]) ∧ LR W0 sd md mo mf id S1 N1 (app S2 r) (N2 + 1) w' := by
  obtain ⟨o, fl, h1, h2, h3, h4, h5, h6, h7⟩ := h
  refine (mapply_any h2 hN r hr).mono ?_
  rintro e w' ⟨rfl, hS, hT⟩
  have hsz := h3.size
  refine ⟨rfl, o, fl, h1.turn hT (fun x hx => ?_), hS, h3.trans (hT.below (fun i hi => ?_) hsz), h4, h5, h6, h7⟩
  · obtain ⟨-, a1, a2, a3⟩ := h4 x hx
    simp [a1, a2, a3]
  · simp only [List.mem_cons, List.not_mem_nil, or_false] at hi
    rcases hi with rfl | rfl | rfl <;> assumption
end
/-- what k records make of nothing -/
def appN (rs : List Rc) (k : Nat) : Sm := (rs.take k).foldl app sm0
theorem appN_succ (rs : List Rc) {k : Nat} (hk : k < rs.length) : appN rs (k + 1) = app (appN rs k) rs[k] := by
  unfold appN
  rw [List.take_succ_eq_append_getElem hk, List.foldl_append]
  rfl
end Go.Proofs.Ytncliolkdkofhaa
