/-
  Package state: a state alone; a list that Records made, read record by record.
-/
import Derived.Test.YtncliolkdkofhaaStX
import Derived.Test.YtncliolkdkofhaaRce
namespace Go.Proofs.Ytncliolkdkofhaa
open Go.RowKit Rm

/-- A state in block sd that notes S, in blocks that W0 hasn't; the rest of W0 stands. -/
def LS (W0 : World) (sd id : Nat) (S : Sm) (N : Nat) (w : World) : Prop :=
  ∃ o fl, Notes w sd o fl id N S ∧ Below W0.heap.size W0 w ∧ ∀ y, y ∈ fp sd o fl → W0.heap.size ≤ y
section
variable {W0 w w' : World} {sd id N : Nat} {S : Sm}
theorem LS.below (h : LS W0 sd id S N w) : Below W0.heap.size W0 w := by obtain ⟨o, fl, h1, h2, h3⟩ := h; exact h2
theorem LS.held (h : LS W0 sd id S N w) (hb : Below w.heap.size w w') : LS W0 sd id S N w' := by
  obtain ⟨o, fl, h1, h2, h3⟩ := h
  exact ⟨o, fl, h1.held hb, next h2 hb, h3⟩
theorem LS.apply_at {wr : World} (h : LS W0 sd id S N wr) (hb : Below wr.heap.size wr w) (hN : N < 100000) (r : Rc) (hr : r.Fits) :
    Calls Try.prog 9 #[.pointer (some ⟨sd, 0, none⟩), .agg (rcl r)] w fun e w' => e = .returned (.tuple #[]) ∧ LS W0 sd id (app S r) (N + 1) w' ∧ ∀ t g cs, wr.heap.size ≤ g → Blk t w g cs → Blk t w' g cs := by
  obtain ⟨o, fl, h1, h3, h4⟩ := h
  have hlt : ∀ y, y ∈ fp sd o fl → y < wr.heap.size := fun y hy => by
    obtain ⟨_, _, _, hS⟩ := h1
    exact hS.lt hy
  have h3' := next h3 hb
  have hsz := h3'.size
  refine (apply_any (h1.held hb) hN r hr).mono ?_
  rintro e w' ⟨rfl, o', fl', hN', hT, hf⟩
  refine ⟨rfl, ⟨o', fl', hN', h3'.trans (hT.below (fun i hi => h4 i hi) hsz), fun y hy => ?_⟩, fun t g cs hg hB => hB.turn hT fun hm => by have := hlt g hm; omega⟩
  rcases hf y hy with h | h
  · exact h4 y h
  · omega
end

theorem rcells_length (r : Rc) : (rcells r).length = 9 := rfl
theorem recs_get : ∀ (L : List Rc) (i : Nat) (h : i < L.length) (j : Nat), j < 9 → (L.flatMap rcells)[9 * i + j]? = (rcl L[i])[j]?
  | r :: L, 0, _, j, hj => by
    rw [List.flatMap_cons, List.getElem?_append_left (by rw [rcells_length]; omega)]
    show (rcl r).toList[9 * 0 + j]? = (rcl r)[j]?
    rw [show 9 * 0 + j = j by omega]
    simp
  | r :: L, i + 1, h, j, hj => by
    rw [List.flatMap_cons, List.getElem?_append_right (by rw [rcells_length]; omega), rcells_length, show 9 * (i + 1) + j - 9 = 9 * i + j by omega]
    exact recs_get L i (by simpa using h) j hj
theorem row_recs {w : World} {n₀ : Nat} {v : Value} {L : List Rc} (h : w.ownsRow n₀ 37 9 v L.length (L.flatMap rcells)) :
    ∃ a cap, v = .slice a L.length cap ∧ L.length ≤ maxLen ∧ L.length ≤ cap ∧ (0 < L.length → ∃ b off, a = some ⟨b, off, none⟩) ∧ ∀ b off, a = some ⟨b, off, none⟩ → Recs w b off L := by
  rcases h.2 with ⟨hv, hn⟩ | ⟨g, cap, cur, hv, hb, hg, hle, hm, -, -⟩
  · exact ⟨none, 0, by rw [hv, hn], by omega, by omega, by omega, fun _ _ h => by cases h⟩
  · refine ⟨some ⟨g, 0, none⟩, cap, hv, Nat.le_trans hle hm, hle, fun _ => ⟨g, 0, rfl⟩, ?_⟩
    intro b off e
    cases e
    intro i hi j hj
    have hadd : ∀ j, (⟨g, 0, none⟩ : Addr).add j = ⟨g, 0 + j, none⟩ := fun j => by unfold Addr.add; split <;> simp_all
    have hj' : j < (rcl L[i]).size := hj
    have h1 := recs_get L i hi j hj
    rw [Array.getElem?_eq_getElem hj'] at h1 ⊢
    have := h.cells (g := g) (by rw [hv]; rfl) _ _ h1
    rw [hadd] at this
    exact this

theorem mask_cut (z : Int) : ∃ c : Nat, c ≤ 65535 ∧ bits .and .i64 z 65535 = (c : Int) := by
  have h : (BitVec.ofInt 64 z &&& BitVec.ofInt 64 65535).toNat ≤ 65535 := by
    rw [BitVec.toNat_and]
    exact Nat.and_le_right
  have e : bits .and .i64 z 65535 = IntKind.i64.wrap ((BitVec.ofInt 64 z &&& BitVec.ofInt 64 65535).toNat : Int) := rfl
  rw [e]
  generalize (BitVec.ofInt 64 z &&& BitVec.ofInt 64 65535).toNat = n at h
  refine ⟨n, h, ?_⟩
  simp only [IntKind.wrap, IntKind.bits, IntKind.signed]
  simp
  omega
theorem appT_next (L : List Rc) (c k n q : Nat) (hn : L.length = n) (h : 0 < n) (hq : q = (k + c) % n) : ∃ h : q < L.length, appT L c (k + 1) = app (appT L c k) L[q] := by
  subst hn
  subst hq
  exact ⟨Nat.mod_lt _ h, appT_succ L c k (Nat.mod_lt _ h)⟩
theorem tmod_nat (a b : Nat) : ((a : Int)).tmod (b : Int) = ((a % b : Nat) : Int) := by
  rw [Int.tmod_eq_emod_of_nonneg (by omega)]
  rfl
theorem wrap_small {z : Int} {n : Nat} (h : z = (n : Int)) (h2 : n ≤ 1000000) : IntKind.i64.wrap z = (n : Int) := by
  subst h
  simp only [IntKind.wrap, IntKind.bits, IntKind.signed]
  simp
  omega
end Go.Proofs.Ytncliolkdkofhaa
