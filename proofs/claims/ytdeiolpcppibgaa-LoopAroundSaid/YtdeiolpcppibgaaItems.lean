/-
  Structs that lie one behind the other. No program's own text in sight.
-/
import Derived.Test.YtdeiolpcppibgaaBase
import Derived.Test.YtdeiolpcppibgaaTurn
namespace Go.Proofs.Ytdeiolpcppibgaa
open Go.RowKit

section
variable {α : Type} {cl : α → List Value} {k : Nat}
/-- the things xs, of k cells each, lie one behind the other from ⟨b, off⟩ on -/
def Items (cl : α → List Value) (k : Nat) (w : World) (b off : Nat) (xs : List α) : Prop := ∀ i (h : i < xs.length), ∀ j, j < k → w.cell? ⟨b, off + i * k + j, none⟩ = (cl xs[i])[j]?
theorem Items.of_block {w w' : World} {b off : Nat} {xs : List α} (h : Items cl k w b off xs) (hb : w'.heap[b]? = w.heap[b]?) : Items cl k w' b off xs := fun i hi j hj => by rw [World.cell?_of_block hb]; exact h i hi j hj
theorem Items.held (hk : ∀ x, (cl x).length = k) {w w' : World} {b off : Nat} {xs : List α} (h : Items cl k w b off xs) (hb : Below w.heap.size w w') : Items cl k w' b off xs := fun i hi j hj => by
  have h1 := h i hi j hj
  have hj' : j < (cl xs[i]).length := by rw [hk]; exact hj
  rw [List.getElem?_eq_getElem hj'] at h1 ⊢
  exact Go.Proofs.Ytdeiolpcppibgaa.held hb h1
theorem Items.turn (hk : ∀ x, (cl x).length = k) {L : List Nat} {w w' : World} {b off : Nat} {xs : List α} (h : Items cl k w b off xs) (ht : Turn L w w') (hb : b ∉ L) : Items cl k w' b off xs := fun i hi j hj => by
  have h1 := h i hi j hj
  have hj' : j < (cl xs[i]).length := by rw [hk]; exact hj
  rw [List.getElem?_eq_getElem hj'] at h1 ⊢
  exact ht.cell h1 hb
end
theorem Blk.there {w : World} {g : Nat} {t : TypeId} {C : Array Value} (h : Blk t w g C) {n : Nat} (hn : n = C.size) : w.there g 0 n := fun j hj => by
  rw [Nat.zero_add]
  refine ⟨?_, h.free j⟩
  rw [h.at_ j, Array.getElem?_eq_getElem (by omega)]
  rfl
theorem Blk.range {w : World} {g : Nat} {t : TypeId} {C : Array Value} (h : Blk t w g C) : w.rangeAt g 0 C.toList := fun j v hv => by
  rw [Nat.zero_add, h.at_ j]
  simpa using hv
theorem Blk.put_all {w : World} {g : Nat} {t : TypeId} {C : Array Value} (h : Blk t w g C) (vs : List Value) (hl : vs.length = C.size) : Blk t (w.setCells g 0 vs) g vs.toArray := by
  have h1 := Blk.setCells vs 0 w C h
  have e : over C 0 vs = vs.toArray := by
    apply Array.ext_getElem?
    intro k
    rw [over_get vs C 0 (by omega)]
    by_cases hk : k < vs.length
    · rw [if_pos (by omega), Nat.sub_zero]; simp
    · rw [if_neg (by omega), Array.getElem?_eq_none (by omega), Array.getElem?_eq_none (by simp; omega)]
  rw [e] at h1
  exact h1
theorem Blk.apart {w : World} {g b o : Nat} {t : TypeId} {C : Array Value} (h : Blk t w g C) (hb : g ≠ b) (vs : List Value) : Blk t (w.setCells b o vs) g C := (setCells_heap b vs o w g hb).trans h
theorem below_put {B : Nat} {w w' : World} (h : Below B w w') {g : Nat} (hB : B ≤ g) (o : Nat) (vs : List Value) : Below B w (w'.setCells g o vs) :=
  ⟨(setCells_rest g vs o w').1.trans h.os, (setCells_rest g vs o w').2.1.trans h.tape, (setCells_rest g vs o w').2.2.trans h.output, by rw [setCells_size]; exact h.size, fun i hi => (setCells_heap g vs o w' i (by omega)).trans (h.block i hi)⟩
end Go.Proofs.Ytdeiolpcppibgaa
