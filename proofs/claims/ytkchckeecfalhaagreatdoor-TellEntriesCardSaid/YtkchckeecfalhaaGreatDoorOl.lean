/-
  Lists that a function owns, of whatever elements: nothing, push, read. No program's own text in sight.
-/
import Derived.Test.YtkchckeecfalhaaGreatDoorTurn
import Derived.Maps.AppendAt
namespace Go.Proofs.YtkchckeecfalhaaGreatDoor
open Go.RowKit Go.Maps

/-- what a slice type's elements are -/
structure Elem {α : Type} (P : Program) (t e : TypeId) (cl : α → List Value) (k bytes : Nat) : Prop where
  ht : P.underlying t = some (.slice e)
  info : ∃ i z, P.info? e = some i ∧ i.zero = some z ∧ i.size = k ∧ i.bytes = bytes ∧ z.cells.size = k
  pos : 0 < k
  len : ∀ x, (cl x).length = k
  one : ∀ x, ∀ v ∈ cl x, v.oneCell' = true
  small : bytes ≤ 1000
theorem elem_info {P : Program} {e : TypeId} {z : Value} {k b : Nat} (h : (P.info? e).map (fun i => (i.zero, i.size, i.bytes)) = some (some z, k, b)) (hz : z.cells.size = k) : ∃ i z, P.info? e = some i ∧ i.zero = some z ∧ i.size = k ∧ i.bytes = b ∧ z.cells.size = k := by
  cases hi : P.info? e with
  | none => rw [hi] at h; cases h
  | some i =>
    rw [hi] at h
    simp only [Option.map_some, Option.some.injEq, Prod.mk.injEq] at h
    exact ⟨i, z, rfl, h.1, h.2.1, h.2.2, hz⟩

section
variable {α : Type} {P : Program} {t e : TypeId} {cl : α → List Value} {k bytes : Nat}
theorem cl_flat_len (hk : ∀ x, (cl x).length = k) (xs : List α) : (xs.flatMap cl).length = xs.length * k := by
  induction xs with
  | nil => simp
  | cons x r ih => rw [List.flatMap_cons, List.length_append, ih, hk, List.length_cons, Nat.add_mul, Nat.one_mul, Nat.add_comm]
theorem cl_flat_get (hk : ∀ x, (cl x).length = k) : ∀ (xs : List α) (i : Nat) (h : i < xs.length) (j : Nat), j < k → (xs.flatMap cl)[i * k + j]? = (cl xs[i])[j]?
  | [], i, h, _, _ => by simp at h
  | x :: r, 0, h, j, hj => by
    rw [List.flatMap_cons, Nat.zero_mul, Nat.zero_add, List.getElem?_append_left (by rw [hk]; exact hj)]
    rfl
  | x :: r, i + 1, h, j, hj => by
    rw [List.flatMap_cons, List.getElem?_append_right (by rw [hk, Nat.add_mul]; omega), hk, show (i + 1) * k + j - k = i * k + j by rw [Nat.add_mul]; omega]
    rw [cl_flat_get hk r i (by simpa using h) j hj]
    rfl

/-- v is a list of the call's own, from block B on -/
def Ol (e : TypeId) (cl : α → List Value) (k : Nat) (B : Nat) (v : Value) (xs : List α) (W : World) : Prop := W.ownsRow B e k v xs.length (xs.flatMap cl)
variable {B : Nat} {v : Value} {xs : List α} {W W' : World}
theorem Ol.nil (B : Nat) (W : World) : Ol e cl k B (.slice none 0 0) [] W := ⟨by simp, .inl ⟨rfl, rfl⟩⟩
theorem Ol.empty (W : World) (hB : B ≤ W.heap.size) : Ol e cl k B (.slice (some ⟨W.heap.size, 0, none⟩) 0 0) [] (W.alloc (.cells #[] e)) :=
  ⟨by simp, .inr ⟨W.heap.size, 0, #[], rfl, hB, Blk.new W e #[], by simp, by simp, by simp, by simp⟩⟩
theorem Ol.of_block (h : Ol e cl k B v xs W) (hb : ∀ b, v.ownBlock = some b → W'.heap[b]? = W.heap[b]?) : Ol e cl k B v xs W' := by
  obtain ⟨h1, h2⟩ := h
  refine ⟨h1, ?_⟩
  rcases h2 with h2 | ⟨g, cap, cur, rfl, h4, h5, h6⟩
  · exact .inl h2
  · exact .inr ⟨g, cap, cur, rfl, h4, (hb g rfl).trans h5, h6⟩
theorem Ol.lt (h : Ol e cl k B v xs W) {b : Nat} (hb : v.ownBlock = some b) : b < W.heap.size ∧ B ≤ b := by
  rcases h.2 with ⟨rfl, _⟩ | ⟨g, cap, cur, rfl, h4, h5, _⟩
  · cases hb
  · cases hb
    exact ⟨(Array.getElem?_eq_some_iff.1 h5).1, h4⟩
theorem Ol.held (h : Ol e cl k B v xs W) (hb : Below W.heap.size W W') : Ol e cl k B v xs W' := h.of_block fun b e => hb.block b (h.lt e).1
theorem Ol.turn {L : List Nat} (h : Ol e cl k B v xs W) (t : Turn L W W') (hL : ∀ b, v.ownBlock = some b → b ∉ L) : Ol e cl k B v xs W' := h.of_block fun b e => t.block b (h.lt e).1 (hL b e)
theorem Ol.drew (h : Ol e cl k B v xs W) : Ol e cl k B v xs W.drew := h
theorem Ol.mono (h : Ol e cl k B v xs W) {B' : Nat} (hB : B' ≤ B) : Ol e cl k B' v xs W := by
  obtain ⟨h1, h2⟩ := h
  refine ⟨h1, ?_⟩
  rcases h2 with h2 | ⟨g, cap, cur, rfl, h4, h5⟩
  · exact .inl h2
  · exact .inr ⟨g, cap, cur, rfl, Nat.le_trans hB h4, h5⟩
theorem Ol.form (h : Ol e cl k B v xs W) : ∃ p cap, v = .slice p xs.length cap ∧ xs.length ≤ cap := by
  rcases h.2 with ⟨rfl, h0⟩ | ⟨g, cap, cur, rfl, _, _, h6, _⟩
  · exact ⟨none, 0, by rw [h0], by omega⟩
  · exact ⟨_, cap, rfl, h6⟩
/-- its cells -/
theorem Ol.at_ (hk : ∀ x, (cl x).length = k) (h : Ol e cl k B v xs W) {i : Nat} (hi : i < xs.length) : ∃ g cap, v = .slice (some ⟨g, 0, none⟩) xs.length cap ∧ xs.length ≤ cap ∧ cap ≤ maxLen ∧ ∀ j, j < k → W.cell? ⟨g, i * k + j, none⟩ = (cl xs[i])[j]? := by
  rcases h.2 with ⟨rfl, h0⟩ | ⟨g, cap, cur, rfl, h4, h5, h6, h7, h8, h9⟩
  · omega
  · refine ⟨g, cap, rfl, h6, h7, fun j hj => ?_⟩
    have h5' : Blk e W g cur := h5
    rw [h5'.at_, ← cl_flat_get hk xs i hi j hj, ← h9, List.getElem?_take, if_pos]
    · simp
    · have := Nat.mul_le_mul_right k (show i + 1 ≤ xs.length from hi)
      rw [Nat.add_mul, Nat.one_mul] at this
      omega
/-- behind 'append(list, x)' -/
theorem Ol.push (E : Elem P t e cl k bytes) (h : Ol e cl k B v xs W) (hB : B ≤ W.heap.size) {ad : Addr} {c : Nat} (x : α) (hx : ∀ j u, (cl x)[j]? = some u → W.cell? (ad.add j) = some u) (hbig : xs.length ≤ 1000000) (ty : TypeId) :
    ∃ g' cap' W', (Builtin.append_ #[t, t] ty #[v, .slice (some ad) 1 c]).run P W = .ok (.slice (some ⟨g', 0, none⟩) (xs.length + 1) cap') W' ∧ Ol e cl k B (.slice (some ⟨g', 0, none⟩) (xs.length + 1) cap') (xs ++ [x]) W' ∧ W.grownBy W' v.ownBlock ∧ (v.ownBlock = some g' ∨ g' = W.heap.size) := by
  obtain ⟨i0, z, hi, hz0, hz1, hz2, hz3⟩ := E.info
  obtain ⟨v', W', hr, hown, hgr, hnil, hat⟩ := run_append_own_at (P := P) W B t ty e i0 z k bytes E.ht hi hz0 hz1 hz2 hz3 E.pos v xs.length (xs.flatMap cl) h ad 1 c (cl x) (by rw [E.len, Nat.one_mul]) hx (E.one x)
    (by unfold maxLen; omega) (by have h1 := E.small; have := Nat.mul_le_mul (show xs.length + 1 ≤ 1000001 by omega) h1; omega) hB
  have hne : ¬ v' = .slice none 0 0 := fun e => by have := (hnil.1 e).2; omega
  rcases hown.2 with ⟨rfl, _⟩ | ⟨g', cap', cur, rfl, h4, h5, h6, h7, h8, h9⟩
  · exact absurd rfl hne
  · have e1 : (xs ++ [x]).flatMap cl = xs.flatMap cl ++ cl x := by simp
    have e2 : (xs ++ [x]).length = xs.length + 1 := by simp
    refine ⟨g', cap', W', hr, ⟨by rw [e1, e2]; exact hown.1, .inr ⟨g', cap', cur, by rw [e2], h4, h5, by rw [e2]; exact h6, h7, h8, by rw [e1, e2]; exact h9⟩⟩, hgr, ?_⟩
    rcases hat with h | h
    · exact .inl (h.symm.trans rfl)
    · exact .inr (by simpa [Value.ownBlock] using h)
/-- .. where x lies in a block made for that -/
theorem Ol.push1 (E : Elem P t e cl k bytes) (h : Ol e cl k B v xs W) (hB : B ≤ W.heap.size) (x : α) (hbig : xs.length ≤ 1000000) (ty : TypeId) :
    ∃ g' cap' W', (Builtin.append_ #[t, t] ty #[v, .slice (some ⟨W.heap.size, 0, none⟩) 1 1]).run P (W.alloc (.cells (cl x).toArray e)) = .ok (.slice (some ⟨g', 0, none⟩) (xs.length + 1) cap') W' ∧ Ol e cl k B (.slice (some ⟨g', 0, none⟩) (xs.length + 1) cap') (xs ++ [x]) W' ∧ Turn v.ownBlock.toList W W' ∧ (v.ownBlock = some g' ∨ W.heap.size < g') := by
  have hb := below_new W (.cells (cl x).toArray e)
  have hX := Blk.new W e (cl x).toArray
  have h5 := h.held hb
  have hs := size_new W (.cells (cl x).toArray e)
  obtain ⟨g', cap', W6, hrun, h6, hg6, hat⟩ := Ol.push E h5 (Nat.le_trans hB hb.size) (ad := ⟨W.heap.size, 0, none⟩) (c := 1) x (fun jj vv hv => by
    rw [Addr.add_mid, Nat.zero_add, hX.at_ jj]
    simpa using hv) hbig ty
  refine ⟨g', cap', W6, hrun, h6, ⟨hg6.os.trans hb.os, hg6.tape.trans hb.tape, hg6.output.trans hb.output, Nat.le_trans hb.size hg6.size, fun i hi hn => ?_⟩, ?_⟩
  · refine (hg6.block i (by omega) (fun e => ?_)).trans (hb.block i hi)
    rw [← e] at hn
    simp at hn
  · rcases hat with h | h
    · exact .inl h
    · exact .inr (by omega)
/-- nothing but blocks from B on has turned -/
theorem own_below (h : Ol e cl k B v xs W) {w0 : World} (h0 : Below B w0 W) (hB : B ≤ W.heap.size) (T : Turn v.ownBlock.toList W W') : Below B w0 W' :=
  h0.trans (T.below (B := B) (fun i hi => by
    have : v.ownBlock = some i := by simpa using hi
    exact (h.lt this).2) hB)
end
end Go.Proofs.YtkchckeecfalhaaGreatDoor
