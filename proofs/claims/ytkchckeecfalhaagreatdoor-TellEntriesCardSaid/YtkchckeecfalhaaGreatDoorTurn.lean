/-
  Worlds that differ in few blocks; cells that are written one behind the other. No program's own text in sight.
-/
import Derived.Test.YtkchckeecfalhaaGreatDoorBase
import Derived.Deep.MidRow
namespace Go.Proofs.YtkchckeecfalhaaGreatDoor
open Go.RowKit

theorem int_wf {i : Int} (h1 : -9223372036854775808 ≤ i) (h2 : i ≤ 9223372036854775807) : (Lit.int .i64 i).wf = true := by
  have e1 : IntKind.i64.min = -9223372036854775808 := rfl
  have e2 : IntKind.i64.max = 9223372036854775807 := rfl
  simp only [Lit.wf, Bool.and_eq_true, decide_eq_true_eq]
  omega

/-! ### worlds that differ in few blocks -/
/-- w' is w but for the blocks in L, and for new ones. -/
structure Turn (L : List Nat) (w w' : World) : Prop where
  os : w'.os = w.os
  tape : w'.tape = w.tape
  output : w'.output = w.output
  size : w.heap.size ≤ w'.heap.size
  block : ∀ i, i < w.heap.size → i ∉ L → w'.heap[i]? = w.heap[i]?
section
variable {L : List Nat} {w w' w2 : World}
theorem Turn.refl (L : List Nat) (w : World) : Turn L w w := ⟨rfl, rfl, rfl, Nat.le_refl _, fun _ _ _ => rfl⟩
theorem Turn.trans (h : Turn L w w') (k : Turn L w' w2) : Turn L w w2 :=
  ⟨k.os.trans h.os, k.tape.trans h.tape, k.output.trans h.output, Nat.le_trans h.size k.size, fun i hi hn => (k.block i (Nat.lt_of_lt_of_le hi h.size) hn).trans (h.block i hi hn)⟩
theorem Turn.of_below (L : List Nat) (h : Below w.heap.size w w') : Turn L w w' := ⟨h.os, h.tape, h.output, h.size, fun i hi _ => h.block i hi⟩
theorem Turn.and_below (h : Turn L w w') (k : Below w'.heap.size w' w2) : Turn L w w2 := h.trans (.of_below L k)
theorem Turn.of_grown {b : Nat} (h : w.grownBy w' (some b)) (hb : b ∈ L) : Turn L w w' := ⟨h.os, h.tape, h.output, h.size, fun i hi hn => h.block i hi (fun e => hn (by cases e; exact hb))⟩
theorem Turn.below {B : Nat} (h : Turn L w w') (hL : ∀ i, i ∈ L → B ≤ i) (hB : B ≤ w.heap.size) : Below B w w' :=
  ⟨h.os, h.tape, h.output, h.size, fun i hi => h.block i (by omega) (fun hm => by have := hL i hm; omega)⟩
theorem Turn.mono {L' : List Nat} (h : Turn L w w') (hL : ∀ i, i ∈ L → i ∈ L') : Turn L' w w' := ⟨h.os, h.tape, h.output, h.size, fun i hi hn => h.block i hi (fun hm => hn (hL i hm))⟩
theorem Turn.setCell (w : World) {p : Addr} (hp : p.block ∈ L) (u : Value) : Turn L w (w.setCell p u) :=
  ⟨rfl, rfl, rfl, by simp [World.setCell], fun i _ hn => Below.heap_setCell _ _ _ _ (fun e => hn (e ▸ hp))⟩
theorem Turn.alloc (h : Turn L w w') (o : Obj) : Turn L w (w'.alloc o) := h.and_below (below_new _ _)
theorem Turn.drew (h : Turn L w w') : Turn L w w'.drew := ⟨h.os, h.tape, h.output, h.size, h.block⟩
theorem Turn.fresh {g : Nat} (h : Turn L w w') (k : Turn [g] w' w2) (hg : w.heap.size ≤ g) : Turn L w w2 :=
  ⟨k.os.trans h.os, k.tape.trans h.tape, k.output.trans h.output, Nat.le_trans h.size k.size, fun i hi hn => (k.block i (Nat.lt_of_lt_of_le hi h.size) (by simp; omega)).trans (h.block i hi hn)⟩
theorem Turn.cell (h : Turn L w w') {a : Addr} {v : Value} (hc : w.cell? a = some v) (ha : a.block ∉ L) : w'.cell? a = some v := by
  rw [World.cell?_of_block (h.block _ (cell_lt hc) ha)]; exact hc
theorem Blk.turn {t : TypeId} {g : Nat} {cs : Array Value} (k : Blk t w g cs) (h : Turn L w w') (hg : g ∉ L) : Blk t w' g cs := (h.block g k.lt hg).trans k
end
theorem setCells_heap (b : Nat) : ∀ (vs : List Value) (o : Nat) (w : World) (i : Nat), i ≠ b → (w.setCells b o vs).heap[i]? = w.heap[i]?
  | [], _, _, _, _ => rfl
  | v :: r, o, w, i, h => by
    rw [World.setCells, setCells_heap b r (o + 1) _ i h]
    exact Below.heap_setCell _ _ _ _ h
theorem setCells_size (b : Nat) : ∀ (vs : List Value) (o : Nat) (w : World), (w.setCells b o vs).heap.size = w.heap.size
  | [], _, _ => rfl
  | v :: r, o, w => by rw [World.setCells, setCells_size b r]; simp [World.setCell]
theorem setCells_rest (b : Nat) : ∀ (vs : List Value) (o : Nat) (w : World), (w.setCells b o vs).os = w.os ∧ (w.setCells b o vs).tape = w.tape ∧ (w.setCells b o vs).output = w.output
  | [], _, _ => ⟨rfl, rfl, rfl⟩
  | v :: r, o, w => by rw [World.setCells]; exact setCells_rest b r (o + 1) _
theorem Turn.setCells {L : List Nat} (w : World) {b : Nat} (hb : b ∈ L) (o : Nat) (vs : List Value) : Turn L w (w.setCells b o vs) :=
  ⟨(setCells_rest b vs o w).1, (setCells_rest b vs o w).2.1, (setCells_rest b vs o w).2.2, by rw [setCells_size]; exact Nat.le_refl _, fun i _ hn => setCells_heap b vs o w i (fun e => hn (e ▸ hb))⟩
/-- the cells of block b, with vs laid over those from o on -/
def over (C : Array Value) (o : Nat) : List Value → Array Value
  | [] => C
  | v :: r => over (C.setIfInBounds o v) (o + 1) r
theorem over_size : ∀ (vs : List Value) (C : Array Value) (o : Nat), (over C o vs).size = C.size
  | [], _, _ => rfl
  | v :: r, C, o => by rw [over, over_size r]; simp
theorem over_get : ∀ (vs : List Value) (C : Array Value) (o : Nat), o + vs.length ≤ C.size → ∀ k : Nat, (over C o vs)[k]? = if o ≤ k ∧ k < o + vs.length then vs[k - o]? else C[k]?
  | [], C, o, _, k => by rw [over, if_neg (by simp)]
  | v :: r, C, o, h, k => by
    simp only [List.length_cons] at h
    rw [over, over_get r (C.setIfInBounds o v) (o + 1) (by simp; omega)]
    by_cases h1 : o + 1 ≤ k ∧ k < o + 1 + r.length
    · rw [if_pos h1, if_pos (by simp only [List.length_cons]; omega)]
      have e : k - o = k - (o + 1) + 1 := by omega
      rw [e, List.getElem?_cons_succ]
    · rw [if_neg h1, Array.getElem?_setIfInBounds]
      by_cases h2 : o = k
      · subst h2
        rw [if_pos rfl, if_pos (by omega), if_pos (by simp only [List.length_cons]; omega)]
        simp
      · rw [if_neg h2, if_neg (by simp only [List.length_cons]; omega)]
theorem Blk.setCells {t : TypeId} {b : Nat} : ∀ (vs : List Value) (o : Nat) (w : World) (C : Array Value), Blk t w b C → Blk t (w.setCells b o vs) b (over C o vs)
  | [], _, _, _, h => h
  | v :: r, o, w, C, h => by
    rw [World.setCells, over]
    exact Blk.setCells r (o + 1) _ _ (h.store o v)

/-- the cells of bytes -/
def sec (s : List UInt8) : List Value := s.map fun b => .int .u8 (b.toNat : Int)
theorem sec_length (s : List UInt8) : (sec s).length = s.length := by simp [sec]
theorem sec_get (s : List UInt8) (j : Nat) : (sec s)[j]? = (s[j]?).map fun b => .int .u8 (b.toNat : Int) := by simp [sec]
theorem sec_one (s : List UInt8) : ∀ v ∈ sec s, v.oneCell' = true := by
  intro v hv
  obtain ⟨b, _, rfl⟩ := List.mem_map.1 hv
  rfl
theorem sec_inj {s s' : List UInt8} (h : sec s = sec s') : s = s' := by
  induction s generalizing s' with
  | nil => cases s' <;> simp [sec] at h ⊢
  | cons a r ih =>
    cases s' with
    | nil => simp [sec] at h
    | cons b r' =>
      simp only [sec, List.map_cons, List.cons.injEq, Value.int.injEq] at h
      have e : a = b := UInt8.toNat_inj.1 (by omega)
      rw [e, ih h.2]
end Go.Proofs.YtkchckeecfalhaaGreatDoor
