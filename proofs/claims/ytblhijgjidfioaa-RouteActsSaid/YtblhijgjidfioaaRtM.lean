/-
  Maps that may be nil; entries taken out of a map, also while it is gone through. No program's own text in sight.
-/
import Derived.Test.YtblhijgjidfioaaIt
namespace Go.Proofs.Ytblhijgjidfioaa
open Go.RowKit Go.Maps

def Mo {P : Program} {k : TypeId} {α : Type} (E : Ke P k α) (w : World) (r : Option Nat) (n : Nat) (f : α → Option Value) : Prop :=
  match r with
  | none => n = 0 ∧ ∀ x, f x = none
  | some b => Mk E w b n f
section
variable {P : Program} {k t e : TypeId} {α : Type} {E : Ke P k α} {w w' : World} {r : Option Nat} {n : Nat} {f : α → Option Value}
theorem Mo.of_block (h : Mo E w r n f) (hb : ∀ b, r = some b → w'.heap[b]? = w.heap[b]?) : Mo E w' r n f := by
  cases r with
  | none => exact h
  | some b => exact Mk.of_block h (hb b rfl)
theorem Mo.lt (h : Mo E w r n f) {b : Nat} (hb : r = some b) : b < w.heap.size := by subst hb; exact Mk.lt h
theorem Mo.isMap (h : Mo E w r n f) {b : Nat} (hb : r = some b) : ∃ es clock, w.heap[b]? = some (.map es clock) := by subst hb; exact Mk.isMap h
theorem Mo.look_ok (h : Mo E w r n f) (ht : P.underlying t = some (.map k e)) {z : Value} (hz : ∀ w, (zeroValue e).run P w = .ok z w) {i : α} (hw : E.ok i) :
    (Instr.lookup t (.map r) (E.enc i) true).run P w = .ok (.tuple #[(f i).getD z, .bool (f i).isSome]) w := by
  cases r with
  | none =>
    rw [look_ok_nil ht (hz w) hw, h.2 i]
    rfl
  | some b => exact Mk.look_ok h ht (hz w) hw
end


section
variable {P : Program} {k t e : TypeId} {α : Type} [DecidableEq α] {E : Ke P k α} {w w' : World} {b r n : Nat} {f : α → Option Value}
/-- f without key i -/
def cut (f : α → Option Value) (i : α) : α → Option Value := fun z => if z = i then none else f z
theorem Sees.del {D : DataW Value} (S : Sees E D f) {i : α} (hi : E.ok i) : Sees E (D.del (E.lit i)) (cut f i) := by
  intro z hz
  by_cases h : z = i
  · subst h
    rw [cut, if_pos rfl]
    exact ⟨fun u => by rw [atKey_del_same]; rfl, by rw [has_del_same]; rfl⟩
  · rw [cut, if_neg h]
    exact ⟨fun u => by rw [atKey_del_other (E.lit_ne hz hi h)]; exact (S z hz).1 u, by rw [has_del_other (E.lit_ne hz hi h)]; exact (S z hz).2⟩
/-- 'delete(m, i)' -/
theorem Mk.drop (h : Mk E w b n f) (ht : P.underlying t = some (.map k e)) {i : α} (hw : E.ok i) (ty : TypeId) :
    ∃ w' n', (Builtin.delete_ #[t, k] ty #[.map (some b), E.enc i]).run P w = .ok (.tuple #[]) w' ∧ Mk E w' b n' (cut f i) ∧ n' ≤ n ∧ w.grownBy w' (some b) ∧ w'.heap.size = w.heap.size := by
  obtain ⟨D, h, hn, S⟩ := h
  obtain ⟨w', hrun, h', hg⟩ := h.drop E.law ht (E.made i hw) ty
  have hz := size_del (k := E.lit i) (h.tidy E.law)
  obtain ⟨es0, c0, es1, c1, hb0, rfl⟩ := id hg
  exact ⟨_, _, hrun, ⟨_, ownsMap_size h', rfl, S.del hw⟩, by rw [← hn, ← hz]; exact Nat.le_add_right _ _, hg.grown, by simp [ChangeMaps.setBlock]⟩
omit [DecidableEq α] in
theorem drop_nil (ht : P.underlying t = some (.map k e)) {i : α} (hw : E.ok i) (ty : TypeId) : (Builtin.delete_ #[t, k] ty #[.map none, E.enc i]).run P w = .ok (.tuple #[]) w :=
  Maps.drop_nil E.law ht (E.made i hw) ty
/-- 'delete(m, i)' while m is gone through -/
theorem Rg.drop {left : α → Bool} {cnt : Nat} (h : Rg E w b r n f left cnt) (ht : P.underlying t = some (.map k e)) {i : α} (hw : E.ok i) (ty : TypeId) :
    ∃ w' n' cnt', (Builtin.delete_ #[t, k] ty #[.map (some b), E.enc i]).run P w = .ok (.tuple #[]) w' ∧ Rg E w' b r n' (cut f i) (fun z => left z && !decide (z = i)) cnt' ∧ cnt' ≤ cnt ∧ w.grownBy w' (some b) ∧ w'.heap.size = w.heap.size := by
  obtain ⟨D, m, L, h, hn, S, hL⟩ := h
  obtain ⟨w', cnt', hrun, h', hc, hg⟩ := h.drop E.law ht (E.made i hw) ty
  obtain ⟨es0, c0, es1, c1, hb0, rfl⟩ := id hg
  exact ⟨_, _, cnt', hrun, ⟨_, m, _, h', rfl, S.del hw, fun z hz => by simp only [hL z hz, E.sameKey hz hw]⟩, hc, hg.grown, by simp [ChangeMaps.setBlock]⟩
/-- two maps of the same keys have as many -/
theorem Mk.list (h : Mk E w b n f) : ∃ xs : List α, xs.Nodup ∧ (∀ k, k ∈ xs ↔ E.ok k ∧ (f k).isSome = true) := by
  obtain ⟨D, hown, hn, S⟩ := h
  obtain ⟨es, hD, hpw, _⟩ := hown.entries E.law
  obtain ⟨es', hD', hko⟩ := hown.keysOf
  obtain rfl : es = es' := by rw [hD] at hD'; simpa using hD'
  subst hD
  have hlit : ∀ p ∈ es, ∃ x, E.ok x ∧ p.1 = E.lit x := fun p hp => by
    obtain ⟨v, hv⟩ := hko p hp
    obtain ⟨x, hx, -, e⟩ := E.inv _ _ hv
    exact ⟨x, hx, e⟩
  have : ∀ l : List (Lit × DataW Value), (∀ p ∈ l, ∃ x, E.ok x ∧ p.1 = E.lit x) → l.Pairwise (fun p q => p.1 ≠ q.1) → ∃ xs : List α, xs.Nodup ∧ ∀ k, k ∈ xs ↔ E.ok k ∧ ∃ p ∈ l, p.1 = E.lit k := by
    intro l
    induction l with
    | nil => intro _ _; exact ⟨[], List.nodup_nil, fun k => by simp⟩
    | cons p l ih =>
      intro h1 h2
      obtain ⟨xs, hx, hm⟩ := ih (fun q hq => h1 q (List.mem_cons_of_mem _ hq)) (List.pairwise_cons.1 h2).2
      obtain ⟨x, hxo, ex⟩ := h1 p (List.mem_cons_self ..)
      refine ⟨x :: xs, List.nodup_cons.2 ⟨fun hc => ?_, hx⟩, fun k => ?_⟩
      · obtain ⟨_, q, hq, e⟩ := (hm x).1 hc
        exact (List.pairwise_cons.1 h2).1 q hq (ex.trans e.symm)
      · rw [List.mem_cons, hm k]
        constructor
        · rintro (rfl | ⟨ho, q, hq, e⟩)
          · exact ⟨hxo, p, List.mem_cons_self .., ex⟩
          · exact ⟨ho, q, List.mem_cons_of_mem _ hq, e⟩
        · rintro ⟨ho, q, hq, e⟩
          rcases List.mem_cons.1 hq with rfl | hq
          · exact .inl (E.inj k x ho hxo (e.symm.trans ex))
          · exact .inr ⟨ho, q, hq, e⟩
  obtain ⟨xs, hx, hm⟩ := this es hlit hpw
  refine ⟨xs, hx, fun k => ?_⟩
  rw [hm k]
  constructor
  · rintro ⟨ho, p, hp, e⟩
    refine ⟨ho, ?_⟩
    rw [← (S k ho).2, has_eq, List.any_eq_true]
    exact ⟨p, hp, by rw [e, E.sameKey ho ho]; simp⟩
  · rintro ⟨ho, h2⟩
    refine ⟨ho, ?_⟩
    rw [← (S k ho).2, has_eq, List.any_eq_true] at h2
    obtain ⟨p, hp, hs⟩ := h2
    obtain ⟨y, hy, e⟩ := hlit p hp
    rw [e, E.sameKey hy ho, decide_eq_true_eq] at hs
    exact ⟨p, hp, by rw [e, hs]⟩
end
end Go.Proofs.Ytblhijgjidfioaa
