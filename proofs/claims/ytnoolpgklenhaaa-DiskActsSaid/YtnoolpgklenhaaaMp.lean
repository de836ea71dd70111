/-
  Maps whose keys are ints, seen as functions from keys to values; elements of whatever type. No program's own text in sight.
-/
import Derived.Test.YtnoolpgklenhaaaBase
import Derived.Maps.RangeWalk
import Derived.Maps.OwnSet
namespace Go.Proofs.Ytnoolpgklenhaaa
open Go.RowKit Go.Maps Go.WideShapes
open Go.WideElems (Fit rd rg rd_key rg_of)

/-- an element reads as itself -/
def asIs (v : Value) : Option (DataW Value × List MemPlace) := some (.held v, [])
/-- what a datum of a map holds at each key -/
def Sees (D : DataW Value) (f : Int → Option Value) : Prop :=
  ∀ z, (∀ v, D.atKey (.int .i64 z) (.held v) = .held ((f z).getD v)) ∧ Maps.has D (.int .i64 z) = (f z).isSome
/-- Block b is a map from ints; f says what it holds at which key. -/
def Mp (P : Program) (k : TypeId) (w : World) (b : Nat) (f : Int → Option Value) : Prop :=
  ∃ D : DataW Value, w.ownsMap P k asIs b (Maps.size D) D ∧ Sees D f
/-- f with v at key i -/
def upd {α : Type} (f : Int → Option α) (i : Int) (v : α) : Int → Option α := fun z => if z = i then some v else f z
theorem upd_same {α : Type} (f : Int → Option α) (i : Int) (v : α) : upd f i v i = some v := by simp [upd]
theorem upd_other {α : Type} (f : Int → Option α) {i z : Int} (h : z ≠ i) (v : α) : upd f i v z = f z := by simp [upd, h]

theorem held_inj {a b : Value} (h : (DataW.held a : DataW Value) = .held b) : a = b := by cases h; rfl
theorem lit_ne {z i : Int} (h : z ≠ i) : (Lit.int .i64 z) ≠ .int .i64 i := fun e => h (by cases e; rfl)

section
variable {P : Program} {k t e : TypeId} {w w' : World} {b r : Nat} {f : Int → Option Value}

theorem Mp.lt (h : Mp P k w b f) : b < w.heap.size := by obtain ⟨D, h, _⟩ := h; exact h.lt
theorem Mp.isMap (h : Mp P k w b f) : ∃ es clock, w.heap[b]? = some (.map es clock) := by obtain ⟨D, ⟨es, clock, h, _⟩, _⟩ := h; exact ⟨es, clock, h⟩
theorem Mp.of_block (h : Mp P k w b f) (hb : w'.heap[b]? = w.heap[b]?) : Mp P k w' b f := by
  obtain ⟨D, ⟨es, clock, h1, r⟩, S⟩ := h
  exact ⟨D, ⟨es, clock, hb.trans h1, r⟩, S⟩
theorem Mp.new (w : World) : Mp P k (w.alloc (.map #[] 0)) w.heap.size (fun _ => none) :=
  ⟨.map [], World.ownsMap_made _ _ _ _, fun _ => ⟨fun _ => rfl, rfl⟩⟩
theorem ownsMap_size {D : DataW Value} {n : Nat} (h : w.ownsMap P k asIs b n D) : w.ownsMap P k asIs b (Maps.size D) D := by
  obtain ⟨es, clock, h1, F, hs, rfl⟩ := h
  exact ⟨es, clock, h1, F, by simp [Maps.size, length_sorted], rfl⟩

/-- 'm[i]' -/
theorem Mp.look (h : Mp P k w b f) (hk : P.underlying k = some (.int .i64)) (ht : P.underlying t = some (.map k e)) {z : Value} (hz : (zeroValue e).run P w = .ok z w) {i : Int} (hw : (Lit.int .i64 i).wf = true) :
    (Instr.lookup t (.map (some b)) (.int .i64 i) false).run P w = .ok ((f i).getD z) w := by
  obtain ⟨D, h, S⟩ := h
  obtain ⟨v, ps, hrun, hv⟩ := h.lookup (int_keyed hk) ht hz (zd := .held z) (zp := []) rfl (keyOf_int_mk hk hw)
  rw [hrun]
  simp only [asIs, Option.some.injEq, Prod.mk.injEq] at hv
  rw [held_inj (hv.1.trans ((S i).1 z))]
/-- 'm[i]' with ok -/
theorem Mp.look_ok (h : Mp P k w b f) (hk : P.underlying k = some (.int .i64)) (ht : P.underlying t = some (.map k e)) {z : Value} (hz : (zeroValue e).run P w = .ok z w) {i : Int} (hw : (Lit.int .i64 i).wf = true) :
    (Instr.lookup t (.map (some b)) (.int .i64 i) true).run P w = .ok (.tuple #[(f i).getD z, .bool (f i).isSome]) w := by
  obtain ⟨D, h, S⟩ := h
  obtain ⟨v, ps, hrun, hv⟩ := h.look_ok (int_keyed hk) ht hz (zd := .held z) (zp := []) rfl (keyOf_int_mk hk hw)
  rw [hrun, (S i).2]
  simp only [asIs, Option.some.injEq, Prod.mk.injEq] at hv
  rw [held_inj (hv.1.trans ((S i).1 z))]

theorem isKey (i : Int) : WideAt.IsKeyLit (.int .i64 i) := by first | trivial | exact True.intro | simp [WideAt.IsKeyLit]
theorem Sees.put {D : DataW Value} (hD : Maps.IsMap D) (S : Sees D f) (i : Int) (v : Value) : Sees (D.put (.int .i64 i) (.held v)) (upd f i v) := by
  intro z
  by_cases h : z = i
  · subst h
    rw [upd_same]
    exact ⟨fun u => by rw [atKey_put_same hD (isKey z)]; rfl, by rw [has_put_same hD (isKey z)]; rfl⟩
  · rw [upd_other f h]
    exact ⟨fun u => by rw [atKey_put_other (lit_ne h)]; exact (S z).1 u, by rw [has_put_other (lit_ne h)]; exact (S z).2⟩

/-- entries whose keys are apart and lie in 0 .. N-1 are at most N -/
theorem length_le_of_keys : ∀ (N : Nat) (es : List (Lit × DataW Value)), es.Pairwise (fun p q => p.1 ≠ q.1) → (∀ p ∈ es, ∃ z : Int, p.1 = .int .i64 z ∧ 0 ≤ z ∧ z < N) → es.length ≤ N
  | 0, es, _, h => by
    cases es with
    | nil => simp
    | cons x r =>
      obtain ⟨z, _, h1, h2⟩ := h x (by simp)
      omega
  | N + 1, es, hp, h => by
    have ih := length_le_of_keys N (es.filter fun p => !p.1.sameKey (.int .i64 (N : Int))) (hp.filter _) (fun p hq => by
      obtain ⟨hq1, hq2⟩ := List.mem_filter.1 hq
      obtain ⟨z, e, h1, h2⟩ := h p hq1
      refine ⟨z, e, h1, ?_⟩
      by_cases e2 : z = (N : Int)
      · rw [e, e2, WideAt.sameKey_self (isKey _)] at hq2; cases hq2
      · omega)
    have := length_strike (k := .int .i64 (N : Int)) es hp
    split at this <;> omega

theorem ownsMap_keys {D : DataW Value} {n : Nat} (h : w.ownsMap P k asIs b n D) (hk : P.underlying k = some (.int .i64)) : ∃ es, D = .map es ∧ es.Pairwise (fun p q => p.1 ≠ q.1) ∧ ∀ p ∈ es, ∃ z : Int, p.1 = .int .i64 z ∧ (Lit.int .i64 z).wf = true := by
  obtain ⟨es, clock, _, F, _, rfl⟩ := h
  refine ⟨_, rfl, ((sorted_perm _).pairwise_iff (fun {_ _} hne => Ne.symm hne)).2 (Maps.fit_apart (int_keyed hk) F), fun p hp => ?_⟩
  obtain ⟨v, hv⟩ := Maps.fit_keys F p ((sorted_perm _).mem_iff.1 hp)
  obtain ⟨x, _, e, hw⟩ := keyOf_int_inv hk hv
  exact ⟨x, e, hw⟩

/-- 'm[i] = v': some world in which the map holds v at i; nothing else has turned -/
theorem Mp.store (h : Mp P k w b f) (hk : P.underlying k = some (.int .i64)) (ht : P.underlying t = some (.map k e)) {N : Nat} (hN : N < maxLen) (hf : ∀ z, (f z).isSome = true → 0 ≤ z ∧ z < N) {i : Int} (hw : (Lit.int .i64 i).wf = true) (v : Value) :
    ∃ w', (Instr.mapUpdate t (.map (some b)) (.int .i64 i) v).run P w = .ok () w' ∧ Mp P k w' b (upd f i v) ∧ w.grownBy w' (some b) ∧ w'.heap.size = w.heap.size := by
  obtain ⟨D, h, S⟩ := h
  have hle : Maps.size D ≤ N := by
    obtain ⟨es, rfl, hp, hz⟩ := ownsMap_keys h hk
    refine length_le_of_keys N es hp (fun p hp' => ?_)
    obtain ⟨z, e, _⟩ := hz p hp'
    refine ⟨z, e, hf z ?_⟩
    rw [← (S z).2]
    exact List.any_eq_true.2 ⟨p, hp', by rw [e]; exact WideAt.sameKey_self (isKey z)⟩
  obtain ⟨w', hrun, h', hg⟩ := h.store (int_keyed hk) ht (Nat.lt_of_le_of_lt hle hN) (keyOf_int_mk hk hw) (val := v) (d := .held v) (ps := []) rfl
  obtain ⟨es0, c0, es1, c1, hb0, rfl⟩ := id hg
  exact ⟨_, hrun, ⟨_, ownsMap_size h', S.put h.isMap i v⟩, hg.grown, by simp [ChangeMaps.setBlock]⟩

/-- 'clear(m)' -/
theorem Mp.clear (h : Mp P k w b f) (ht : P.underlying t = some (.map k e)) (ty : TypeId) :
    ∃ w', (Builtin.clear_ #[t] ty #[.map (some b)]).run P w = .ok (.tuple #[]) w' ∧ Mp P k w' b (fun _ => none) ∧ w.grownBy w' (some b) ∧ w'.heap.size = w.heap.size := by
  obtain ⟨D, ⟨es, clock, hb, F, hs, rfl⟩, S⟩ := h
  refine ⟨ChangeMaps.setBlock w b (.map #[] clock), ?_, ⟨.map [], ⟨#[], clock, ChangeMaps.heap_setBlock_same hb _, ⟨by simp, MapKept.stamped_empty clock, by simp⟩, Nat.le_refl _, rfl⟩, fun z => ⟨fun _ => rfl, rfl⟩⟩,
    ⟨rfl, rfl, rfl, by simp [ChangeMaps.setBlock], fun i _ hi => ChangeMaps.heap_setBlock_other hb _ (fun e => hi (by rw [e]))⟩, by simp [ChangeMaps.setBlock]⟩
  simp [Builtin.clear_, run_underlying ht, MapKept.run_getObj_map hb, MapKept.run_setObj_map _ hb, Result.andThen, ChangeMaps.setBlock]

/-- 'for i, v := range m' under way: left says which keys are still to come, cnt how many -/
def Rg (P : Program) (k : TypeId) (w : World) (b r : Nat) (f : Int → Option Value) (left : Int → Bool) (cnt : Nat) : Prop :=
  ∃ (D : DataW Value) (n : Nat) (L : Lit → Bool), w.ranges P k asIs b r n D L cnt ∧ Sees D f ∧ ∀ z, L (.int .i64 z) = left z

theorem Rg.mp {left : Int → Bool} {cnt : Nat} (h : Rg P k w b r f left cnt) : Mp P k w b f := by
  obtain ⟨D, n, L, h, S, _⟩ := h
  exact ⟨D, ownsMap_size h.owns, S⟩
theorem Rg.lt {left : Int → Bool} {cnt : Nat} (h : Rg P k w b r f left cnt) : r < w.heap.size := by obtain ⟨D, n, L, h, S, _⟩ := h; exact h.lt
theorem Rg.ne {left : Int → Bool} {cnt : Nat} (h : Rg P k w b r f left cnt) : r ≠ b := by obtain ⟨D, n, L, h, S, _⟩ := h; exact h.ne
theorem Rg.left_eq {left : Int → Bool} {cnt : Nat} (h : Rg P k w b r f left cnt) : w.rangeLeft b r = cnt := by obtain ⟨D, n, L, h, S, _⟩ := h; exact h.left_eq
theorem Rg.of_block {left : Int → Bool} {cnt : Nat} (h : Rg P k w b r f left cnt) (hb : w'.heap[b]? = w.heap[b]?) (hr : w'.heap[r]? = w.heap[r]?) : Rg P k w' b r f left cnt := by
  obtain ⟨D, n, L, ⟨es, clock, since, seen, c0, h1, h2, h3, h4, h5, rest⟩, S, l⟩ := h
  exact ⟨D, n, L, ⟨es, clock, since, seen, c0, hb.trans h1, h2, h3, h4, hr.trans h5, rest⟩, S, l⟩

/-- 'range m' -/
theorem Mp.range (h : Mp P k w b f) (hk : P.underlying k = some (.int .i64)) (ht : P.underlying t = some (.map k e)) :
    ∃ w' cnt, (Instr.range t (.map (some b))).run P w = .ok (.pointer (some ⟨w.heap.size, 0, none⟩)) w' ∧ Rg P k w' b w.heap.size f (fun z => (f z).isSome) cnt ∧ w.grownBy w' none ∧ w'.heap.size = w.heap.size + 1 := by
  obtain ⟨D, h, S⟩ := h
  obtain ⟨w', hrun, hr, hg, hs⟩ := h.range (int_keyed hk) ht
  exact ⟨w', _, hrun, ⟨D, _, _, hr, S, fun z => (S z).2⟩, hg, hs⟩

theorem sameKey_int (z x : Int) : (Lit.int .i64 z).sameKey (.int .i64 x) = decide (z = x) := by
  by_cases h : z = x
  · subst h; rw [WideAt.sameKey_self (isKey z)]; simp
  · rw [sameKey_ne (lit_ne h)]; simp [h]

/-- the step -/
theorem Rg.next {left : Int → Bool} {cnt : Nat} (h : Rg P k w b r f left cnt) (hk : P.underlying k = some (.int .i64)) (ty : TypeId) :
    (cnt = 0 ∧ (∀ z, left z = false) ∧ (Instr.next (.pointer (some ⟨r, 0, none⟩)) false ty).run P w = .ok (.tuple #[.bool false]) w) ∨
    ∃ (i : Int) (v : Value) (w' : World) (cnt' : Nat), left i = true ∧ f i = some v ∧ (Instr.next (.pointer (some ⟨r, 0, none⟩)) false ty).run P w = .ok (.tuple #[.bool true, .int .i64 i, v]) w' ∧
      Rg P k w' b r f (fun z => left z && !decide (z = i)) cnt' ∧ cnt' < cnt ∧ w.grownBy w' (some r) ∧ w'.heap.size = w.heap.size ∧ (Instr.entry (.pointer (some ⟨r, 0, none⟩))).run P w' = .ok (.tuple #[.int .i64 i, v]) w' := by
  obtain ⟨D, n, L, h, S, hL⟩ := h
  rcases h.next (int_keyed hk) ty with ⟨h0, hl, hrun⟩ | ⟨key, v, kl, y, w', cnt', hkey, hlk, hv, hat, hrun, hrg, hlt, hgr, hsz, hen⟩
  · exact .inl ⟨h0, fun z => by rw [← hL]; exact hl _, hrun⟩
  · obtain ⟨i, rfl, rfl, hw⟩ := keyOf_int_inv hk hkey
    simp only [asIs, Option.some.injEq] at hv
    subst hv
    have hf : f i = some v := by
      have hh : (f i).isSome = true := by rw [← (S i).2]; exact has_true_of_atKey hat
      obtain ⟨u, hu⟩ := Option.isSome_iff_exists.1 hh
      have := (S i).1 v
      rw [hat, hu] at this
      rw [hu, held_inj this]
      rfl
    exact .inr ⟨i, v, w', cnt', by rw [← hL]; exact hlk, hf, hrun, ⟨D, n, _, hrg, S, fun z => by simp only [hL, sameKey_int]⟩, hlt, hgr, hsz, hen⟩
end
end Go.Proofs.Ytnoolpgklenhaaa
