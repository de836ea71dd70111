/-
  Maps with keys of whatever type that is told by an encoding, seen as functions from keys to values; elements of whatever type. No program's own text in sight.
-/
import Derived.Test.YtblhijgjidfioaaBase
import Derived.Maps.RangeWalk
import Derived.Maps.OwnSet
namespace Go.Proofs.Ytblhijgjidfioaa
open Go.RowKit Go.Maps Go.WideShapes
open Go.WideElems (Fit rd rg rd_key rg_of)

/-- how keys of type k are told: enc as values, lit as data; ok: those that there are -/
structure Ke (P : Program) (k : TypeId) (α : Type) where
  enc : α → Value
  lit : α → Lit
  ok : α → Prop
  law : Keyed P k
  made : ∀ x, ok x → keyOf P k (enc x) = some (lit x)
  inv : ∀ v l, keyOf P k v = some l → ∃ x, ok x ∧ v = enc x ∧ l = lit x
  inj : ∀ x y, ok x → ok y → lit x = lit y → x = y

/-- an element reads as itself -/
def asIs (v : Value) : Option (DataW Value × List MemPlace) := some (.held v, [])
theorem held_inj {a b : Value} (h : (DataW.held a : DataW Value) = .held b) : a = b := by cases h; rfl

section
variable {P : Program} {k t e : TypeId} {α : Type} {E : Ke P k α} {w w' : World} {b r n : Nat} {f : α → Option Value}

/-- what a datum of a map holds at each key -/
def Sees (E : Ke P k α) (D : DataW Value) (f : α → Option Value) : Prop :=
  ∀ z, E.ok z → (∀ v, D.atKey (E.lit z) (.held v) = .held ((f z).getD v)) ∧ Maps.has D (E.lit z) = (f z).isSome
/-- Block b is a map of n entries; f says what it holds at which key. -/
def Mk (E : Ke P k α) (w : World) (b n : Nat) (f : α → Option Value) : Prop :=
  ∃ D : DataW Value, w.ownsMap P k asIs b (Maps.size D) D ∧ Maps.size D = n ∧ Sees E D f

theorem Ke.isKey (E : Ke P k α) {z : α} (h : E.ok z) : WideAt.IsKeyLit (E.lit z) := E.law.key (E.made z h)
theorem Ke.lit_ne (E : Ke P k α) {z i : α} (hz : E.ok z) (hi : E.ok i) (h : z ≠ i) : E.lit z ≠ E.lit i := fun e => h (E.inj z i hz hi e)

theorem Mk.lt (h : Mk E w b n f) : b < w.heap.size := by obtain ⟨D, h, _⟩ := h; exact h.lt
theorem Mk.isMap (h : Mk E w b n f) : ∃ es clock, w.heap[b]? = some (.map es clock) := by obtain ⟨D, ⟨es, clock, h, _⟩, _⟩ := h; exact ⟨es, clock, h⟩
theorem Mk.of_block (h : Mk E w b n f) (hb : w'.heap[b]? = w.heap[b]?) : Mk E w' b n f := by
  obtain ⟨D, ⟨es, clock, h1, r⟩, S⟩ := h
  exact ⟨D, ⟨es, clock, hb.trans h1, r⟩, S⟩
theorem Mk.held (h : Mk E w b n f) (hb : Below w.heap.size w w') : Mk E w' b n f := h.of_block (hb.block _ h.lt)
theorem Mk.new (E : Ke P k α) (w : World) : Mk E (w.alloc (.map #[] 0)) w.heap.size 0 (fun _ => none) :=
  ⟨.map [], World.ownsMap_made _ _ _ _, rfl, fun _ _ => ⟨fun _ => rfl, rfl⟩⟩
theorem ownsMap_size {D : DataW Value} {n : Nat} (h : w.ownsMap P k asIs b n D) : w.ownsMap P k asIs b (Maps.size D) D := by
  obtain ⟨es, clock, h1, F, hs, rfl⟩ := h
  exact ⟨es, clock, h1, F, by simp [Maps.size, length_sorted], rfl⟩

/-- 'm[i]' -/
theorem Mk.look (h : Mk E w b n f) (ht : P.underlying t = some (.map k e)) {z : Value} (hz : (zeroValue e).run P w = .ok z w) {i : α} (hw : E.ok i) :
    (Instr.lookup t (.map (some b)) (E.enc i) false).run P w = .ok ((f i).getD z) w := by
  obtain ⟨D, h, -, S⟩ := h
  obtain ⟨v, ps, hrun, hv⟩ := h.lookup E.law ht hz (zd := .held z) (zp := []) rfl (E.made i hw)
  rw [hrun]
  simp only [asIs, Option.some.injEq, Prod.mk.injEq] at hv
  rw [held_inj (hv.1.trans ((S i hw).1 z))]
/-- 'm[i]' with ok -/
theorem Mk.look_ok (h : Mk E w b n f) (ht : P.underlying t = some (.map k e)) {z : Value} (hz : (zeroValue e).run P w = .ok z w) {i : α} (hw : E.ok i) :
    (Instr.lookup t (.map (some b)) (E.enc i) true).run P w = .ok (.tuple #[(f i).getD z, .bool (f i).isSome]) w := by
  obtain ⟨D, h, -, S⟩ := h
  obtain ⟨v, ps, hrun, hv⟩ := h.look_ok E.law ht hz (zd := .held z) (zp := []) rfl (E.made i hw)
  rw [hrun, (S i hw).2]
  simp only [asIs, Option.some.injEq, Prod.mk.injEq] at hv
  rw [held_inj (hv.1.trans ((S i hw).1 z))]
/-- 'm[i]' with ok, of the nil map -/
theorem look_ok_nil (ht : P.underlying t = some (.map k e)) {z : Value} (hz : (zeroValue e).run P w = .ok z w) {i : α} (hw : E.ok i) :
    (Instr.lookup t (.map none) (E.enc i) true).run P w = .ok (.tuple #[z, .bool false]) w := by
  have h := Maps.look_nil true E.law ht hz (E.made i hw)
  simpa using h
/-- 'len(m)' -/
theorem Mk.len (h : Mk E w b n f) (ht : P.underlying t = some (.map k e)) (ty : TypeId) : (Builtin.len_ #[t] ty #[.map (some b)]).run P w = .ok (.int .i64 (n : Int)) w := by
  obtain ⟨D, h, rfl, -⟩ := h
  exact h.len ht ty

section
variable [DecidableEq α]
/-- f with v at key i -/
def upd (f : α → Option Value) (i : α) (v : Value) : α → Option Value := fun z => if z = i then some v else f z
theorem upd_same (f : α → Option Value) (i : α) (v : Value) : upd f i v i = some v := by simp [upd]
theorem upd_other (f : α → Option Value) {i z : α} (h : z ≠ i) (v : Value) : upd f i v z = f z := by simp [upd, h]

theorem Sees.put {D : DataW Value} (hD : Maps.IsMap D) (S : Sees E D f) {i : α} (hi : E.ok i) (v : Value) : Sees E (D.put (E.lit i) (.held v)) (upd f i v) := by
  intro z hz
  by_cases h : z = i
  · subst h
    rw [upd_same]
    exact ⟨fun u => by rw [atKey_put_same hD (E.isKey hz)]; rfl, by rw [has_put_same hD (E.isKey hz)]; rfl⟩
  · rw [upd_other f h]
    exact ⟨fun u => by rw [atKey_put_other (E.lit_ne hz hi h)]; exact (S z hz).1 u, by rw [has_put_other (E.lit_ne hz hi h)]; exact (S z hz).2⟩

/-- 'm[i] = v': some world in which the map holds v at i; nothing else has turned -/
theorem Mk.store (h : Mk E w b n f) (ht : P.underlying t = some (.map k e)) (hN : n < maxLen) {i : α} (hw : E.ok i) (v : Value) :
    ∃ w', (Instr.mapUpdate t (.map (some b)) (E.enc i) v).run P w = .ok () w' ∧ Mk E w' b (if (f i).isSome then n else n + 1) (upd f i v) ∧ w.grownBy w' (some b) ∧ w'.heap.size = w.heap.size := by
  obtain ⟨D, h, hn, S⟩ := h
  obtain ⟨w', hrun, h', hg⟩ := h.store E.law ht (by omega) (E.made i hw) (val := v) (d := .held v) (ps := []) rfl
  have hsz : Maps.size (D.put (E.lit i) (.held v)) = if (f i).isSome then n else n + 1 := by
    rw [← (S i hw).2, Maps.size_put (h.tidy E.law), hn]
  obtain ⟨es0, c0, es1, c1, hb0, rfl⟩ := id hg
  exact ⟨_, hrun, ⟨_, ownsMap_size h', hsz, S.put h.isMap hw v⟩, hg.grown, by simp [ChangeMaps.setBlock]⟩

end

/-! ### the keys of a map, one behind the other -/
/-- 'for i, v := range m' under way: left says which keys are still to come, cnt how many -/
def Rg (E : Ke P k α) (w : World) (b r n : Nat) (f : α → Option Value) (left : α → Bool) (cnt : Nat) : Prop :=
  ∃ (D : DataW Value) (m : Nat) (L : Lit → Bool), w.ranges P k asIs b r m D L cnt ∧ Maps.size D = n ∧ Sees E D f ∧ ∀ z, E.ok z → L (E.lit z) = left z
theorem Rg.map {left : α → Bool} {cnt : Nat} (h : Rg E w b r n f left cnt) : Mk E w b n f := by
  obtain ⟨D, m, L, h, hn, S, _⟩ := h
  exact ⟨D, ownsMap_size h.owns, hn, S⟩
theorem Rg.lt {left : α → Bool} {cnt : Nat} (h : Rg E w b r n f left cnt) : r < w.heap.size := by obtain ⟨D, n, L, h, S, _⟩ := h; exact h.lt
theorem Rg.ne {left : α → Bool} {cnt : Nat} (h : Rg E w b r n f left cnt) : r ≠ b := by obtain ⟨D, n, L, h, S, _⟩ := h; exact h.ne
theorem Rg.left_eq {left : α → Bool} {cnt : Nat} (h : Rg E w b r n f left cnt) : w.rangeLeft b r = cnt := by obtain ⟨D, n, L, h, S, _⟩ := h; exact h.left_eq
theorem Rg.of_block {left : α → Bool} {cnt : Nat} (h : Rg E w b r n f left cnt) (hb : w'.heap[b]? = w.heap[b]?) (hr : w'.heap[r]? = w.heap[r]?) : Rg E w' b r n f left cnt := by
  obtain ⟨D, n, L, ⟨es, clock, since, seen, c0, h1, h2, h3, h4, h5, rest⟩, S, l⟩ := h
  exact ⟨D, n, L, ⟨es, clock, since, seen, c0, hb.trans h1, h2, h3, h4, hr.trans h5, rest⟩, S, l⟩

/-- 'range m' -/
theorem Mk.range (h : Mk E w b n f) (ht : P.underlying t = some (.map k e)) :
    ∃ w', (Instr.range t (.map (some b))).run P w = .ok (.pointer (some ⟨w.heap.size, 0, none⟩)) w' ∧ Rg E w' b w.heap.size n f (fun z => (f z).isSome) n ∧ w.grownBy w' none ∧ w'.heap.size = w.heap.size + 1 := by
  obtain ⟨D, h, rfl, S⟩ := h
  obtain ⟨w', hrun, hr, hg, hs⟩ := h.range E.law ht
  exact ⟨w', hrun, ⟨D, _, _, hr, rfl, S, fun z hz => (S z hz).2⟩, hg, hs⟩

section
variable [DecidableEq α]
theorem Ke.sameKey (E : Ke P k α) {z i : α} (hz : E.ok z) (hi : E.ok i) : (E.lit z).sameKey (E.lit i) = decide (z = i) := by
  by_cases h : z = i
  · subst h; rw [WideAt.sameKey_self (E.isKey hz)]; simp
  · rw [sameKey_ne (E.lit_ne hz hi h)]; simp [h]

/-- the step -/
theorem Rg.next {left : α → Bool} {cnt : Nat} (h : Rg E w b r n f left cnt) (ty : TypeId) :
    (cnt = 0 ∧ (∀ z, E.ok z → left z = false) ∧ (Instr.next (.pointer (some ⟨r, 0, none⟩)) false ty).run P w = .ok (.tuple #[.bool false]) w) ∨
    ∃ (i : α) (v : Value) (w' : World) (cnt' : Nat), E.ok i ∧ left i = true ∧ f i = some v ∧ (Instr.next (.pointer (some ⟨r, 0, none⟩)) false ty).run P w = .ok (.tuple #[.bool true, E.enc i, v]) w' ∧
      Rg E w' b r n f (fun z => left z && !decide (z = i)) cnt' ∧ cnt' < cnt ∧ w.grownBy w' (some r) ∧ w'.heap.size = w.heap.size ∧ (Instr.entry (.pointer (some ⟨r, 0, none⟩))).run P w' = .ok (.tuple #[E.enc i, v]) w' := by
  obtain ⟨D, m, L, h, hn, S, hL⟩ := h
  rcases h.next E.law ty with ⟨h0, hl, hrun⟩ | ⟨key, v, kl, y, w', cnt', hkey, hlk, hv, hat, hrun, hrg, hlt, hgr, hsz, hen⟩
  · exact .inl ⟨h0, fun z hz => by rw [← hL z hz]; exact hl _, hrun⟩
  · obtain ⟨i, hi, rfl, rfl⟩ := E.inv _ _ hkey
    simp only [asIs, Option.some.injEq] at hv
    subst hv
    have hf : f i = some v := by
      have hh : (f i).isSome = true := by rw [← (S i hi).2]; exact has_true_of_atKey hat
      obtain ⟨u, hu⟩ := Option.isSome_iff_exists.1 hh
      have := (S i hi).1 v
      rw [hat, hu] at this
      rw [hu, held_inj this]
      rfl
    exact .inr ⟨i, v, w', cnt', hi, by rw [← hL i hi]; exact hlk, hf, hrun, ⟨D, m, _, hrg, hn, S, fun z hz => by simp only [hL z hz, E.sameKey hz hi]⟩, hlt, hgr, hsz, hen⟩
end
end
end Go.Proofs.Ytblhijgjidfioaa
