/-
  What all laws share: a call that answers true and turns nothing that was there leaves every argument readable as it was. No program's own text in sight.
  Small facts on worlds that all walks of this seat share. No program's own text in sight.
  Worlds that differ in few blocks; cells that are written one behind the other. No program's own text in sight.
  Maps with keys of whatever type that is told by an encoding, seen as functions from keys to values; elements of whatever type. No program's own text in sight.
  Package state's maps: their keys.
  The order of numbers, and what cmp's functions answer of them.
  cmp.Compare at uint32.
  cmp.Compare at uint16.
  cmp.Or of two ints.
  The contracts of package dist's Compare and Lost, and of the statement's own Better.
  Package state: a state in memory, and the contracts of its small calls.
-/
import Derived.WalkKit
import Derived.ProofKit
import Derived.OpenShut
import Derived.Carry
import Derived.WalkSpells
import Derived.WalkLawsBesides
import Derived.Lib.Hide
import Derived.Outline
import Derived.Deep.QuietTactic
import Derived.BigQuiet
import Derived.Deep.RegionWith
import Derived.Deep.RegionHeld3
import Derived.Laws.IdiomStrings
import Derived.Deep.MidRow
import Derived.Maps.RangeWalk
import Derived.Maps.OwnSet
import Derived.Test.YtpgcnjoodoabhaaGreatProg
import Derived.DeepKeys4
import Derived.BigRegion
namespace Go.Proofs.YtpgcnjoodoabhaaGreat
open Go.ChangeShapes Go.WideShapes Go.ChangeAt Go.RowKit

section
variable {H : Type} {enc : TypeId × Value → H} {P : Program}
/-- Arguments read in a later world as they did, if nothing that was there has turned. -/
theorem trodAll_keep (hl : laidOutB P = true) {W W' : World} (hb : Below W.heap.size W W') {sp : Nat → Bool} :
    ∀ {ts : List TypeId} {vs : List Value} {ds : List (DataW H)} {ps : List MemPlace}, (∀ t ∈ ts, P.readableRec t = true ∧ t < P.types.size) →
      DataW.TrodAll enc P W 0 (fun _ => true) true ts vs ds ps → (∀ x ∈ ps, x.block < W.heap.size) → (∀ x ∈ ps, sp x.block = true) → DataW.TrodAll enc P W' 0 sp true ts vs ds ps
  | [], vs, ds, ps, _, h, _, _ => by
    obtain ⟨rfl, rfl, rfl⟩ := trodAll_nil h
    exact trodAll_mk0
  | t :: ts, vs, ds, ps, hr, h, hlt, hs => by
    obtain ⟨v, vs', d, ds', p, q, rfl, rfl, rfl, h0, h1⟩ := trodAll_cons h
    have r := hr t (List.mem_cons_self ..)
    exact trodAll_cons_mk (WideElems.Trod_stays hl r.1 r.2 h0 (fun x hx => hb.same (hlt x (List.mem_append_left _ hx))) (fun x hx => hs x (List.mem_append_left _ hx)))
      (trodAll_keep hl hb (fun u hu => hr u (List.mem_cons_of_mem _ hu)) h1 (fun x hx => hlt x (List.mem_append_right _ hx)) (fun x hx => hs x (List.mem_append_right _ hx)))

/-- The row's end of a law: it answered true, and nothing that was there has turned. -/
theorem law_post {f : Func} {s : ChangeSpec} {tb : TypeId} (hl : laidOutB P = true) (hr : ∀ t ∈ f.params.toList, P.readableRec t = true ∧ t < P.types.size)
    (hres : f.resultTypes = #[tb]) (htb : P.underlying tb = some .bool) {W W' : World} {args : Array Value} {ds gs : List (DataW H)} {before : List MemPlace}
    (hvars : s.vars = []) (hfn : s.fn H ds = { results := [.lit (.bool true)], args := ds })
    (hW : DataW.Whole enc P f.params.toList s.vars false W args.toList ds gs before) (hb : Below W.heap.size W W') :
    s.post enc P f false true false false W args (.bool true) W' := by
  have hlt : ∀ p ∈ before, p.block < W.heap.size := fun p hp => hW.lt p hp
  have hW0 := hW
  obtain ⟨p, q, hA, hV, hpq, hz, _⟩ := hW
  rw [hvars] at hV
  obtain ⟨rfl, rfl⟩ := trodVars_none hV
  simp only [List.append_nil] at hpq
  subst hpq
  refine ⟨ds, [], before, [], before, [], hW0, ?_, ?_, ?_, World.keptBut_mono (fun x hx => ⟨hx, .inr (.inl hx)⟩) (hb.frame (· ∈ before)), fun h => by cases h⟩
  · rw [List.append_nil, hfn, hres]
    exact trodAll_mk1 (shut_bool htb _)
  · rw [List.append_nil, hfn]
    exact trodAll_keep hl hb hr hA hlt (fun x hx => by simpa using hlt x hx)
  · rw [List.append_nil, hfn, hvars]
    exact rfl
end
end Go.Proofs.YtpgcnjoodoabhaaGreat

namespace Go.Proofs.YtpgcnjoodoabhaaGreat
open Go.RowKit

theorem ret_int {k : IntKind} {a b : Int} (h : a = b) : Ending.returned (.int k a) = .returned (.int k b) := by rw [h]
theorem ret_bool {a b : Bool} (h : a = b) : Ending.returned (.bool a) = .returned (.bool b) := by rw [h]
theorem ret_string {a b : ByteArray} (h : a = b) : Ending.returned (.string a) = .returned (.string b) := by rw [h]

/-- a cell that can be read lies in a block that is there -/
theorem cell_lt {W : World} {a : Addr} {v : Value} (h : W.cell? a = some v) : a.block < W.heap.size := by
  rcases Nat.lt_or_ge a.block W.heap.size with h' | h'
  · exact h'
  · simp [World.cell?, Array.getElem?_eq_none h'] at h
/-- a cell that was there is there behind a call that turns nothing old -/
theorem held {W w1 : World} (hb : Below W.heap.size W w1) {a : Addr} {v : Value} (h : W.cell? a = some v) : w1.cell? a = some v := (hb.cell (cell_lt h)).trans h
theorem next {w w2 w3 : World} (h : Below w.heap.size w w2) (k : Below w2.heap.size w2 w3) : Below w.heap.size w w3 := h.trans (k.mono h.size)
theorem below_new (w : World) (o : Obj) : Below w.heap.size w (w.alloc o) := (Below.refl _ _).alloc (Nat.le_refl _) _
theorem drewN_below {B : Nat} {a w : World} (h : Below B a w) (n : Nat) : Below B a (w.drewN n) := ⟨h.os, h.tape, h.output, h.size, h.block⟩
theorem size_new (w : World) (o : Obj) : (w.alloc o).heap.size = w.heap.size + 1 := by simp
theorem new_cell (w : World) (C : Array Value) (t : TypeId) (j : Nat) : (w.alloc (.cells C t)).cell? ⟨w.heap.size, j, none⟩ = C[j]? := World.cell?_alloc_mark w C t (0, 0) j
theorem add_block (a : Addr) (n : Nat) : (a.add n).block = a.block := by unfold Addr.add; split <;> rfl

/-- The block g is just these cells of type t, none of them frozen. -/
def Blk (t : TypeId) (w : World) (g : Nat) (cs : Array Value) : Prop := w.heap[g]? = some (.cells cs t (0, 0))
section
variable {t : TypeId} {w w' : World} {g : Nat} {cs : Array Value}
theorem Blk.at_ (h : Blk t w g cs) (i : Nat) : w.cell? ⟨g, i, none⟩ = cs[i]? := by unfold Blk at h; simp [World.cell?, h]
theorem Blk.free (h : Blk t w g cs) (i : Nat) : w.frozen? ⟨g, i, none⟩ = false := by unfold Blk at h; simp [World.frozen?, h]
theorem Blk.lt (h : Blk t w g cs) : g < w.heap.size := by
  rcases Nat.lt_or_ge g w.heap.size with h' | h'
  · exact h'
  · unfold Blk at h; rw [Array.getElem?_eq_none h'] at h; cases h
theorem Blk.held (h : Blk t w g cs) (hb : Below w.heap.size w w') : Blk t w' g cs := (hb.block g h.lt).trans h
theorem Blk.new (w : World) (t : TypeId) (cs : Array Value) : Blk t (w.alloc (.cells cs t)) w.heap.size cs := heap_alloc_new w _
theorem Blk.drew (h : Blk t w g cs) : Blk t w.drew g cs := h
theorem Blk.store (h : Blk t w g cs) (i : Nat) (u : Value) : Blk t (w.setCell ⟨g, i, none⟩ u) g (cs.setIfInBounds i u) := by
  unfold Blk at h ⊢
  simp [World.setCell, Array.getElem?_modify, h]
theorem Blk.away (h : Blk t w g cs) {p : Addr} (hp : g ≠ p.block) (u : Value) : Blk t (w.setCell p u) g cs := (Below.heap_setCell w p u g hp).trans h
theorem Blk.more (h : Blk t w g cs) (o : Obj) : Blk t (w.alloc o) g cs := h.held (below_new w o)
end
end Go.Proofs.YtpgcnjoodoabhaaGreat

namespace Go.Proofs.YtpgcnjoodoabhaaGreat
open Go.RowKit

theorem int_wf {i : Int} (h1 : -9223372036854775808 ≤ i) (h2 : i ≤ 9223372036854775807) : (Lit.int .i64 i).wf = true := by
  have e1 : IntKind.i64.min = -9223372036854775808 := rfl
  have e2 : IntKind.i64.max = 9223372036854775807 := rfl
  simp only [Lit.wf, Bool.and_eq_true, decide_eq_true_eq]
  omega

/-! ### worlds that differ in few blocks -/
/-- w' is w but for the blocks in L, and for new ones. -/
structure Turn (L : List Nat) (w w' : World) : Prop where
  os : w'.os = w.os
  tape : w'.tape = w.tape
  output : w'.output = w.output
  size : w.heap.size ≤ w'.heap.size
  block : ∀ i, i < w.heap.size → i ∉ L → w'.heap[i]? = w.heap[i]?
section
variable {L : List Nat} {w w' w2 : World}
theorem Turn.refl (L : List Nat) (w : World) : Turn L w w := ⟨rfl, rfl, rfl, Nat.le_refl _, fun _ _ _ => rfl⟩
theorem Turn.trans (h : Turn L w w') (k : Turn L w' w2) : Turn L w w2 :=
  ⟨k.os.trans h.os, k.tape.trans h.tape, k.output.trans h.output, Nat.le_trans h.size k.size, fun i hi hn => (k.block i (Nat.lt_of_lt_of_le hi h.size) hn).trans (h.block i hi hn)⟩
theorem Turn.of_below (L : List Nat) (h : Below w.heap.size w w') : Turn L w w' := ⟨h.os, h.tape, h.output, h.size, fun i hi _ => h.block i hi⟩
theorem Turn.and_below (h : Turn L w w') (k : Below w'.heap.size w' w2) : Turn L w w2 := h.trans (.of_below L k)
theorem Turn.of_grown {b : Nat} (h : w.grownBy w' (some b)) (hb : b ∈ L) : Turn L w w' := ⟨h.os, h.tape, h.output, h.size, fun i hi hn => h.block i hi (fun e => hn (by cases e; exact hb))⟩
theorem Turn.below {B : Nat} (h : Turn L w w') (hL : ∀ i, i ∈ L → B ≤ i) (hB : B ≤ w.heap.size) : Below B w w' :=
  ⟨h.os, h.tape, h.output, h.size, fun i hi => h.block i (by omega) (fun hm => by have := hL i hm; omega)⟩
theorem Turn.mono {L' : List Nat} (h : Turn L w w') (hL : ∀ i, i ∈ L → i ∈ L') : Turn L' w w' := ⟨h.os, h.tape, h.output, h.size, fun i hi hn => h.block i hi (fun hm => hn (hL i hm))⟩
theorem Turn.setCell (w : World) {p : Addr} (hp : p.block ∈ L) (u : Value) : Turn L w (w.setCell p u) :=
  ⟨rfl, rfl, rfl, by simp [World.setCell], fun i _ hn => Below.heap_setCell _ _ _ _ (fun e => hn (e ▸ hp))⟩
theorem Turn.alloc (h : Turn L w w') (o : Obj) : Turn L w (w'.alloc o) := h.and_below (below_new _ _)
theorem Turn.drew (h : Turn L w w') : Turn L w w'.drew := ⟨h.os, h.tape, h.output, h.size, h.block⟩
theorem Turn.fresh {g : Nat} (h : Turn L w w') (k : Turn [g] w' w2) (hg : w.heap.size ≤ g) : Turn L w w2 :=
  ⟨k.os.trans h.os, k.tape.trans h.tape, k.output.trans h.output, Nat.le_trans h.size k.size, fun i hi hn => (k.block i (Nat.lt_of_lt_of_le hi h.size) (by simp; omega)).trans (h.block i hi hn)⟩
theorem Turn.cell (h : Turn L w w') {a : Addr} {v : Value} (hc : w.cell? a = some v) (ha : a.block ∉ L) : w'.cell? a = some v := by
  rw [World.cell?_of_block (h.block _ (cell_lt hc) ha)]; exact hc
theorem Blk.turn {t : TypeId} {g : Nat} {cs : Array Value} (k : Blk t w g cs) (h : Turn L w w') (hg : g ∉ L) : Blk t w' g cs := (h.block g k.lt hg).trans k
end
theorem setCells_heap (b : Nat) : ∀ (vs : List Value) (o : Nat) (w : World) (i : Nat), i ≠ b → (w.setCells b o vs).heap[i]? = w.heap[i]?
  | [], _, _, _, _ => rfl
  | v :: r, o, w, i, h => by
    rw [World.setCells, setCells_heap b r (o + 1) _ i h]
    exact Below.heap_setCell _ _ _ _ h
theorem setCells_size (b : Nat) : ∀ (vs : List Value) (o : Nat) (w : World), (w.setCells b o vs).heap.size = w.heap.size
  | [], _, _ => rfl
  | v :: r, o, w => by rw [World.setCells, setCells_size b r]; simp [World.setCell]
theorem setCells_rest (b : Nat) : ∀ (vs : List Value) (o : Nat) (w : World), (w.setCells b o vs).os = w.os ∧ (w.setCells b o vs).tape = w.tape ∧ (w.setCells b o vs).output = w.output
  | [], _, _ => ⟨rfl, rfl, rfl⟩
  | v :: r, o, w => by rw [World.setCells]; exact setCells_rest b r (o + 1) _
theorem Turn.setCells {L : List Nat} (w : World) {b : Nat} (hb : b ∈ L) (o : Nat) (vs : List Value) : Turn L w (w.setCells b o vs) :=
  ⟨(setCells_rest b vs o w).1, (setCells_rest b vs o w).2.1, (setCells_rest b vs o w).2.2, by rw [setCells_size]; exact Nat.le_refl _, fun i _ hn => setCells_heap b vs o w i (fun e => hn (e ▸ hb))⟩
/-- the cells of block b, with vs laid over those from o on -/
def over (C : Array Value) (o : Nat) : List Value → Array Value
  | [] => C
  | v :: r => over (C.setIfInBounds o v) (o + 1) r
theorem over_size : ∀ (vs : List Value) (C : Array Value) (o : Nat), (over C o vs).size = C.size
  | [], _, _ => rfl
  | v :: r, C, o => by rw [over, over_size r]; simp
theorem over_get : ∀ (vs : List Value) (C : Array Value) (o : Nat), o + vs.length ≤ C.size → ∀ k : Nat, (over C o vs)[k]? = if o ≤ k ∧ k < o + vs.length then vs[k - o]? else C[k]?
  | [], C, o, _, k => by rw [over, if_neg (by simp)]
  | v :: r, C, o, h, k => by
    simp only [List.length_cons] at h
    rw [over, over_get r (C.setIfInBounds o v) (o + 1) (by simp; omega)]
    by_cases h1 : o + 1 ≤ k ∧ k < o + 1 + r.length
    · rw [if_pos h1, if_pos (by simp only [List.length_cons]; omega)]
      have e : k - o = k - (o + 1) + 1 := by omega
      rw [e, List.getElem?_cons_succ]
    · rw [if_neg h1, Array.getElem?_setIfInBounds]
      by_cases h2 : o = k
      · subst h2
        rw [if_pos rfl, if_pos (by omega), if_pos (by simp only [List.length_cons]; omega)]
        simp
      · rw [if_neg h2, if_neg (by simp only [List.length_cons]; omega)]
theorem Blk.setCells {t : TypeId} {b : Nat} : ∀ (vs : List Value) (o : Nat) (w : World) (C : Array Value), Blk t w b C → Blk t (w.setCells b o vs) b (over C o vs)
  | [], _, _, _, h => h
  | v :: r, o, w, C, h => by
    rw [World.setCells, over]
    exact Blk.setCells r (o + 1) _ _ (h.store o v)

/-- the cells of bytes -/
def sec (s : List UInt8) : List Value := s.map fun b => .int .u8 (b.toNat : Int)
theorem sec_length (s : List UInt8) : (sec s).length = s.length := by simp [sec]
theorem sec_get (s : List UInt8) (j : Nat) : (sec s)[j]? = (s[j]?).map fun b => .int .u8 (b.toNat : Int) := by simp [sec]
theorem sec_one (s : List UInt8) : ∀ v ∈ sec s, v.oneCell' = true := by
  intro v hv
  obtain ⟨b, _, rfl⟩ := List.mem_map.1 hv
  rfl
theorem sec_inj {s s' : List UInt8} (h : sec s = sec s') : s = s' := by
  induction s generalizing s' with
  | nil => cases s' <;> simp [sec] at h ⊢
  | cons a r ih =>
    cases s' with
    | nil => simp [sec] at h
    | cons b r' =>
      simp only [sec, List.map_cons, List.cons.injEq, Value.int.injEq] at h
      have e : a = b := UInt8.toNat_inj.1 (by omega)
      rw [e, ih h.2]
end Go.Proofs.YtpgcnjoodoabhaaGreat

namespace Go.Proofs.YtpgcnjoodoabhaaGreat
open Go.RowKit Go.Maps Go.WideShapes
open Go.WideElems (Fit rd rg rd_key rg_of)

/-- how keys of type k are told: enc as values, lit as data; ok: those that there are -/
structure Ke (P : Program) (k : TypeId) (α : Type) where
  enc : α → Value
  lit : α → Lit
  ok : α → Prop
  law : Keyed P k
  made : ∀ x, ok x → keyOf P k (enc x) = some (lit x)
  inv : ∀ v l, keyOf P k v = some l → ∃ x, ok x ∧ v = enc x ∧ l = lit x
  inj : ∀ x y, ok x → ok y → lit x = lit y → x = y

/-- an element reads as itself -/
def asIs (v : Value) : Option (DataW Value × List MemPlace) := some (.held v, [])
theorem held_inj {a b : Value} (h : (DataW.held a : DataW Value) = .held b) : a = b := by cases h; rfl

section
variable {P : Program} {k t e : TypeId} {α : Type} {E : Ke P k α} {w w' : World} {b r n : Nat} {f : α → Option Value}

/-- what a datum of a map holds at each key -/
def Sees (E : Ke P k α) (D : DataW Value) (f : α → Option Value) : Prop :=
  ∀ z, E.ok z → (∀ v, D.atKey (E.lit z) (.held v) = .held ((f z).getD v)) ∧ Maps.has D (E.lit z) = (f z).isSome
/-- Block b is a map of n entries; f says what it holds at which key. -/
def Mk (E : Ke P k α) (w : World) (b n : Nat) (f : α → Option Value) : Prop :=
  ∃ D : DataW Value, w.ownsMap P k asIs b (Maps.size D) D ∧ Maps.size D = n ∧ Sees E D f

theorem Ke.isKey (E : Ke P k α) {z : α} (h : E.ok z) : WideAt.IsKeyLit (E.lit z) := E.law.key (E.made z h)
theorem Ke.lit_ne (E : Ke P k α) {z i : α} (hz : E.ok z) (hi : E.ok i) (h : z ≠ i) : E.lit z ≠ E.lit i := fun e => h (E.inj z i hz hi e)

theorem Mk.lt (h : Mk E w b n f) : b < w.heap.size := by obtain ⟨D, h, _⟩ := h; exact h.lt
theorem Mk.isMap (h : Mk E w b n f) : ∃ es clock, w.heap[b]? = some (.map es clock) := by obtain ⟨D, ⟨es, clock, h, _⟩, _⟩ := h; exact ⟨es, clock, h⟩
theorem Mk.of_block (h : Mk E w b n f) (hb : w'.heap[b]? = w.heap[b]?) : Mk E w' b n f := by
  obtain ⟨D, ⟨es, clock, h1, r⟩, S⟩ := h
  exact ⟨D, ⟨es, clock, hb.trans h1, r⟩, S⟩
theorem Mk.held (h : Mk E w b n f) (hb : Below w.heap.size w w') : Mk E w' b n f := h.of_block (hb.block _ h.lt)
theorem Mk.new (E : Ke P k α) (w : World) : Mk E (w.alloc (.map #[] 0)) w.heap.size 0 (fun _ => none) :=
  ⟨.map [], World.ownsMap_made _ _ _ _, rfl, fun _ _ => ⟨fun _ => rfl, rfl⟩⟩
theorem ownsMap_size {D : DataW Value} {n : Nat} (h : w.ownsMap P k asIs b n D) : w.ownsMap P k asIs b (Maps.size D) D := by
  obtain ⟨es, clock, h1, F, hs, rfl⟩ := h
  exact ⟨es, clock, h1, F, by simp [Maps.size, length_sorted], rfl⟩

/-- 'm[i]' -/
theorem Mk.look (h : Mk E w b n f) (ht : P.underlying t = some (.map k e)) {z : Value} (hz : (zeroValue e).run P w = .ok z w) {i : α} (hw : E.ok i) :
    (Instr.lookup t (.map (some b)) (E.enc i) false).run P w = .ok ((f i).getD z) w := by
  obtain ⟨D, h, -, S⟩ := h
  obtain ⟨v, ps, hrun, hv⟩ := h.lookup E.law ht hz (zd := .held z) (zp := []) rfl (E.made i hw)
  rw [hrun]
  simp only [asIs, Option.some.injEq, Prod.mk.injEq] at hv
  rw [held_inj (hv.1.trans ((S i hw).1 z))]
/-- 'm[i]' with ok -/
theorem Mk.look_ok (h : Mk E w b n f) (ht : P.underlying t = some (.map k e)) {z : Value} (hz : (zeroValue e).run P w = .ok z w) {i : α} (hw : E.ok i) :
    (Instr.lookup t (.map (some b)) (E.enc i) true).run P w = .ok (.tuple #[(f i).getD z, .bool (f i).isSome]) w := by
  obtain ⟨D, h, -, S⟩ := h
  obtain ⟨v, ps, hrun, hv⟩ := h.look_ok E.law ht hz (zd := .held z) (zp := []) rfl (E.made i hw)
  rw [hrun, (S i hw).2]
  simp only [asIs, Option.some.injEq, Prod.mk.injEq] at hv
  rw [held_inj (hv.1.trans ((S i hw).1 z))]
/-- 'm[i]' with ok, of the nil map -/
theorem look_ok_nil (ht : P.underlying t = some (.map k e)) {z : Value} (hz : (zeroValue e).run P w = .ok z w) {i : α} (hw : E.ok i) :
    (Instr.lookup t (.map none) (E.enc i) true).run P w = .ok (.tuple #[z, .bool false]) w := by
  have h := Maps.look_nil true E.law ht hz (E.made i hw)
  simpa using h
/-- 'len(m)' -/
theorem Mk.len (h : Mk E w b n f) (ht : P.underlying t = some (.map k e)) (ty : TypeId) : (Builtin.len_ #[t] ty #[.map (some b)]).run P w = .ok (.int .i64 (n : Int)) w := by
  obtain ⟨D, h, rfl, -⟩ := h
  exact h.len ht ty

section
variable [DecidableEq α]
/-- f with v at key i -/
def upd (f : α → Option Value) (i : α) (v : Value) : α → Option Value := fun z => if z = i then some v else f z
theorem upd_same (f : α → Option Value) (i : α) (v : Value) : upd f i v i = some v := by simp [upd]
theorem upd_other (f : α → Option Value) {i z : α} (h : z ≠ i) (v : Value) : upd f i v z = f z := by simp [upd, h]

theorem Sees.put {D : DataW Value} (hD : Maps.IsMap D) (S : Sees E D f) {i : α} (hi : E.ok i) (v : Value) : Sees E (D.put (E.lit i) (.held v)) (upd f i v) := by
  intro z hz
  by_cases h : z = i
  · subst h
    rw [upd_same]
    exact ⟨fun u => by rw [atKey_put_same hD (E.isKey hz)]; rfl, by rw [has_put_same hD (E.isKey hz)]; rfl⟩
  · rw [upd_other f h]
    exact ⟨fun u => by rw [atKey_put_other (E.lit_ne hz hi h)]; exact (S z hz).1 u, by rw [has_put_other (E.lit_ne hz hi h)]; exact (S z hz).2⟩

/-- 'm[i] = v': some world in which the map holds v at i; nothing else has turned -/
theorem Mk.store (h : Mk E w b n f) (ht : P.underlying t = some (.map k e)) (hN : n < maxLen) {i : α} (hw : E.ok i) (v : Value) :
    ∃ w', (Instr.mapUpdate t (.map (some b)) (E.enc i) v).run P w = .ok () w' ∧ Mk E w' b (if (f i).isSome then n else n + 1) (upd f i v) ∧ w.grownBy w' (some b) ∧ w'.heap.size = w.heap.size := by
  obtain ⟨D, h, hn, S⟩ := h
  obtain ⟨w', hrun, h', hg⟩ := h.store E.law ht (by omega) (E.made i hw) (val := v) (d := .held v) (ps := []) rfl
  have hsz : Maps.size (D.put (E.lit i) (.held v)) = if (f i).isSome then n else n + 1 := by
    rw [← (S i hw).2, Maps.size_put (h.tidy E.law), hn]
  obtain ⟨es0, c0, es1, c1, hb0, rfl⟩ := id hg
  exact ⟨_, hrun, ⟨_, ownsMap_size h', hsz, S.put h.isMap hw v⟩, hg.grown, by simp [ChangeMaps.setBlock]⟩

end

/-! ### the keys of a map, one behind the other -/
/-- 'for i, v := range m' under way: left says which keys are still to come, cnt how many -/
def Rg (E : Ke P k α) (w : World) (b r n : Nat) (f : α → Option Value) (left : α → Bool) (cnt : Nat) : Prop :=
  ∃ (D : DataW Value) (m : Nat) (L : Lit → Bool), w.ranges P k asIs b r m D L cnt ∧ Maps.size D = n ∧ Sees E D f ∧ ∀ z, E.ok z → L (E.lit z) = left z
theorem Rg.map {left : α → Bool} {cnt : Nat} (h : Rg E w b r n f left cnt) : Mk E w b n f := by
  obtain ⟨D, m, L, h, hn, S, _⟩ := h
  exact ⟨D, ownsMap_size h.owns, hn, S⟩
theorem Rg.lt {left : α → Bool} {cnt : Nat} (h : Rg E w b r n f left cnt) : r < w.heap.size := by obtain ⟨D, n, L, h, S, _⟩ := h; exact h.lt
theorem Rg.ne {left : α → Bool} {cnt : Nat} (h : Rg E w b r n f left cnt) : r ≠ b := by obtain ⟨D, n, L, h, S, _⟩ := h; exact h.ne
theorem Rg.left_eq {left : α → Bool} {cnt : Nat} (h : Rg E w b r n f left cnt) : w.rangeLeft b r = cnt := by obtain ⟨D, n, L, h, S, _⟩ := h; exact h.left_eq
theorem Rg.of_block {left : α → Bool} {cnt : Nat} (h : Rg E w b r n f left cnt) (hb : w'.heap[b]? = w.heap[b]?) (hr : w'.heap[r]? = w.heap[r]?) : Rg E w' b r n f left cnt := by
  obtain ⟨D, n, L, ⟨es, clock, since, seen, c0, h1, h2, h3, h4, h5, rest⟩, S, l⟩ := h
  exact ⟨D, n, L, ⟨es, clock, since, seen, c0, hb.trans h1, h2, h3, h4, hr.trans h5, rest⟩, S, l⟩

/-- 'range m' -/
theorem Mk.range (h : Mk E w b n f) (ht : P.underlying t = some (.map k e)) :
    ∃ w', (Instr.range t (.map (some b))).run P w = .ok (.pointer (some ⟨w.heap.size, 0, none⟩)) w' ∧ Rg E w' b w.heap.size n f (fun z => (f z).isSome) n ∧ w.grownBy w' none ∧ w'.heap.size = w.heap.size + 1 := by
  obtain ⟨D, h, rfl, S⟩ := h
  obtain ⟨w', hrun, hr, hg, hs⟩ := h.range E.law ht
  exact ⟨w', hrun, ⟨D, _, _, hr, rfl, S, fun z hz => (S z hz).2⟩, hg, hs⟩

section
variable [DecidableEq α]
theorem Ke.sameKey (E : Ke P k α) {z i : α} (hz : E.ok z) (hi : E.ok i) : (E.lit z).sameKey (E.lit i) = decide (z = i) := by
  by_cases h : z = i
  · subst h; rw [WideAt.sameKey_self (E.isKey hz)]; simp
  · rw [sameKey_ne (E.lit_ne hz hi h)]; simp [h]

/-- the step -/
theorem Rg.next {left : α → Bool} {cnt : Nat} (h : Rg E w b r n f left cnt) (ty : TypeId) :
    (cnt = 0 ∧ (∀ z, E.ok z → left z = false) ∧ (Instr.next (.pointer (some ⟨r, 0, none⟩)) false ty).run P w = .ok (.tuple #[.bool false]) w) ∨
    ∃ (i : α) (v : Value) (w' : World) (cnt' : Nat), E.ok i ∧ left i = true ∧ f i = some v ∧ (Instr.next (.pointer (some ⟨r, 0, none⟩)) false ty).run P w = .ok (.tuple #[.bool true, E.enc i, v]) w' ∧
      Rg E w' b r n f (fun z => left z && !decide (z = i)) cnt' ∧ cnt' < cnt ∧ w.grownBy w' (some r) ∧ w'.heap.size = w.heap.size ∧ (Instr.entry (.pointer (some ⟨r, 0, none⟩))).run P w' = .ok (.tuple #[E.enc i, v]) w' := by
  obtain ⟨D, m, L, h, hn, S, hL⟩ := h
  rcases h.next E.law ty with ⟨h0, hl, hrun⟩ | ⟨key, v, kl, y, w', cnt', hkey, hlk, hv, hat, hrun, hrg, hlt, hgr, hsz, hen⟩
  · exact .inl ⟨h0, fun z hz => by rw [← hL z hz]; exact hl _, hrun⟩
  · obtain ⟨i, hi, rfl, rfl⟩ := E.inv _ _ hkey
    simp only [asIs, Option.some.injEq] at hv
    subst hv
    have hf : f i = some v := by
      have hh : (f i).isSome = true := by rw [← (S i hi).2]; exact has_true_of_atKey hat
      obtain ⟨u, hu⟩ := Option.isSome_iff_exists.1 hh
      have := (S i hi).1 v
      rw [hat, hu] at this
      rw [hu, held_inj this]
      rfl
    exact .inr ⟨i, v, w', cnt', hi, by rw [← hL i hi]; exact hlk, hf, hrun, ⟨D, m, _, hrg, hn, S, fun z hz => by simp only [hL z hz, E.sameKey hz hi]⟩, hlt, hgr, hsz, hen⟩
end
end
end Go.Proofs.YtpgcnjoodoabhaaGreat

namespace Go.Proofs.YtpgcnjoodoabhaaGreat
open Go.RowKit Go.Maps Go.WideMaps

theorem st_laidOut : laidOutB Tryz.prog = true := by kernel_rfl
/-- a prefix -/
structure Pk where
  a : Nat
  n : Int
deriving DecidableEq
/-- a prefix, and a router -/
structure Ky where
  a : Nat
  n : Int
  id : Nat
deriving DecidableEq
def Pk.ok (p : Pk) : Prop := p.a < 4294967296 ∧ -9223372036854775808 ≤ p.n ∧ p.n ≤ 9223372036854775807
def Ky.ok (p : Ky) : Prop := p.a < 4294967296 ∧ (-9223372036854775808 ≤ p.n ∧ p.n ≤ 9223372036854775807) ∧ p.id < 4294967296
def Pk.enc (p : Pk) : Value := .agg #[.int .u32 p.a, .int .i64 p.n]
def Ky.enc (p : Ky) : Value := .agg #[.int .u32 p.a, .int .i64 p.n, .int .u32 p.id]
def Pk.lit (p : Pk) : Lit := .string (keyBytes [.int .u32 p.a, .int .i64 p.n])
def Ky.lit (p : Ky) : Lit := .string (keyBytes [.int .u32 p.a, .int .i64 p.n, .int .u32 p.id])

theorem pk_key : Tryz.prog.keyType 36 = true := by kernel_rfl
theorem ky_key : Tryz.prog.keyType 90 = true := by kernel_rfl
theorem cells_u32 : Tryz.prog.cellsOf 31 = 1 := by kernel_rfl
theorem cells_pre : Tryz.prog.cellsOf 36 = 2 := by kernel_rfl
theorem cells_key : Tryz.prog.cellsOf 90 = 3 := by kernel_rfl
theorem cells_int : Tryz.prog.cellsOf 3 = 1 := by kernel_rfl
theorem wf_u32 {n : Nat} (h : n < 4294967296) : (Lit.int .u32 (n : Int)).wf = true := by
  have h1 : IntKind.u32.min = 0 := rfl
  have h2 : IntKind.u32.max = 4294967295 := rfl
  simp only [Lit.wf, Bool.and_eq_true, decide_eq_true_eq]
  omega
theorem wf_i64 {z : Int} (h1 : -9223372036854775808 ≤ z) (h2 : z ≤ 9223372036854775807) : (Lit.int .i64 z).wf = true := by
  have e1 : IntKind.i64.min = -9223372036854775808 := rfl
  have e2 : IntKind.i64.max = 9223372036854775807 := rfl
  simp only [Lit.wf, Bool.and_eq_true, decide_eq_true_eq]
  omega
theorem of_u32 {z : Int} (h : (Lit.int .u32 z).wf = true) : ∃ n : Nat, z = n ∧ n < 4294967296 := by
  have h1 : IntKind.u32.min = 0 := rfl
  have h2 : IntKind.u32.max = 4294967295 := rfl
  simp only [Lit.wf, Bool.and_eq_true, decide_eq_true_eq] at h
  exact ⟨z.toNat, by omega, by omega⟩
theorem of_i64 {z : Int} (h : (Lit.int .i64 z).wf = true) : -9223372036854775808 ≤ z ∧ z ≤ 9223372036854775807 := by
  have e1 : IntKind.i64.min = -9223372036854775808 := rfl
  have e2 : IntKind.i64.max = 9223372036854775807 := rfl
  simp only [Lit.wf, Bool.and_eq_true, decide_eq_true_eq] at h
  omega

theorem lits_int {P : Program} {t : TypeId} {q : IntKind} (ht : P.underlying t = some (.int q)) (d : Nat) (c : Value) (ls : List Lit) : P.keyLits (d + 1) t [c] = some ls ↔ ∃ z, c = .int q z ∧ (Lit.int q z).wf = true ∧ ls = [.int q z] := by
  unfold Program.keyLits
  rw [ht]
  constructor
  · intro h
    cases c with
    | int q' z =>
      simp only at h
      split at h
      · rename_i hc
        obtain ⟨rfl, hw⟩ := hc
        simp only [Option.some.injEq] at h
        exact ⟨z, rfl, hw, h.symm⟩
      · cases h
    | _ => simp at h
  · rintro ⟨z, rfl, hw, rfl⟩
    simp [hw]
theorem list2 {α : Type} {l : List α} (h : l.length = 2) : ∃ a b, l = [a, b] := by
  match l, h with
  | [a, b], _ => exact ⟨a, b, rfl⟩
theorem list3 {α : Type} {l : List α} (h : l.length = 3) : ∃ a b c, l = [a, b, c] := by
  match l, h with
  | [a, b, c], _ => exact ⟨a, b, c, rfl⟩
set_option maxRecDepth 100000 in
theorem lits_pre (d : Nat) (cs : List Value) (ls : List Lit) : Tryz.prog.keyLits (d + 2) 36 cs = some ls ↔ ∃ p : Pk, p.ok ∧ cs = [.int .u32 p.a, .int .i64 p.n] ∧ ls = [.int .u32 p.a, .int .i64 p.n] := by
  constructor
  · intro h
    unfold Program.keyLits at h
    rw [Tryz.underlying36] at h
    simp only [cells_pre] at h
    split at h
    case isFalse => cases h
    rename_i hc
    obtain ⟨c0, c1, rfl⟩ := list2 hc.1
    simp [cells_u32, cells_int, Option.bind_eq_some_iff] at h
    obtain ⟨l0, h0, _, ⟨l1, h1, rfl⟩, rfl⟩ := h
    obtain ⟨z0, rfl, w0, rfl⟩ := (lits_int Tryz.underlying31 d c0 l0).1 h0
    obtain ⟨z1, rfl, w1, rfl⟩ := (lits_int Tryz.underlying3 d c1 l1).1 h1
    obtain ⟨a, rfl, ha⟩ := of_u32 w0
    exact ⟨⟨a, z1⟩, ⟨ha, of_i64 w1⟩, rfl, rfl⟩
  · rintro ⟨p, ⟨h1, h2, h3⟩, rfl, rfl⟩
    unfold Program.keyLits
    rw [Tryz.underlying36]
    simp [cells_pre, cells_u32, cells_int, (lits_int Tryz.underlying31 d _ _).2 ⟨_, rfl, wf_u32 h1, rfl⟩, (lits_int Tryz.underlying3 d _ _).2 ⟨_, rfl, wf_i64 h2 h3, rfl⟩]
set_option maxRecDepth 100000 in
theorem lits_key (d : Nat) (cs : List Value) (ls : List Lit) : Tryz.prog.keyLits (d + 3) 90 cs = some ls ↔ ∃ p : Ky, p.ok ∧ cs = [.int .u32 p.a, .int .i64 p.n, .int .u32 p.id] ∧ ls = [.int .u32 p.a, .int .i64 p.n, .int .u32 p.id] := by
  constructor
  · intro h
    unfold Program.keyLits at h
    rw [Tryz.underlying90] at h
    simp only [cells_key] at h
    split at h
    case isFalse => cases h
    rename_i hc
    obtain ⟨c0, c1, c2, rfl⟩ := list3 hc.1
    simp [cells_u32, cells_pre, Option.bind_eq_some_iff] at h
    obtain ⟨l0, h0, _, ⟨l1, h1, rfl⟩, rfl⟩ := h
    obtain ⟨p, hp, e0, rfl⟩ := (lits_pre d _ l0).1 h0
    obtain ⟨z1, rfl, w1, rfl⟩ := (lits_int Tryz.underlying31 (d + 1) c2 l1).1 h1
    obtain ⟨a, rfl, ha⟩ := of_u32 w1
    simp only [List.cons.injEq, and_true] at e0
    obtain ⟨rfl, rfl⟩ := e0
    exact ⟨⟨p.a, p.n, a⟩, ⟨hp.1, hp.2, ha⟩, rfl, rfl⟩
  · rintro ⟨p, ⟨h1, h2, h3⟩, rfl, rfl⟩
    unfold Program.keyLits
    rw [Tryz.underlying90]
    simp [cells_key, cells_u32, cells_pre, (lits_pre d _ _).2 ⟨⟨p.a, p.n⟩, ⟨h1, h2⟩, rfl, rfl⟩, (lits_int Tryz.underlying31 (d + 1) _ _).2 ⟨_, rfl, wf_u32 h3, rfl⟩]

theorem types_many : ∃ d, Tryz.prog.types.size + 1 = d + 3 := by
  have h : 2 ≤ Tryz.prog.types.size := of_decide_eq_true (by kernel_rfl)
  exact ⟨Tryz.prog.types.size - 2, by omega⟩
theorem pk_of (v : Value) (l : Lit) : keyOf Tryz.prog 36 v = some l ↔ ∃ p : Pk, p.ok ∧ v = p.enc ∧ l = p.lit := by
  obtain ⟨d, hd⟩ := types_many
  unfold keyOf
  rw [Tryz.underlying36, pk_key, hd]
  simp only [Bool.true_and]
  constructor
  · intro h
    split at h
    case isFalse => cases h
    rename_i hf
    cases e : Tryz.prog.keyLits (d + 3) 36 v.cells.toList with
    | none => rw [e] at h; cases h
    | some ls =>
      rw [e] at h
      obtain ⟨p, hp, hc, rfl⟩ := (lits_pre (d + 1) _ _).1 e
      simp only [Option.map_some, Option.some.injEq] at h
      cases v with
      | agg cs =>
        refine ⟨p, hp, ?_, h.symm⟩
        have e2 : cs.toList = [.int .u32 p.a, .int .i64 p.n] := by simpa [Value.cells] using hc
        unfold Pk.enc
        have e3 : cs = #[.int .u32 p.a, .int .i64 p.n] := Array.toList_inj.1 e2
        rw [e3]
      | _ => simp [Value.formed, Tryz.underlying36] at hf
  · rintro ⟨p, hp, rfl, rfl⟩
    have hf : (Pk.enc p).formed Tryz.prog 36 = true := by simp [Value.formed, Pk.enc, Tryz.underlying36, cells_pre]
    have hl : Tryz.prog.keyLits (d + 3) 36 p.enc.cells.toList = some [.int .u32 p.a, .int .i64 p.n] := (lits_pre (d + 1) _ _).2 ⟨p, hp, rfl, rfl⟩
    rw [hf, hl]
    rfl
theorem ky_of (v : Value) (l : Lit) : keyOf Tryz.prog 90 v = some l ↔ ∃ p : Ky, p.ok ∧ v = p.enc ∧ l = p.lit := by
  obtain ⟨d, hd⟩ := types_many
  unfold keyOf
  rw [Tryz.underlying90, ky_key, hd]
  simp only [Bool.true_and]
  constructor
  · intro h
    split at h
    case isFalse => cases h
    rename_i hf
    cases e : Tryz.prog.keyLits (d + 3) 90 v.cells.toList with
    | none => rw [e] at h; cases h
    | some ls =>
      rw [e] at h
      obtain ⟨p, hp, hc, rfl⟩ := (lits_key d _ _).1 e
      simp only [Option.map_some, Option.some.injEq] at h
      cases v with
      | agg cs =>
        refine ⟨p, hp, ?_, h.symm⟩
        have e2 : cs.toList = [.int .u32 p.a, .int .i64 p.n, .int .u32 p.id] := by simpa [Value.cells] using hc
        unfold Ky.enc
        have e3 : cs = #[.int .u32 p.a, .int .i64 p.n, .int .u32 p.id] := Array.toList_inj.1 e2
        rw [e3]
      | _ => simp [Value.formed, Tryz.underlying90] at hf
  · rintro ⟨p, hp, rfl, rfl⟩
    have hf : (Ky.enc p).formed Tryz.prog 90 = true := by simp [Value.formed, Ky.enc, Tryz.underlying90, cells_key]
    have hl : Tryz.prog.keyLits (d + 3) 90 p.enc.cells.toList = some [.int .u32 p.a, .int .i64 p.n, .int .u32 p.id] := (lits_key d _ _).2 ⟨p, hp, rfl, rfl⟩
    rw [hf, hl]
    rfl

theorem pk_law : Keyed Tryz.prog 36 := Keyed.of_law (deep_law_laid st_laidOut (m := 5) (by omega) (of_decide_eq_true (by kernel_rfl)) (by kernel_rfl) (by rw [Tryz.underlying36]))
theorem ky_law : Keyed Tryz.prog 90 := Keyed.of_law (deep_law_laid st_laidOut (m := 5) (by omega) (of_decide_eq_true (by kernel_rfl)) (by kernel_rfl) (by rw [Tryz.underlying90]))
def pkE : Ke Tryz.prog 36 Pk where
  enc := Pk.enc
  lit := Pk.lit
  ok := Pk.ok
  law := pk_law
  made x h := (pk_of _ _).2 ⟨x, h, rfl, rfl⟩
  inv v l h := (pk_of v l).1 h
  inj x y hx hy h := by
    have e := pk_law.inj ((pk_of _ _).2 ⟨x, hx, rfl, rfl⟩) (h ▸ (pk_of _ _).2 ⟨y, hy, rfl, rfl⟩)
    cases x
    cases y
    simp [Pk.enc] at e
    obtain ⟨e1, rfl⟩ := e
    rw [Int.ofNat_inj.1 e1]
def kyE : Ke Tryz.prog 90 Ky where
  enc := Ky.enc
  lit := Ky.lit
  ok := Ky.ok
  law := ky_law
  made x h := (ky_of _ _).2 ⟨x, h, rfl, rfl⟩
  inv v l h := (ky_of v l).1 h
  inj x y hx hy h := by
    have e := ky_law.inj ((ky_of _ _).2 ⟨x, hx, rfl, rfl⟩) (h ▸ (ky_of _ _).2 ⟨y, hy, rfl, rfl⟩)
    cases x
    cases y
    simp [Ky.enc] at e
    obtain ⟨e1, rfl, e2⟩ := e
    rw [Int.ofNat_inj.1 e1, Int.ofNat_inj.1 e2]
end Go.Proofs.YtpgcnjoodoabhaaGreat

namespace Go.Proofs.YtpgcnjoodoabhaaGreat
open Go.RowKit

/-- the order of numbers, as -1, 0 or 1 -/
def cmpI (a b : Int) : Int := if a < b then -1 else if b < a then 1 else 0
theorem cmpI_lt {x y : Int} (h : x < y) : cmpI x y = -1 := by unfold cmpI; rw [if_pos h]
theorem cmpI_gt {x y : Int} (h : y < x) : cmpI x y = 1 := by unfold cmpI; rw [if_neg (by omega), if_pos h]
theorem cmpI_self (x : Int) : cmpI x x = 0 := by unfold cmpI; rw [if_neg (by omega), if_neg (by omega)]
/-- cmp.Or of two -/
def or2 (x y : Int) : Int := if x = 0 then y else x
end Go.Proofs.YtpgcnjoodoabhaaGreat

namespace Go.Proofs.YtpgcnjoodoabhaaGreat
open Go.RowKit

theorem nan32 (x : Int) (w : World) : Calls Tryz.prog 90 #[.int .u32 x] w fun e w' => e = .returned (.bool false) ∧ w = w' := by
  go_enter Tryz.func90, Tryz.ntmps90
  go_wp2
  go_ret
  exact ⟨by simp, rfl⟩
theorem cmp32 (x y : Int) (w : World) : Calls Tryz.prog 75 #[.int .u32 x, .int .u32 y] w fun e w' => e = .returned (.int .i64 (cmpI x y)) ∧ w = w' := by
  rcases Int.lt_trichotomy x y with h | h | h
  · have F := Lib.hid (cmpI_lt h)
    go_enter Tryz.func75, Tryz.ntmps75
    go_wp2_with (go_at_call 90; refine (nan32 _ _).mono ?_; rintro e w' ⟨rfl, rfl⟩)
    go_ret
    exact ⟨ret_int F.out.symm, rfl⟩
  · subst h
    have F := Lib.hid (cmpI_self x)
    go_enter Tryz.func75, Tryz.ntmps75
    go_wp2_with (go_at_call 90; refine (nan32 _ _).mono ?_; rintro e w' ⟨rfl, rfl⟩)
    go_ret
    exact ⟨ret_int F.out.symm, rfl⟩
  · have F := Lib.hid (cmpI_gt h)
    go_enter Tryz.func75, Tryz.ntmps75
    go_wp2_with (go_at_call 90; refine (nan32 _ _).mono ?_; rintro e w' ⟨rfl, rfl⟩)
    go_ret
    exact ⟨ret_int F.out.symm, rfl⟩
end Go.Proofs.YtpgcnjoodoabhaaGreat

namespace Go.Proofs.YtpgcnjoodoabhaaGreat
open Go.RowKit

theorem nan16 (x : Int) (w : World) : Calls Tryz.prog 104 #[.int .u16 x] w fun e w' => e = .returned (.bool false) ∧ w = w' := by
  go_enter Tryz.func104, Tryz.ntmps104
  go_wp2
  go_ret
  exact ⟨by simp, rfl⟩
theorem cmp16 (x y : Int) (w : World) : Calls Tryz.prog 96 #[.int .u16 x, .int .u16 y] w fun e w' => e = .returned (.int .i64 (cmpI x y)) ∧ w = w' := by
  rcases Int.lt_trichotomy x y with h | h | h
  · have F := Lib.hid (cmpI_lt h)
    go_enter Tryz.func96, Tryz.ntmps96
    go_wp2_with (go_at_call 104; refine (nan16 _ _).mono ?_; rintro e w' ⟨rfl, rfl⟩)
    go_ret
    exact ⟨ret_int F.out.symm, rfl⟩
  · subst h
    have F := Lib.hid (cmpI_self x)
    go_enter Tryz.func96, Tryz.ntmps96
    go_wp2_with (go_at_call 104; refine (nan16 _ _).mono ?_; rintro e w' ⟨rfl, rfl⟩)
    go_ret
    exact ⟨ret_int F.out.symm, rfl⟩
  · have F := Lib.hid (cmpI_gt h)
    go_enter Tryz.func96, Tryz.ntmps96
    go_wp2_with (go_at_call 104; refine (nan16 _ _).mono ?_; rintro e w' ⟨rfl, rfl⟩)
    go_ret
    exact ⟨ret_int F.out.symm, rfl⟩
end Go.Proofs.YtpgcnjoodoabhaaGreat

namespace Go.Proofs.YtpgcnjoodoabhaaGreat
open Go.RowKit

set_option maxHeartbeats 400000 in
theorem or_two (b : Nat) (x y : Int) (w : World) (h0 : w.cell? ⟨b, 0, none⟩ = some (.int .i64 x)) (h1 : w.cell? ⟨b, 1, none⟩ = some (.int .i64 y)) :
    Calls Tryz.prog 74 #[.slice (some ⟨b, 0, none⟩) 2 2] w fun e w' => e = .returned (.int .i64 (or2 x y)) ∧ w = w' := by
  by_cases hx : x = 0
  · subst hx
    have F : Hid (or2 0 y = y) := Lib.hid rfl
    by_cases hy : y = 0
    · subst hy
      go_enter Tryz.func74, Tryz.ntmps74
      go_wp2
      refine wp_loop_rounds 3 ?_
      rw [rounds_succ]
      go_wp2
      rw [rounds_succ]
      go_wp2
      rw [rounds_succ]
      go_wp2
      go_ret
      exact ⟨ret_int F.out.symm, rfl⟩
    · have hy' : (y != 0) = true := by simpa using hy
      clear hy
      go_enter Tryz.func74, Tryz.ntmps74
      go_wp2
      refine wp_loop_rounds 3 ?_
      rw [rounds_succ]
      go_wp2
      rw [rounds_succ]
      go_wp2
      go_ret
      exact ⟨ret_int F.out.symm, rfl⟩
  · have F : Hid (or2 x y = x) := Lib.hid (if_neg hx)
    have hx' : (x != 0) = true := by simpa using hx
    clear hx
    go_enter Tryz.func74, Tryz.ntmps74
    go_wp2
    refine wp_loop_rounds 3 ?_
    rw [rounds_succ]
    go_wp2
    go_ret
    exact ⟨ret_int F.out.symm, rfl⟩

end Go.Proofs.YtpgcnjoodoabhaaGreat

namespace Go.Proofs.YtpgcnjoodoabhaaGreat
open Go.RowKit

/-- the order of distances: numbers first, then nearness -/
def dcmp (s m s' m' : Int) : Int := if cmpI s s' = 0 then cmpI m' m else cmpI s s'

theorem third (w : World) (A B : Obj) (C : Array Value) (t : TypeId) (j : Nat) : (((w.alloc A).alloc B).alloc (.cells C t)).drew.cell? ⟨w.heap.size + 1 + 1, j, none⟩ = C[j]? := by
  have h : ((w.alloc A).alloc B).heap.size = w.heap.size + 1 + 1 := by simp
  rw [← h]
  exact World.cell?_alloc_mark ((w.alloc A).alloc B) C t (0, 0) j

set_option maxHeartbeats 400000 in
theorem dist_cmp (s m s' m' : Int) (w : World) :
    Calls Tryz.prog 84 #[.agg #[.int .u32 s, .int .u16 m], .agg #[.int .u32 s', .int .u16 m']] w fun e w' => e = .returned (.int .i64 (dcmp s m s' m')) ∧ Below w.heap.size w w' := by
  have D : Hid (or2 (cmpI s s') (cmpI m' m) = dcmp s m s' m') := Lib.hid rfl
  go_enter Tryz.func84, Tryz.ntmps84
  go_wp2_with fail
  have hb : Below w.heap.size w ((w.alloc (Obj.cells #[Value.int IntKind.u32 s, Value.int IntKind.u16 m] 39)).alloc (Obj.cells #[Value.int IntKind.u32 s', Value.int IntKind.u16 m'] 39)) :=
    ((Below.refl _ _).alloc (Nat.le_refl _) _).alloc (by simp) _
  have c0 : ((w.alloc (Obj.cells #[Value.int IntKind.u32 s, Value.int IntKind.u16 m] 39)).alloc (Obj.cells #[Value.int IntKind.u32 s', Value.int IntKind.u16 m'] 39)).cell? ⟨w.heap.size, 0, none⟩ = some (.int .u32 s) := by go_simp
  have c1 : ((w.alloc (Obj.cells #[Value.int IntKind.u32 s, Value.int IntKind.u16 m] 39)).alloc (Obj.cells #[Value.int IntKind.u32 s', Value.int IntKind.u16 m'] 39)).cell? ⟨w.heap.size, 1, none⟩ = some (.int .u16 m) := by go_simp
  have c2 : ((w.alloc (Obj.cells #[Value.int IntKind.u32 s, Value.int IntKind.u16 m] 39)).alloc (Obj.cells #[Value.int IntKind.u32 s', Value.int IntKind.u16 m'] 39)).cell? ⟨w.heap.size + 1, 0, none⟩ = some (.int .u32 s') := by go_simp
  have c3 : ((w.alloc (Obj.cells #[Value.int IntKind.u32 s, Value.int IntKind.u16 m] 39)).alloc (Obj.cells #[Value.int IntKind.u32 s', Value.int IntKind.u16 m'] 39)).cell? ⟨w.heap.size + 1, 1, none⟩ = some (.int .u16 m') := by go_simp
  generalize ((w.alloc (Obj.cells #[Value.int IntKind.u32 s, Value.int IntKind.u16 m] 39)).alloc (Obj.cells #[Value.int IntKind.u32 s', Value.int IntKind.u16 m'] 39)) = w2 at hb c0 c1 c2 c3 ⊢
  have HB := Lib.hid hb
  clear hb
  go_region_held3 (fun w' => w'.cell? ⟨w.heap.size, 0, none⟩ = some (.int .u32 s) ∧ w'.cell? ⟨w.heap.size, 1, none⟩ = some (.int .u16 m) ∧ w'.cell? ⟨w.heap.size + 1, 0, none⟩ = some (.int .u32 s') ∧ w'.cell? ⟨w.heap.size + 1, 1, none⟩ = some (.int .u16 m')) (go_keep)
    (first | (go_at_call 75; refine (cmp32 _ _ _).mono ?_; rintro e w' ⟨rfl, rfl⟩) | (go_at_call 96; refine (cmp16 _ _ _).mono ?_; rintro e w' ⟨rfl, rfl⟩) | (go_at_call 74; go_loud (refine (or_two _ (cmpI s s') (cmpI m' m) _ ?_ ?_).mono ?_; (· exact (new_cell _ _ _ _).trans rfl); (· exact (new_cell _ _ _ _).trans rfl); rintro e w' ⟨rfl, rfl⟩)))
  go_wp2
  go_ret
  exact ⟨ret_int D.out, (HB.out.alloc HB.out.size _).drew⟩

theorem lost_any (s m : Int) (w : World) : Calls Tryz.prog 61 #[.agg #[.int .u32 s, .int .u16 m]] w fun e w' => e = .returned (.bool (m == 65535)) ∧ Below w.heap.size w w' := by
  go_enter Tryz.func61, Tryz.ntmps61
  go_wp2
  go_ret
  exact ⟨rfl, (Below.refl _ _).alloc (Nat.le_refl _) _⟩

def better (s m s' m' : Int) : Bool := decide (s' < s ∨ s = s' ∧ m < m')
set_option maxHeartbeats 400000 in
theorem better_any (s m s' m' : Int) (w : World) :
    Calls Tryz.prog 44 #[.agg #[.int .u32 s, .int .u16 m], .agg #[.int .u32 s', .int .u16 m']] w fun e w' => e = .returned (.bool (better s m s' m')) ∧ Below w.heap.size w w' := by
  go_enter Tryz.func44, Tryz.ntmps44
  go_wp2
  all_goals
    go_ret
    exact ⟨ret_bool (by first | (unfold better; rw [decide_eq_decide]; omega) | (unfold better; symm; rw [decide_eq_true_eq]; omega)), ((Below.refl _ _).alloc (Nat.le_refl _) _).alloc (by simp) _⟩

theorem dist_cmp_eq {s m s' m' r : Int} (h : dcmp s m s' m' = r) (w : World) :
    Calls Tryz.prog 84 #[.agg #[.int .u32 s, .int .u16 m], .agg #[.int .u32 s', .int .u16 m']] w fun e w' => e = .returned (.int .i64 r) ∧ Below w.heap.size w w' := h ▸ dist_cmp s m s' m' w
theorem better_eq {s m s' m' : Int} {r : Bool} (h : better s m s' m' = r) (w : World) :
    Calls Tryz.prog 44 #[.agg #[.int .u32 s, .int .u16 m], .agg #[.int .u32 s', .int .u16 m']] w fun e w' => e = .returned (.bool r) ∧ Below w.heap.size w w' := h ▸ better_any s m s' m' w
theorem lost_eq {s m : Int} {r : Bool} (h : (m == 65535) = r) (w : World) :
    Calls Tryz.prog 61 #[.agg #[.int .u32 s, .int .u16 m]] w fun e w' => e = .returned (.bool r) ∧ Below w.heap.size w w' := h ▸ lost_any s m w

theorem dcmp_pos {s m s' m' : Int} (h : s' < s ∨ s = s' ∧ m < m') : dcmp s m s' m' = 1 := by
  unfold dcmp
  rcases h with h | ⟨rfl, h⟩
  · rw [if_neg (by rw [cmpI_gt h]; omega), cmpI_gt h]
  · rw [if_pos (cmpI_self s), cmpI_gt h]
theorem dcmp_neg {s m s' m' : Int} (h : s < s' ∨ s = s' ∧ m' < m) : dcmp s m s' m' = -1 := by
  unfold dcmp
  rcases h with h | ⟨rfl, h⟩
  · rw [if_neg (by rw [cmpI_lt h]; omega), cmpI_lt h]
  · rw [if_pos (cmpI_self s), cmpI_lt h]
theorem dcmp_self (s m : Int) : dcmp s m s m = 0 := by unfold dcmp; rw [if_pos (cmpI_self s), cmpI_self]
theorem better_yes {s m s' m' : Int} (h : s' < s ∨ s = s' ∧ m < m') : better s m s' m' = true := decide_eq_true h
theorem better_no {s m s' m' : Int} (h : ¬ (s' < s ∨ s = s' ∧ m < m')) : better s m s' m' = false := decide_eq_false h

end Go.Proofs.YtpgcnjoodoabhaaGreat

namespace Go.Proofs.YtpgcnjoodoabhaaGreat
open Go.RowKit
variable {tS : TypeId} {XS : List Value}

def ownV (b : Bool) : Value := .agg #[.bool b]
def dV (d : Nat × Nat) : Value := .agg #[.int .u32 d.1, .int .u16 d.2]
/-- a map that there may be: r, its block -/
def Mo {P : Program} {k : TypeId} {α : Type} (E : Ke P k α) (w : World) (r : Option Nat) (n : Nat) (f : α → Option Value) : Prop :=
  match r with
  | none => n = 0 ∧ ∀ x, f x = none
  | some b => Mk E w b n f
section
variable {P : Program} {k t e : TypeId} {α : Type} {E : Ke P k α} {w w' : World} {r : Option Nat} {n : Nat} {f : α → Option Value}
theorem Mo.of_block (h : Mo E w r n f) (hb : ∀ b, r = some b → w'.heap[b]? = w.heap[b]?) : Mo E w' r n f := by
  cases r with
  | none => exact h
  | some b => exact Mk.of_block h (hb b rfl)
theorem Mo.lt (h : Mo E w r n f) {b : Nat} (hb : r = some b) : b < w.heap.size := by subst hb; exact Mk.lt h
theorem Mo.isMap (h : Mo E w r n f) {b : Nat} (hb : r = some b) : ∃ es clock, w.heap[b]? = some (.map es clock) := by subst hb; exact Mk.isMap h
theorem Mo.look_ok (h : Mo E w r n f) (ht : P.underlying t = some (.map k e)) {z : Value} (hz : ∀ w, (zeroValue e).run P w = .ok z w) {i : α} (hw : E.ok i) :
    (Instr.lookup t (.map r) (E.enc i) true).run P w = .ok (.tuple #[(f i).getD z, .bool (f i).isSome]) w := by
  cases r with
  | none =>
    rw [look_ok_nil ht (hz w) hw, h.2 i]
    rfl
  | some b => exact Mk.look_ok h ht (hz w) hw
end

/-- The state whose struct lies in block d, its maps in o and fl: what it says. -/
structure St (tS : TypeId) (XS : List Value) (w : World) (d : Nat) (o fl : Option Nat) (id lease n m : Nat) (own : Pk → Option Bool) (floor : Ky → Option (Nat × Nat)) : Prop where
  head : Blk tS w d (Value.int .u32 id :: Value.int .u32 lease :: Value.map o :: Value.map fl :: XS).toArray
  owns : Mo pkE w o n (fun x => (own x).map ownV)
  floors : Mo kyE w fl m (fun x => (floor x).map dV)
  apart : ∀ a b, o = some a → fl = some b → a ≠ b
  small : ∀ k f, floor k = some f → f.1 < 4294967296 ∧ f.2 < 65536
  lease_lt : lease < 4294967296
  counts : n + m ≤ 100000
/-- the blocks of a state -/
def fp (d : Nat) (o fl : Option Nat) : List Nat := d :: (o.toList ++ fl.toList)
theorem mem_fp {d : Nat} {o fl : Option Nat} {x : Nat} : x ∈ fp d o fl ↔ x = d ∨ o = some x ∨ fl = some x := by
  cases o <;> cases fl <;> simp [fp, eq_comm]
section
variable {w w' : World} {d : Nat} {o fl : Option Nat} {id lease n m : Nat} {own : Pk → Option Bool} {floor : Ky → Option (Nat × Nat)}
theorem St.turn {L : List Nat} (h : St tS XS w d o fl id lease n m own floor) (t : Turn L w w') (hL : ∀ x, x ∈ fp d o fl → x ∉ L) : St tS XS w' d o fl id lease n m own floor :=
  ⟨h.head.turn t (hL _ (mem_fp.2 (.inl rfl))), h.owns.of_block (fun b hb => t.block b (h.owns.lt hb) (hL _ (mem_fp.2 (.inr (.inl hb))))), h.floors.of_block (fun b hb => t.block b (h.floors.lt hb) (hL _ (mem_fp.2 (.inr (.inr hb))))), h.apart, h.small, h.lease_lt, h.counts⟩
theorem St.held (h : St tS XS w d o fl id lease n m own floor) (hb : Below w.heap.size w w') : St tS XS w' d o fl id lease n m own floor := h.turn (L := []) (.of_below _ hb) (by simp)
theorem St.drew (h : St tS XS w d o fl id lease n m own floor) : St tS XS w.drew d o fl id lease n m own floor := ⟨h.head, h.owns.of_block (fun _ _ => rfl), h.floors.of_block (fun _ _ => rfl), h.apart, h.small, h.lease_lt, h.counts⟩
theorem St.lt (h : St tS XS w d o fl id lease n m own floor) {x : Nat} (hx : x ∈ fp d o fl) : x < w.heap.size := by
  rcases mem_fp.1 hx with rfl | h1 | h1
  · exact h.head.lt
  · exact h.owns.lt h1
  · exact h.floors.lt h1
theorem St.head_ne (h : St tS XS w d o fl id lease n m own floor) {b : Nat} (hb : o = some b ∨ fl = some b) : d ≠ b := by
  intro e
  have h1 := h.head
  unfold Blk at h1
  rcases hb with hb | hb
  · obtain ⟨es, c, h2⟩ := h.owns.isMap hb
    rw [e, h2] at h1
    cases h1
  · obtain ⟨es, c, h2⟩ := h.floors.isMap hb
    rw [e, h2] at h1
    cases h1
end

theorem zero_dist (w : World) : (zeroValue 39).run Tryz.prog w = .ok (.agg #[.int .u32 0, .int .u16 0]) w := by kernel_rfl
theorem zero_own (w : World) : (zeroValue 117).run Tryz.prog w = .ok (.agg #[.bool false]) w := by kernel_rfl

/-! ### New, ID, Lease -/
theorem new_any (id : Nat) (w : World) : Calls Tryz.prog 24 #[.int .u32 id] w fun e w' =>
    e = .returned (.pointer (some ⟨w.heap.size, 0, none⟩)) ∧ St 71 [] w' w.heap.size none none id 0 0 0 (fun _ => none) (fun _ => none) ∧ Below w.heap.size w w' := by
  go_enter Tryz.func24, Tryz.ntmps24
  go_wp2
  go_ret
  exact ⟨rfl, ⟨Blk.new w _ _, ⟨rfl, fun _ => rfl⟩, ⟨rfl, fun _ => rfl⟩, by simp, by simp, by omega, by omega⟩, below_new _ _⟩
section
variable {w : World} {d : Nat} {o fl : Option Nat} {id lease n m : Nat} {own : Pk → Option Bool} {floor : Ky → Option (Nat × Nat)}
theorem lease_any (h : St tS XS w d o fl id lease n m own floor) : Calls Tryz.prog 22 #[.pointer (some ⟨d, 0, none⟩)] w fun e w' => e = .returned (.int .u32 lease) ∧ w = w' := by
  have c1 : w.cell? ⟨d, 1, none⟩ = some (.int .u32 lease) := h.head.at_ 1
  clear h
  go_enter Tryz.func22, Tryz.ntmps22
  go_wp2
  go_ret
  exact ⟨rfl, rfl⟩

/-- is a distance better than a floor? -/
def bet (f : Option (Nat × Nat)) (s m : Nat) : Bool := match f with | none => true | some g => decide (0 < dcmp s m g.1 g.2)

set_option maxHeartbeats 1000000 in
theorem betters_any (h : St tS XS w d o fl id lease n m own floor) (k : Ky) (hk : k.ok) (s x : Nat) :
    Calls Tryz.prog 67 #[.pointer (some ⟨d, 0, none⟩), k.enc, .agg #[.int .u32 s, .int .u16 x]] w fun e w' => e = .returned (.bool (bet (floor k) s x)) ∧ Below w.heap.size w w' := by
  have hlook : ∀ w', Below w.heap.size w w' → (Instr.lookup 69 (.map fl) k.enc true).run Tryz.prog w' = .ok (.tuple #[((floor k).map dV).getD (.agg #[.int .u32 0, .int .u16 0]), .bool (floor k).isSome]) w' := fun w' hb => by
    have h2 := (h.held hb).floors.look_ok (t := 69) (e := 39) (by kernel_rfl) zero_dist (i := k) hk
    rw [show ((floor k).map dV).isSome = (floor k).isSome by cases floor k <;> rfl] at h2
    exact h2
  have hd := h.head
  have hsm : ∀ f, floor k = some f → f.1 < 4294967296 ∧ f.2 < 65536 := h.small k
  clear h
  obtain ⟨ka, kn, kid⟩ := k
  show Calls _ _ #[_, .agg #[.int .u32 ka, .int .i64 kn, .int .u32 kid], _] _ _
  change ∀ w', Below w.heap.size w w' → (Instr.lookup _ (.map fl) (.agg #[.int .u32 ka, .int .i64 kn, .int .u32 kid]) true).run Tryz.prog w' = _ at hlook
  cases hf : floor ⟨ka, kn, kid⟩ with
  | none =>
    rw [hf] at hlook
    have hlook : ∀ w', Below w.heap.size w w' → (Instr.lookup 69 (.map fl) (.agg #[.int .u32 ka, .int .i64 kn, .int .u32 kid]) true).run Tryz.prog w' = .ok (.tuple #[.agg #[.int .u32 0, .int .u16 0], .bool false]) w' := hlook
    clear hsm
    go_enter Tryz.func67, Tryz.ntmps67
    go_wp2_with fail
    have c3 : w.cell? ⟨d, 3, none⟩ = some (.map fl) := hd.at_ 3
    have dl : d < w.heap.size := hd.lt
    clear hd
    have B2 : ∀ A B : Obj, Below w.heap.size w ((w.alloc A).alloc B) := fun A B => next (below_new _ _) (below_new _ _)
    have B3 : ∀ A B C : Obj, Below w.heap.size w (((w.alloc A).alloc B).alloc C) := fun A B C => next (B2 _ _) (below_new _ _)
    have l1 := hlook (((w.alloc (.cells #[.int .u32 ka, .int .i64 kn, .int .u32 kid] 90)).alloc (.cells #[.int .u32 s, .int .u16 x] 39)).drew) (B2 _ _).drew
    have l2 := hlook ((((w.alloc (.cells #[.int .u32 ka, .int .i64 kn, .int .u32 kid] 90)).alloc (.cells #[.int .u32 s, .int .u16 x] 39)).alloc (.cells #[.int .u32 0, .int .u16 0] 39)).drew) (B3 _ _ _).drew
    have k2 := held (B2 (.cells #[.int .u32 ka, .int .i64 kn, .int .u32 kid] 90) (.cells #[.int .u32 s, .int .u16 x] 39)) c3
    have k3 := held (B3 (.cells #[.int .u32 ka, .int .i64 kn, .int .u32 kid] 90) (.cells #[.int .u32 s, .int .u16 x] 39) (.cells #[.int .u32 0, .int .u16 0] 39)) c3
    clear hlook hf
    go_region
    all_goals
      go_wp2_with fail
      go_ret
      exact ⟨rfl, (B3 _ _ _).drew⟩
  | some f =>
    obtain ⟨fs, fm⟩ := f
    obtain ⟨hfs, hfm⟩ := hsm _ hf
    rw [hf] at hlook
    have hlook : ∀ w', Below w.heap.size w w' → (Instr.lookup 69 (.map fl) (.agg #[.int .u32 ka, .int .i64 kn, .int .u32 kid]) true).run Tryz.prog w' = .ok (.tuple #[.agg #[.int .u32 fs, .int .u16 fm], .bool true]) w' := hlook
    go_enter Tryz.func67, Tryz.ntmps67
    go_wp2_with fail
    have c3 : w.cell? ⟨d, 3, none⟩ = some (.map fl) := hd.at_ 3
    have dl : d < w.heap.size := hd.lt
    clear hd
    have B2 : ∀ A B : Obj, Below w.heap.size w ((w.alloc A).alloc B) := fun A B => next (below_new _ _) (below_new _ _)
    have B3 : ∀ A B C : Obj, Below w.heap.size w (((w.alloc A).alloc B).alloc C) := fun A B C => next (B2 _ _) (below_new _ _)
    have l1 := hlook (((w.alloc (.cells #[.int .u32 ka, .int .i64 kn, .int .u32 kid] 90)).alloc (.cells #[.int .u32 s, .int .u16 x] 39)).drew) (B2 _ _).drew
    have l2 := hlook ((((w.alloc (.cells #[.int .u32 ka, .int .i64 kn, .int .u32 kid] 90)).alloc (.cells #[.int .u32 s, .int .u16 x] 39)).alloc (.cells #[.int .u32 0, .int .u16 0] 39)).drew) (B3 _ _ _).drew
    have k2 := held (B2 (.cells #[.int .u32 ka, .int .i64 kn, .int .u32 kid] 90) (.cells #[.int .u32 s, .int .u16 x] 39)) c3
    have k3 := held (B3 (.cells #[.int .u32 ka, .int .i64 kn, .int .u32 kid] 90) (.cells #[.int .u32 s, .int .u16 x] 39) (.cells #[.int .u32 0, .int .u16 0] 39)) c3
    clear hlook hf
    generalize hr : dcmp (s : Int) x fs fm = r
    go_region
    all_goals
      go_wp2_with fail
      refine (dist_cmp_eq hr _).mono ?_
      rintro e w' ⟨rfl, hb⟩
      have hB := next (B3 _ _ _).drew hb
      clear hb l1 l2 k2 k3 c3
      go_wp2_with fail
      go_ret
      exact ⟨by rw [← hr]; rfl, hB⟩

/-- what Feasible and Covers answer -/
def fea (f : Option (Nat × Nat)) (s x : Nat) : Bool := (x == 65535) || bet f s x
def cov (f : Option (Nat × Nat)) (s x : Nat) : Bool := (x == 65535) || !bet f s x

theorem betters_eq (h : St tS XS w d o fl id lease n m own floor) (k : Ky) (hk : k.ok) (s x : Nat) {r : Bool} (hr : bet (floor k) s x = r) {ka : Nat} {kn : Int} {kid : Nat} (e : k = ⟨ka, kn, kid⟩) :
    Calls Tryz.prog 67 #[.pointer (some ⟨d, 0, none⟩), .agg #[.int .u32 ka, .int .i64 kn, .int .u32 kid], .agg #[.int .u32 s, .int .u16 x]] w fun e w' => e = .returned (.bool r) ∧ Below w.heap.size w w' := by
  subst hr e
  exact betters_any h _ hk s x

end
end Go.Proofs.YtpgcnjoodoabhaaGreat

