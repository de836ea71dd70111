/-
  Maps that may be nil; entries taken out of a map, also while it is gone through. No program's own text in sight.
  Package route's map and the statement's own: their keys.
  Package route's table: what it holds; New, Len, Get, Set.
  Plain mathematics of datagrams: what can be told, its bytes, and back. No program in sight.
  Plain mathematics of datagrams: what is told comes back; what is cut off is none. No program in sight.
  Bytes in memory; the contracts of package number's Put and Get, and of the statement's four.
-/
import Derived.Test.YtmhcjhbmeohjdaaGreatS07
import Derived.Test.YtmhcjhbmeohjdaaGreatS05
import Derived.Test.YtmhcjhbmeohjdaaGreatProg
import Derived.Test.YtmhcjhbmeohjdaaGreatS04
import Derived.DeepKeys4
import Derived.WalkSpells
import Derived.Test.YtmhcjhbmeohjdaaGreatS02
import Derived.Test.YtmhcjhbmeohjdaaGreatS01
import Derived.Laws.BytesArg
import Derived.Laws.BitsAllLaws
namespace Go.Proofs.YtmhcjhbmeohjdaaGreat
open Go.RowKit Go.Maps

section
variable {P : Program} {k t e : TypeId} {α : Type} {E : Ke P k α} {w w' : World} {r : Option Nat} {n : Nat} {f : α → Option Value}
end


section
variable {P : Program} {k t e : TypeId} {α : Type} [DecidableEq α] {E : Ke P k α} {w w' : World} {b r n : Nat} {f : α → Option Value}
/-- f without key i -/
def cut (f : α → Option Value) (i : α) : α → Option Value := fun z => if z = i then none else f z
theorem Sees.del {D : DataW Value} (S : Sees E D f) {i : α} (hi : E.ok i) : Sees E (D.del (E.lit i)) (cut f i) := by
  intro z hz
  by_cases h : z = i
  · subst h
    rw [cut, if_pos rfl]
    exact ⟨fun u => by rw [atKey_del_same]; rfl, by rw [has_del_same]; rfl⟩
  · rw [cut, if_neg h]
    exact ⟨fun u => by rw [atKey_del_other (E.lit_ne hz hi h)]; exact (S z hz).1 u, by rw [has_del_other (E.lit_ne hz hi h)]; exact (S z hz).2⟩
/-- 'delete(m, i)' -/
theorem Mk.drop (h : Mk E w b n f) (ht : P.underlying t = some (.map k e)) {i : α} (hw : E.ok i) (ty : TypeId) :
    ∃ w' n', (Builtin.delete_ #[t, k] ty #[.map (some b), E.enc i]).run P w = .ok (.tuple #[]) w' ∧ Mk E w' b n' (cut f i) ∧ n' ≤ n ∧ w.grownBy w' (some b) ∧ w'.heap.size = w.heap.size := by
  obtain ⟨D, h, hn, S⟩ := h
  obtain ⟨w', hrun, h', hg⟩ := h.drop E.law ht (E.made i hw) ty
  have hz := size_del (k := E.lit i) (h.tidy E.law)
  obtain ⟨es0, c0, es1, c1, hb0, rfl⟩ := id hg
  exact ⟨_, _, hrun, ⟨_, ownsMap_size h', rfl, S.del hw⟩, by rw [← hn, ← hz]; exact Nat.le_add_right _ _, hg.grown, by simp [ChangeMaps.setBlock]⟩
omit [DecidableEq α] in
theorem drop_nil (ht : P.underlying t = some (.map k e)) {i : α} (hw : E.ok i) (ty : TypeId) : (Builtin.delete_ #[t, k] ty #[.map none, E.enc i]).run P w = .ok (.tuple #[]) w :=
  Maps.drop_nil E.law ht (E.made i hw) ty
/-- 'delete(m, i)' while m is gone through -/
theorem Rg.drop {left : α → Bool} {cnt : Nat} (h : Rg E w b r n f left cnt) (ht : P.underlying t = some (.map k e)) {i : α} (hw : E.ok i) (ty : TypeId) :
    ∃ w' n' cnt', (Builtin.delete_ #[t, k] ty #[.map (some b), E.enc i]).run P w = .ok (.tuple #[]) w' ∧ Rg E w' b r n' (cut f i) (fun z => left z && !decide (z = i)) cnt' ∧ cnt' ≤ cnt ∧ w.grownBy w' (some b) ∧ w'.heap.size = w.heap.size := by
  obtain ⟨D, m, L, h, hn, S, hL⟩ := h
  obtain ⟨w', cnt', hrun, h', hc, hg⟩ := h.drop E.law ht (E.made i hw) ty
  obtain ⟨es0, c0, es1, c1, hb0, rfl⟩ := id hg
  exact ⟨_, _, cnt', hrun, ⟨_, m, _, h', rfl, S.del hw, fun z hz => by simp only [hL z hz, E.sameKey hz hw]⟩, hc, hg.grown, by simp [ChangeMaps.setBlock]⟩
/-- two maps of the same keys have as many -/
theorem Mk.list (h : Mk E w b n f) : ∃ xs : List α, xs.Nodup ∧ (∀ k, k ∈ xs ↔ E.ok k ∧ (f k).isSome = true) := by
  obtain ⟨D, hown, hn, S⟩ := h
  obtain ⟨es, hD, hpw, _⟩ := hown.entries E.law
  obtain ⟨es', hD', hko⟩ := hown.keysOf
  obtain rfl : es = es' := by rw [hD] at hD'; simpa using hD'
  subst hD
  have hlit : ∀ p ∈ es, ∃ x, E.ok x ∧ p.1 = E.lit x := fun p hp => by
    obtain ⟨v, hv⟩ := hko p hp
    obtain ⟨x, hx, -, e⟩ := E.inv _ _ hv
    exact ⟨x, hx, e⟩
  have : ∀ l : List (Lit × DataW Value), (∀ p ∈ l, ∃ x, E.ok x ∧ p.1 = E.lit x) → l.Pairwise (fun p q => p.1 ≠ q.1) → ∃ xs : List α, xs.Nodup ∧ ∀ k, k ∈ xs ↔ E.ok k ∧ ∃ p ∈ l, p.1 = E.lit k := by
    intro l
    induction l with
    | nil => intro _ _; exact ⟨[], List.nodup_nil, fun k => by simp⟩
    | cons p l ih =>
      intro h1 h2
      obtain ⟨xs, hx, hm⟩ := ih (fun q hq => h1 q (List.mem_cons_of_mem _ hq)) (List.pairwise_cons.1 h2).2
      obtain ⟨x, hxo, ex⟩ := h1 p (List.mem_cons_self ..)
      refine ⟨x :: xs, List.nodup_cons.2 ⟨fun hc => ?_, hx⟩, fun k => ?_⟩
      · obtain ⟨_, q, hq, e⟩ := (hm x).1 hc
        exact (List.pairwise_cons.1 h2).1 q hq (ex.trans e.symm)
      · rw [List.mem_cons, hm k]
        constructor
        · rintro (rfl | ⟨ho, q, hq, e⟩)
          · exact ⟨hxo, p, List.mem_cons_self .., ex⟩
          · exact ⟨ho, q, List.mem_cons_of_mem _ hq, e⟩
        · rintro ⟨ho, q, hq, e⟩
          rcases List.mem_cons.1 hq with rfl | hq
          · exact .inl (E.inj k x ho hxo (e.symm.trans ex))
          · exact .inr ⟨ho, q, hq, e⟩
  obtain ⟨xs, hx, hm⟩ := this es hlit hpw
  refine ⟨xs, hx, fun k => ?_⟩
  rw [hm k]
  constructor
  · rintro ⟨ho, p, hp, e⟩
    refine ⟨ho, ?_⟩
    rw [← (S k ho).2, has_eq, List.any_eq_true]
    exact ⟨p, hp, by rw [e, E.sameKey ho ho]; simp⟩
  · rintro ⟨ho, h2⟩
    refine ⟨ho, ?_⟩
    rw [← (S k ho).2, has_eq, List.any_eq_true] at h2
    obtain ⟨p, hp, hs⟩ := h2
    obtain ⟨y, hy, e⟩ := hlit p hp
    rw [e, E.sameKey hy ho, decide_eq_true_eq] at hs
    exact ⟨p, hp, by rw [e, hs]⟩
end
end Go.Proofs.YtmhcjhbmeohjdaaGreat

namespace Go.Proofs.YtmhcjhbmeohjdaaGreat
open Go.RowKit Go.Maps Go.WideMaps

/-- a prefix, and a neighbour -/
structure Rk where
  a : Nat
  n : Int
  fr : Int
deriving DecidableEq
def Rk.ok (p : Rk) : Prop := p.a < 4294967296 ∧ (-9223372036854775808 ≤ p.n ∧ p.n ≤ 9223372036854775807) ∧ (-9223372036854775808 ≤ p.fr ∧ p.fr ≤ 9223372036854775807)
def Rk.enc (p : Rk) : Value := .agg #[.int .u32 p.a, .int .i64 p.n, .int .i64 p.fr]
def Rk.lit (p : Rk) : Lit := .string (keyBytes [.int .u32 p.a, .int .i64 p.n, .int .i64 p.fr])

theorem cells_key1 : Tryz.prog.cellsOf 131 = 3 := by kernel_rfl
theorem ky_key1 : Tryz.prog.keyType 131 = true := by kernel_rfl
set_option maxRecDepth 100000 in
theorem lits_key1 (d : Nat) (cs : List Value) (ls : List Lit) : Tryz.prog.keyLits (d + 3) 131 cs = some ls ↔ ∃ p : Rk, p.ok ∧ cs = [.int .u32 p.a, .int .i64 p.n, .int .i64 p.fr] ∧ ls = [.int .u32 p.a, .int .i64 p.n, .int .i64 p.fr] := by
  constructor
  · intro h
    unfold Program.keyLits at h
    rw [Tryz.underlying131] at h
    simp only [cells_key1] at h
    split at h
    case isFalse => cases h
    rename_i hc
    obtain ⟨c0, c1, c2, rfl⟩ := list3 hc.1
    simp [cells_int, cells_pre, Option.bind_eq_some_iff] at h
    obtain ⟨l0, h0, _, ⟨l1, h1, rfl⟩, rfl⟩ := h
    obtain ⟨p, hp, e0, rfl⟩ := (lits_pre d _ l0).1 h0
    obtain ⟨z1, rfl, w1, rfl⟩ := (lits_int Tryz.underlying3 (d + 1) c2 l1).1 h1
    simp only [List.cons.injEq, and_true] at e0
    obtain ⟨rfl, rfl⟩ := e0
    exact ⟨⟨p.a, p.n, z1⟩, ⟨hp.1, hp.2, of_i64 w1⟩, rfl, rfl⟩
  · rintro ⟨p, ⟨h1, h2, h3, h4⟩, rfl, rfl⟩
    unfold Program.keyLits
    rw [Tryz.underlying131]
    simp [cells_key1, cells_int, cells_pre, (lits_pre d _ _).2 ⟨⟨p.a, p.n⟩, ⟨h1, h2⟩, rfl, rfl⟩, (lits_int Tryz.underlying3 (d + 1) _ _).2 ⟨_, rfl, wf_i64 h3 h4, rfl⟩]

theorem ky_of1 (v : Value) (l : Lit) : keyOf Tryz.prog 131 v = some l ↔ ∃ p : Rk, p.ok ∧ v = p.enc ∧ l = p.lit := by
  obtain ⟨d, hd⟩ := types_many
  unfold keyOf
  rw [Tryz.underlying131, ky_key1, hd]
  simp only [Bool.true_and]
  constructor
  · intro h
    split at h
    case isFalse => cases h
    rename_i hf
    cases e : Tryz.prog.keyLits (d + 3) 131 v.cells.toList with
    | none => rw [e] at h; cases h
    | some ls =>
      rw [e] at h
      obtain ⟨p, hp, hc, rfl⟩ := (lits_key1 d _ _).1 e
      simp only [Option.map_some, Option.some.injEq] at h
      cases v with
      | agg cs =>
        refine ⟨p, hp, ?_, h.symm⟩
        have e2 : cs.toList = [.int .u32 p.a, .int .i64 p.n, .int .i64 p.fr] := by simpa [Value.cells] using hc
        unfold Rk.enc
        have e3 : cs = #[.int .u32 p.a, .int .i64 p.n, .int .i64 p.fr] := Array.toList_inj.1 e2
        rw [e3]
      | _ => simp [Value.formed, Tryz.underlying131] at hf
  · rintro ⟨p, hp, rfl, rfl⟩
    have hf : (Rk.enc p).formed Tryz.prog 131 = true := by simp [Value.formed, Rk.enc, Tryz.underlying131, cells_key1]
    have hl : Tryz.prog.keyLits (d + 3) 131 p.enc.cells.toList = some [.int .u32 p.a, .int .i64 p.n, .int .i64 p.fr] := (lits_key1 d _ _).2 ⟨p, hp, rfl, rfl⟩
    rw [hf, hl]
    rfl

theorem ky_law1 : Keyed Tryz.prog 131 := Keyed.of_law (deep_law_laid st_laidOut (m := 5) (by omega) (of_decide_eq_true (by kernel_rfl)) (by kernel_rfl) (by rw [Tryz.underlying131]))
def rkE : Ke Tryz.prog 131 Rk where
  enc := Rk.enc
  lit := Rk.lit
  ok := Rk.ok
  law := ky_law1
  made x h := (ky_of1 _ _).2 ⟨x, h, rfl, rfl⟩
  inv v l h := (ky_of1 v l).1 h
  inj x y hx hy h := by
    have e := ky_law1.inj ((ky_of1 _ _).2 ⟨x, hx, rfl, rfl⟩) (h ▸ (ky_of1 _ _).2 ⟨y, hy, rfl, rfl⟩)
    cases x
    cases y
    simp [Rk.enc] at e
    obtain ⟨e1, rfl, rfl⟩ := e
    rw [Int.ofNat_inj.1 e1]
end Go.Proofs.YtmhcjhbmeohjdaaGreat

namespace Go.Proofs.YtmhcjhbmeohjdaaGreat
open Go.RowKit Go.Maps

/-- a way -/
structure Rt where
  fr : Int
  id : Nat
  seq : Nat
  met : Nat
  exp : Int
deriving DecidableEq
def Rt.zero : Rt := ⟨0, 0, 0, 0, 0⟩
instance : Inhabited Rt := ⟨Rt.zero⟩
structure Rt.Fits (r : Rt) : Prop where
  f : -9223372036854775808 ≤ r.fr ∧ r.fr ≤ 9223372036854775807
  id : r.id < 4294967296
  seq : r.seq < 4294967296
  met : r.met < 65536
  e : -9223372036854775808 ≤ r.exp ∧ r.exp ≤ 9223372036854775807
def rV (r : Rt) : Value := .agg #[.int .i64 r.fr, .int .u32 r.id, .int .u32 r.seq, .int .u16 r.met, .int .i64 r.exp]
theorem rV_inj {a b : Rt} (h : rV a = rV b) : a = b := by
  cases a
  cases b
  simp [rV] at h
  obtain ⟨rfl, h2, h3, h4, rfl⟩ := h
  rw [Int.ofNat_inj.1 h2, Int.ofNat_inj.1 h3, Int.ofNat_inj.1 h4]
abbrev Ways := Rk → Option Rt
def vals (f : Ways) : Rk → Option Value := fun k => (f k).map rV
/-- the cells of a block whose cell 10 holds a map: o, its block -/
class Ten (X : Option Nat → Array Value) : Prop where
  at_ : ∀ o, (X o)[10]? = some (.map o)
  set : ∀ o o', (X o).setIfInBounds 10 (.map o') = X o'
theorem Blk.ten {X : Option Nat → Array Value} [Ten X] {T : TypeId} {w : World} {t : Nat} {o : Option Nat} (h : Blk T w t (X o)) : w.cell? ⟨t, 10, none⟩ = some (.map o) := (h.at_ 10).trans (Ten.at_ o)
/-- the table in block t: its map in o -/
structure Tb (X : Option Nat → Array Value) (w : World) (t : Nat) (o : Option Nat) (n : Nat) (f : Ways) : Prop where
  head : Blk 88 w t (X o)
  map : Mo rkE w o n (vals f)
variable {X : Option Nat → Array Value}
theorem Tb.ne {w : World} {t n : Nat} {o : Option Nat} {f : Ways} (h : Tb X w t o n f) {b : Nat} (hb : o = some b) : t ≠ b := fun e => by
  subst e
  obtain ⟨es, cl, h2⟩ := h.map.isMap hb
  have := h.head
  unfold Blk at this
  rw [h2] at this
  cases this
theorem Tb.held {w w' : World} {t n : Nat} {o : Option Nat} {f : Ways} (h : Tb X w t o n f) (hb : Below w.heap.size w w') : Tb X w' t o n f :=
  ⟨h.head.held hb, h.map.of_block fun b e => hb.block b (h.map.lt e)⟩
theorem Tb.turn {w w' : World} {t n : Nat} {o : Option Nat} {f : Ways} {L : List Nat} (h : Tb X w t o n f) (ht : Turn L w w') (h1 : t ∉ L) (h2 : ∀ b, o = some b → b ∉ L) : Tb X w' t o n f :=
  ⟨h.head.turn ht h1, h.map.of_block fun b e => ht.block b (h.map.lt e) (h2 b e)⟩
def putR (f : Ways) (k : Rk) (r : Rt) : Ways := fun z => if z = k then some r else f z
def cutR (f : Ways) (k : Rk) : Ways := fun z => if z = k then none else f z
theorem vals_put (f : Ways) (k : Rk) (r : Rt) : vals (putR f k r) = upd (vals f) k (rV r) := by
  funext z
  unfold vals putR upd
  split <;> rfl
theorem vals_cut (f : Ways) (k : Rk) : vals (cutR f k) = cut (vals f) k := by
  funext z
  unfold vals cutR cut
  split <;> rfl
theorem vals_some (f : Ways) (k : Rk) : (vals f k).isSome = (f k).isSome := by unfold vals; cases f k <;> rfl
theorem zero_route (w : World) : (zeroValue 106).run Tryz.prog w = .ok (rV Rt.zero) w := by kernel_rfl

theorem rt_new (w : World) : Calls Tryz.prog 24 #[] w fun e w' => e = .returned (.pointer (some ⟨w.heap.size, 0, none⟩)) ∧ w' = w.alloc (.cells #[.map none] 83) := by
  go_enter Tryz.func24, Tryz.ntmps24
  go_wp2
  go_ret
  exact ⟨rfl, rfl⟩

set_option maxHeartbeats 1000000 in
theorem rt_get [Ten X] {w : World} {t n : Nat} {o : Option Nat} {f : Ways} (h : Tb X w t o n f) (a : Nat) (len fr : Int) (hk : Rk.ok ⟨a, len, fr⟩) {r : Rt} {ok : Bool} (hr : (f ⟨a, len, fr⟩).getD Rt.zero = r) (ho : (f ⟨a, len, fr⟩).isSome = ok) :
    Calls Tryz.prog 61 #[.pointer (some ⟨t, 10, none⟩), .agg #[.int .u32 a, .int .i64 len], .int .i64 fr] w fun e w' => e = .returned (.tuple #[rV r, .bool ok]) ∧ Below w.heap.size w w' := by
  obtain ⟨fr', id, seq, met, exp⟩ := r
  have hlook : ∀ w', Below w.heap.size w w' → (Instr.lookup 81 (.map o) (.agg #[.int .u32 a, .int .i64 len, .int .i64 fr]) true).run Tryz.prog w' = .ok (.tuple #[.agg #[.int .i64 fr', .int .u32 id, .int .u32 seq, .int .u16 met, .int .i64 exp], .bool ok]) w' := fun w' hb => by
    have h2 := ((h.held hb).map).look_ok (t := 81) (e := 106) (by kernel_rfl) zero_route (i := ⟨a, len, fr⟩) hk
    rw [vals_some, ho, show (vals f ⟨a, len, fr⟩).getD (rV Rt.zero) = rV ((f ⟨a, len, fr⟩).getD Rt.zero) by unfold vals; cases f ⟨a, len, fr⟩ <;> rfl, hr] at h2
    exact h2
  have c0 := h.head.ten
  have tl := h.head.lt
  clear h hr ho
  go_enter Tryz.func61, Tryz.ntmps61
  go_wp2_with fail
  have KB := (Blk.new w 36 #[.int .u32 a, .int .i64 len]).more (.cells #[.int .i64 0, .int .u32 0, .int .u32 0, .int .u16 0, .int .i64 0] 106)
  have RB := Blk.new (w.alloc (.cells #[.int .u32 a, .int .i64 len] 36)) 106 #[.int .i64 0, .int .u32 0, .int .u32 0, .int .u16 0, .int .i64 0]
  have hb2 := next (below_new w (.cells #[.int .u32 a, .int .i64 len] 36)) (below_new _ (.cells #[.int .i64 0, .int .u32 0, .int .u32 0, .int .u16 0, .int .i64 0] 106))
  have hz : ((w.alloc (.cells #[.int .u32 a, .int .i64 len] 36)).alloc (.cells #[.int .i64 0, .int .u32 0, .int .u32 0, .int .u16 0, .int .i64 0] 106)).heap.size = w.heap.size + 2 := by rw [size_new, size_new]
  rw [size_new] at RB
  generalize (w.alloc (.cells #[.int .u32 a, .int .i64 len] 36)).alloc (.cells #[.int .i64 0, .int .u32 0, .int .u32 0, .int .u16 0, .int .i64 0] 106) = W at *
  have fc := held hb2 c0
  have k0 := KB.at_ 0
  have k1 := KB.at_ 1
  have dW : t < W.heap.size := by omega
  have kW : w.heap.size < W.heap.size := by omega
  have fc3 := held (below_new W (.cells #[.int .i64 0, .int .u32 0, .int .u32 0, .int .u16 0, .int .i64 0] 106)) fc
  have k03 := held (below_new W (.cells #[.int .i64 0, .int .u32 0, .int .u32 0, .int .u16 0, .int .i64 0] 106)) k0
  have k13 := held (below_new W (.cells #[.int .i64 0, .int .u32 0, .int .u32 0, .int .u16 0, .int .i64 0] 106)) k1
  have q1 := hlook _ hb2.drew
  have q2 := hlook _ (next hb2 (below_new W (.cells #[.int .i64 0, .int .u32 0, .int .u32 0, .int .u16 0, .int .i64 0] 106))).drew
  have HR := Lib.hid RB
  clear hlook c0 RB
  go_region
  all_goals
    have hb4 := next hb2 (below_new W (.cells #[.int .i64 fr', .int .u32 id, .int .u32 seq, .int .u16 met, .int .i64 exp] 106)).drew
    have R2 := (HR.out.more (.cells #[.int .i64 fr', .int .u32 id, .int .u32 seq, .int .u16 met, .int .i64 exp] 106)).drew
    have N2 := (Blk.new W 106 #[.int .i64 fr', .int .u32 id, .int .u32 seq, .int .u16 met, .int .i64 exp]).drew
    rw [hz] at N2
    have hsV : w.heap.size + 1 < (W.alloc (.cells #[.int .i64 fr', .int .u32 id, .int .u32 seq, .int .u16 met, .int .i64 exp] 106)).drew.heap.size := R2.lt
    clear q1 q2 fc3 k03 k13 fc k0 k1 KB hb2
    generalize (W.alloc (.cells #[.int .i64 fr', .int .u32 id, .int .u32 seq, .int .u16 met, .int .i64 exp] 106)).drew = V at *
    have r0 := R2.at_ 0
    have r1 := R2.at_ 1
    have r2 := R2.at_ 2
    have r3 := R2.at_ 3
    have r4 := R2.at_ 4
    have g0 := R2.free 0
    have g1 := R2.free 1
    have g2 := R2.free 2
    have g3 := R2.free 3
    have g4 := R2.free 4
    have n0 := N2.at_ 0
    have n1 := N2.at_ 1
    have n2 := N2.at_ 2
    have n3 := N2.at_ 3
    have n4 := N2.at_ 4
    go_wp2_with fail
    have R4 := ((((R2.store 0 (.int .i64 fr')).store 1 (.int .u32 id)).store 2 (.int .u32 seq)).store 3 (.int .u16 met)).store 4 (.int .i64 exp)
    have hb5 : Below w.heap.size w (((((V.setCell ⟨w.heap.size + 1, 0, none⟩ (.int .i64 fr')).setCell ⟨w.heap.size + 1, 1, none⟩ (.int .u32 id)).setCell ⟨w.heap.size + 1, 2, none⟩ (.int .u32 seq)).setCell ⟨w.heap.size + 1, 3, none⟩ (.int .u16 met)).setCell ⟨w.heap.size + 1, 4, none⟩ (.int .i64 exp)) :=
      ((((hb4.setCell (by simp) _).setCell (by simp) _).setCell (by simp) _).setCell (by simp) _).setCell (by simp) _
    have q0 := R4.at_ 0
    have q1 := R4.at_ 1
    have q2 := R4.at_ 2
    have q3 := R4.at_ 3
    have q4 := R4.at_ 4
    refine bodyPost_ret (v := .tuple #[rV ⟨fr', id, seq, met, exp⟩, .bool ok]) ?_ rfl ⟨rfl, hb5⟩
    generalize ((((V.setCell ⟨w.heap.size + 1, 0, none⟩ (.int .i64 fr')).setCell ⟨w.heap.size + 1, 1, none⟩ (.int .u32 id)).setCell ⟨w.heap.size + 1, 2, none⟩ (.int .u32 seq)).setCell ⟨w.heap.size + 1, 3, none⟩ (.int .u16 met)).setCell ⟨w.heap.size + 1, 4, none⟩ (.int .i64 exp) = Z at *
    clear hsV R2 N2 R4 r0 r1 r2 r3 r4 g0 g1 g2 g3 g4 n0 n1 n2 n3 n4 hb4
    simp [results, Tryz.results61, go_sem, q0, q1, q2, q3, q4, rV]

set_option maxHeartbeats 2000000 in
theorem rt_set [Ten X] {w : World} {t n : Nat} {o : Option Nat} {f : Ways} (h : Tb X w t o n f) (hn : n < 100000) (a : Nat) (len : Int) (r : Rt) (hk : Rk.ok ⟨a, len, r.fr⟩) :
    Calls Tryz.prog 60 #[.pointer (some ⟨t, 10, none⟩), .agg #[.int .u32 a, .int .i64 len], rV r] w fun e w' => e = .returned (.tuple #[]) ∧ ∃ b n', Tb X w' t (some b) n' (putR f ⟨a, len, r.fr⟩ r) ∧ n' ≤ n + 1 ∧ Turn (t :: o.toList) w w' ∧ (o = some b ∨ w.heap.size ≤ b) := by
  obtain ⟨fr, id, seq, met, exp⟩ := r
  have hlt := h.head.lt
  have c0 := h.head.ten
  have hn2 : n < maxLen := by unfold maxLen; omega
  have q : ∀ (w : World) (r : Option Nat), (binOp .eql 81 (.map r) (.map none)).run Tryz.prog w = .ok (.bool r.isNone) w := fun w r => run_eql_map_nil w _ _ _ r Tryz.underlying81
  have KV := Lib.hid h
  clear h
  show Calls _ _ #[_, _, .agg #[.int .i64 fr, .int .u32 id, .int .u32 seq, .int .u16 met, .int .i64 exp]] _ _
  have hb2 := next (below_new w (.cells #[.int .u32 a, .int .i64 len] 36)) (below_new _ (.cells #[.int .i64 fr, .int .u32 id, .int .u32 seq, .int .u16 met, .int .i64 exp] 106))
  have PB := (Blk.new w 36 #[.int .u32 a, .int .i64 len]).more (.cells #[.int .i64 fr, .int .u32 id, .int .u32 seq, .int .u16 met, .int .i64 exp] 106)
  have RB := Blk.new (w.alloc (.cells #[.int .u32 a, .int .i64 len] 36)) 106 #[.int .i64 fr, .int .u32 id, .int .u32 seq, .int .u16 met, .int .i64 exp]
  have hz : ((w.alloc (.cells #[.int .u32 a, .int .i64 len] 36)).alloc (.cells #[.int .i64 fr, .int .u32 id, .int .u32 seq, .int .u16 met, .int .i64 exp] 106)).heap.size = w.heap.size + 2 := by rw [size_new, size_new]
  rw [size_new] at RB
  have hmm := @run_makeMap Tryz.prog
  go_enter Tryz.func60, Tryz.ntmps60
  cases o with
  | some b =>
    have c2 := held hb2 c0
    have hdb := KV.out.ne (b := b) rfl
    go_wp2_with fail
    have TV := KV.out.held hb2
    have HTV : Turn [t, b] w _ := Turn.of_below _ hb2
    generalize ((w.alloc (.cells #[.int .u32 a, .int .i64 len] 36)).alloc (.cells #[.int .i64 fr, .int .u32 id, .int .u32 seq, .int .u16 met, .int .i64 exp] 106)) = W at *
    have HM : Mk rkE W b n (vals f) := TV.map
    have HB := TV.head
    have PW := PB
    have RW := RB
    clear TV PB RB KV c0 c2 q hmm
    obtain ⟨w4, hu, hM4, hg4, -⟩ := (Mk.of_block (w' := W.drew) HM rfl).store (t := 81) (e := 106) (by kernel_rfl) hn2 (i := ⟨a, len, fr⟩) hk (rV ⟨fr, id, seq, met, exp⟩)
    have hu : (Instr.mapUpdate 81 (.map (some b)) (.agg #[.int .u32 a, .int .i64 len, .int .i64 fr]) (.agg #[.int .i64 fr, .int .u32 id, .int .u32 seq, .int .u16 met, .int .i64 exp])).run Tryz.prog W.drew = .ok () w4 := hu
    have k0 := PW.at_ 0
    have k1 := PW.at_ 1
    have v0 := RW.at_ 0
    have v1 := RW.at_ 1
    have v2 := RW.at_ 2
    have v3 := RW.at_ 3
    have v4 := RW.at_ 4
    have t0 : W.cell? ⟨t, 10, none⟩ = some (.map (some b)) := HB.ten
    have HB4 := HB.drew.turn (Turn.of_grown hg4 (List.mem_singleton.2 rfl)) (by simpa using hdb)
    have Z := Lib.hid (And.intro HB4 (And.intro hM4 hg4))
    clear HB4 hM4 hg4 HM HB PW RW
    go_region
    all_goals
      refine bodyPost_end (v := .tuple #[]) (results_none rfl _ _ _) rfl ?_
      have hM := Z.out.2.1
      rw [← vals_put] at hM
      exact ⟨rfl, b, _, ⟨Z.out.1, hM⟩, by split <;> omega, HTV.drew.trans (Turn.of_grown Z.out.2.2 (by simp)), .inl rfl⟩
  | none =>
    have f3 := (((KV.out.head.more (.cells #[.int .u32 a, .int .i64 len] 36)).more (.cells #[.int .i64 fr, .int .u32 id, .int .u32 seq, .int .u16 met, .int .i64 exp] 106)).more (.map #[] 0)).free 10
    have c2 := held hb2 c0
    have c3 := held (next hb2 (below_new _ (.map #[] 0))) c0
    go_wp2_with fail
    have hf0 : n = 0 ∧ ∀ x, vals f x = none := KV.out.map
    obtain ⟨b, hbz⟩ : ∃ b, b = w.heap.size + 2 := ⟨_, rfl⟩
    have HM0 : Mk rkE (((w.alloc (.cells #[.int .u32 a, .int .i64 len] 36)).alloc (.cells #[.int .i64 fr, .int .u32 id, .int .u32 seq, .int .u16 met, .int .i64 exp] 106)).alloc (.map #[] 0)) b 0 (fun _ => none) := by
      have h0 := Mk.new rkE ((w.alloc (.cells #[.int .u32 a, .int .i64 len] 36)).alloc (.cells #[.int .i64 fr, .int .u32 id, .int .u32 seq, .int .u16 met, .int .i64 exp] 106))
      rw [hz, ← hbz] at h0
      exact h0
    have hdb : t ≠ b := by omega
    have HB0 := ((KV.out.head.held hb2).more (.map #[] 0)).store 10 (.map (some b))
    have HM1 := HM0.of_block (w' := (((w.alloc (.cells #[.int .u32 a, .int .i64 len] 36)).alloc (.cells #[.int .i64 fr, .int .u32 id, .int .u32 seq, .int .u16 met, .int .i64 exp] 106)).alloc (.map #[] 0)).setCell ⟨t, 10, none⟩ (.map (some b))) (Below.heap_setCell _ _ _ _ (Ne.symm hdb))
    have PW := (PB.more (.map #[] 0)).away (p := ⟨t, 10, none⟩) (by show w.heap.size ≠ t; omega) (.map (some b))
    have RW := (RB.more (.map #[] 0)).away (p := ⟨t, 10, none⟩) (by show w.heap.size + 1 ≠ t; omega) (.map (some b))
    have HTV : Turn [t] w ((((w.alloc (.cells #[.int .u32 a, .int .i64 len] 36)).alloc (.cells #[.int .i64 fr, .int .u32 id, .int .u32 seq, .int .u16 met, .int .i64 exp] 106)).alloc (.map #[] 0)).setCell ⟨t, 10, none⟩ (.map (some b))) := ((Turn.of_below [t] hb2).alloc _).trans (Turn.setCell _ (p := ⟨t, 10, none⟩) (by simp) _)
    have hbe : (w.heap.size + 1 + 1) = b := by omega
    have hvf : vals f = fun _ => none := funext hf0.2
    have F0 := Lib.hid (And.intro hf0.1 (And.intro hvf hbz))
    clear HM0 PB RB KV c0 c2 c3 f3 q hmm hf0 hvf
    simp only [hbe]
    clear hbe hz
    generalize ((((w.alloc (.cells #[.int .u32 a, .int .i64 len] 36)).alloc (.cells #[.int .i64 fr, .int .u32 id, .int .u32 seq, .int .u16 met, .int .i64 exp] 106)).alloc (.map #[] 0)).setCell ⟨t, 10, none⟩ (.map (some b))) = W at *
    have HM := HM1
    have HB : Blk 88 W t (X (some b)) := by rw [← Ten.set (X := X) none]; exact HB0
    clear HM1 HB0 hbz
    obtain ⟨w4, hu, hM4, hg4, -⟩ := (Mk.of_block (w' := W.drew) HM rfl).store (t := 81) (e := 106) (by kernel_rfl) (show 0 < maxLen by unfold maxLen; omega) (i := ⟨a, len, fr⟩) hk (rV ⟨fr, id, seq, met, exp⟩)
    have hu : (Instr.mapUpdate 81 (.map (some b)) (.agg #[.int .u32 a, .int .i64 len, .int .i64 fr]) (.agg #[.int .i64 fr, .int .u32 id, .int .u32 seq, .int .u16 met, .int .i64 exp])).run Tryz.prog W.drew = .ok () w4 := hu
    have k0 := PW.at_ 0
    have k1 := PW.at_ 1
    have v0 := RW.at_ 0
    have v1 := RW.at_ 1
    have v2 := RW.at_ 2
    have v3 := RW.at_ 3
    have v4 := RW.at_ 4
    have t0 : W.cell? ⟨t, 10, none⟩ = some (.map (some b)) := HB.ten
    have HB4 := HB.drew.turn (Turn.of_grown hg4 (List.mem_singleton.2 rfl)) (by simpa using hdb)
    have Z := Lib.hid (And.intro HB4 (And.intro hM4 hg4))
    clear HB4 hM4 hg4 HM HB PW RW
    go_region
    all_goals
      refine bodyPost_end (v := .tuple #[]) (results_none rfl _ _ _) rfl ?_
      have hM := Z.out.2.1
      rw [← F0.out.2.1, ← vals_put] at hM
      exact ⟨rfl, b, _, ⟨Z.out.1, hM⟩, by split <;> omega, HTV.drew.fresh (Turn.of_grown (L := [b]) Z.out.2.2 (by simp)) (by have := F0.out.2.2; omega), .inr (by have := F0.out.2.2; omega)⟩
end Go.Proofs.YtmhcjhbmeohjdaaGreat

namespace Go.Proofs.YtmhcjhbmeohjdaaGreat.T.Tm

/-- what a router tells -/
structure Up where
  a : Nat
  len : Int
  id : Nat
  seq : Nat
  met : Nat
deriving DecidableEq
structure Up.Fits (u : Up) : Prop where
  a : u.a < 4294967296
  n1 : -9223372036854775808 ≤ u.len
  n2 : u.len ≤ 9223372036854775807
  id : u.id < 4294967296
  seq : u.seq < 4294967296
  met : u.met < 65536
/-- can it be told? -/
def right (u : Up) : Bool := Am.right u.a u.len && decide (u.seq ≤ 1073741824) && (if u.met = 65535 then u.id == 0 && u.seq == 0 else u.id != 0)

def four (n : Nat) : List Nat := [n / 16777216 % 256, n / 65536 % 256, n / 256 % 256, n % 256]
def two (n : Nat) : List Nat := [n / 256 % 256, n % 256]
/-- how many bytes n bits take -/
def nb (n : Nat) : Nat := (n + 7) / 8
def body (u : Up) : List Nat := u.len.toNat :: (four u.seq ++ two u.met ++ (four u.a).take (nb u.len.toNat))
def parts (u : Up) (id : Nat) : List Nat := (if u.id = id then [] else 2 :: 4 :: four u.id) ++ 3 :: (7 + nb u.len.toNat) :: body u
def page (b : List Nat) : List Nat := 87 :: 1 :: (two b.length ++ b)
/-- the datagrams without their heads, where cur is under way (none, if it is empty) and id was named last -/
def pages (cur : List Nat) (id : Nat) : List Up → List (List Nat)
  | [] => if cur = [] then [] else [cur]
  | u :: r =>
    if right u = false then pages cur id r
    else if 1024 < cur.length + (parts u id).length + 4 then cur :: pages (parts u 0) u.id r
    else pages (cur ++ parts u id) u.id r
def encode (l : List Up) : List (List Nat) := (pages [] 0 l).map page

def val (b : List Nat) : Nat := b.foldl (fun s c => s * 256 + c) 0
/-- what a distance's body tells -/
def told (x : List Nat) (id : Nat) : Option Up :=
  if x.length < 7 then none
  else if x.length ≠ 7 + nb (x.getD 0 0) then none
  else
    let u : Up := ⟨val ((x.drop 7 ++ [0, 0, 0, 0]).take 4), x.getD 0 0, if val ((x.drop 5).take 2) = 65535 then 0 else id, val ((x.drop 1).take 4), val ((x.drop 5).take 2)⟩
    if right u then some u else none
def walk (id : Nat) (b : List Nat) : Option (List Up) :=
  match b with
  | [] => some []
  | k :: r =>
    if k = 0 then walk id r
    else match r with
      | [] => none
      | n :: r => if r.length < n then none else
        let id' := if k = 2 ∧ n = 4 then val (r.take n) else id
        (walk id' (r.drop n)).map fun l => (if k = 3 then (told (r.take n) id').toList else []) ++ l
termination_by b.length
decreasing_by all_goals simp_all; try omega
def headed (b : List Nat) : Bool := decide (4 ≤ b.length ∧ b.length ≤ 1024 ∧ b.getD 0 0 = 87 ∧ b.getD 1 0 = 1 ∧ b.getD 2 0 * 256 + b.getD 3 0 = b.length - 4)
def decode (b : List Nat) : Option (List Up) := if headed b then walk 0 (b.drop 4) else none

/-! ### facts -/
theorem right_len {u : Up} (h : right u = true) : 0 ≤ u.len ∧ u.len ≤ 32 := by
  unfold right Am.right at h
  simp only [Bool.and_eq_true, decide_eq_true_eq] at h
  exact h.1.1.1
theorem right_seq {u : Up} (h : right u = true) : u.seq ≤ 1073741824 := by
  unfold right at h
  simp only [Bool.and_eq_true, decide_eq_true_eq] at h
  exact h.1.2
theorem right_am {u : Up} (h : right u = true) : Am.right u.a u.len = true := by
  unfold right at h
  simp only [Bool.and_eq_true] at h
  exact h.1.1
theorem right_id {u : Up} (h : right u = true) : (if u.met = 65535 then 0 else u.id) = u.id := by
  unfold right at h
  simp only [Bool.and_eq_true] at h
  have h2 := h.2
  split at h2
  · simp only [Bool.and_eq_true, beq_iff_eq] at h2
    rw [if_pos (by assumption), h2.1]
  · rw [if_neg (by assumption)]
theorem four_length (n : Nat) : (four n).length = 4 := rfl
theorem two_length (n : Nat) : (two n).length = 2 := rfl
theorem four_lt (n : Nat) : ∀ c ∈ four n, c < 256 := by
  intro c hc
  simp only [four, List.mem_cons, List.not_mem_nil, or_false] at hc
  omega
theorem two_lt (n : Nat) : ∀ c ∈ two n, c < 256 := by
  intro c hc
  simp only [two, List.mem_cons, List.not_mem_nil, or_false] at hc
  omega
theorem nb_le {n : Nat} (h : n ≤ 32) : nb n ≤ 4 := by unfold nb; omega
theorem body_length {u : Up} (h : right u = true) : (body u).length = 7 + nb u.len.toNat := by
  have := right_len h
  have := nb_le (n := u.len.toNat) (by omega)
  simp only [body, List.length_cons, List.length_append, four_length, two_length, List.length_take]
  omega
theorem body_lt {u : Up} (h : right u = true) : ∀ c ∈ body u, c < 256 := by
  intro c hc
  have := right_len h
  simp only [body, List.mem_cons, List.mem_append] at hc
  rcases hc with rfl | (hc | hc) | hc
  · omega
  · exact four_lt _ c hc
  · exact two_lt _ c hc
  · exact four_lt _ c (List.mem_of_mem_take hc)
theorem parts_lt {u : Up} (h : right u = true) (id : Nat) : ∀ c ∈ parts u id, c < 256 := by
  intro c hc
  have := right_len h
  have := nb_le (n := u.len.toNat) (by omega)
  simp only [parts, List.mem_append, List.mem_cons] at hc
  rcases hc with hc | rfl | rfl | hc
  · split at hc
    · simp at hc
    · simp only [List.mem_cons] at hc
      rcases hc with rfl | rfl | hc
      · omega
      · omega
      · exact four_lt _ c hc
  · omega
  · omega
  · exact body_lt h c hc
theorem parts_le {u : Up} (h : right u = true) (id : Nat) : (parts u id).length ≤ 19 := by
  have := right_len h
  have := nb_le (n := u.len.toNat) (by omega)
  have := body_length h
  unfold parts
  split <;> simp [four_length] <;> omega
theorem parts_ne (u : Up) (id : Nat) : parts u id ≠ [] := by unfold parts; split <;> simp

theorem val_four (n : Nat) (h : n < 4294967296) : val (four n) = n := by simp only [val, four, List.foldl]; omega
theorem val_two (n : Nat) (h : n < 65536) : val (two n) = n := by simp only [val, two, List.foldl]; omega
/-- the bytes that are left out are noughts -/
theorem pad_four {a n : Nat} (ha : a < 4294967296) (hn : n ≤ 32) (h : a % 2 ^ (32 - n) = 0) : val (((four a).take (nb n) ++ [0, 0, 0, 0]).take 4) = a := by
  have e : (four a).take (nb n) ++ (four a).drop (nb n) = four a := List.take_append_drop _ _
  have hd : ((four a).take (nb n) ++ [0, 0, 0, 0]).take 4 = four a := by
    have hk : nb n = 0 ∨ nb n = 1 ∨ nb n = 2 ∨ nb n = 3 ∨ nb n = 4 := by have := nb_le hn; omega
    have hdv : ∀ k, n ≤ k → k ≤ 32 → 2 ^ (32 - k) ∣ a := fun k h1 h2 => Nat.dvd_trans (Nat.pow_dvd_pow 2 (by omega)) (Nat.dvd_of_mod_eq_zero h)
    rcases hk with hk | hk | hk | hk | hk
    · have := hdv 0 (by unfold nb at hk; omega) (by omega)
      obtain ⟨q, hq⟩ := this
      rw [hk]; simp [four]; omega
    · have := hdv 8 (by unfold nb at hk; omega) (by omega)
      obtain ⟨q, hq⟩ := this
      rw [hk]; simp [four]; omega
    · have := hdv 16 (by unfold nb at hk; omega) (by omega)
      obtain ⟨q, hq⟩ := this
      rw [hk]; simp [four]; omega
    · have := hdv 24 (by unfold nb at hk; omega) (by omega)
      obtain ⟨q, hq⟩ := this
      rw [hk]; simp [four]; omega
    · rw [hk]; simp [four]
  rw [hd, val_four a ha]
theorem told_body {u : Up} (h : right u = true) (hf : u.Fits) : told (body u) u.id = some u := by
  have hl := right_len h
  have hb := body_length h
  have hid := right_id h
  have ha := right_am h
  have hseq := val_four u.seq hf.seq
  have hmet := val_two u.met hf.met
  obtain ⟨n, hn⟩ := Int.eq_ofNat_of_zero_le hl.1
  have hn32 : n ≤ 32 := by omega
  have h0 : (body u).getD 0 0 = u.len.toNat := by simp [body]
  have e1 : ((body u).drop 1).take 4 = four u.seq := rfl
  have e2 : ((body u).drop 5).take 2 = two u.met := rfl
  have e3 : (body u).drop 7 = (four u.a).take (nb u.len.toNat) := rfl
  unfold told
  rw [if_neg (by omega), h0, if_neg (by omega), e1, e2, e3, hseq, hmet, hid]
  have hm : u.a % 2 ^ (32 - n) = 0 := by
    rw [hn] at ha
    rw [Am.right_in hn32] at ha
    exact of_decide_eq_true ha
  have e4 : u.len.toNat = n := by omega
  rw [e4, pad_four hf.a hn32 hm]
  have e5 : (⟨u.a, (n : Int), u.id, u.seq, u.met⟩ : Up) = u := by
    cases u; simp_all
  simp only [e5, h, if_true]

theorem walk_nil (id : Nat) : walk id [] = some [] := by unfold walk; rfl
theorem walk_zero (id : Nat) (r : List Nat) : walk id (0 :: r) = walk id r := by rw [walk.eq_def]; simp
theorem walk_part (id k n : Nat) (x r : List Nat) (hk : k ≠ 0) (hn : x.length = n) :
    walk id (k :: n :: (x ++ r)) = (walk (if k = 2 ∧ n = 4 then val x else id) r).map fun l => (if k = 3 then (told x (if k = 2 ∧ n = 4 then val x else id)).toList else []) ++ l := by
  subst hn
  rw [walk.eq_def]
  simp only [if_neg hk]
  rw [if_neg (by simp)]
  simp only [List.take_left, List.drop_left]
theorem walk_parts {u : Up} (h : right u = true) (hf : u.Fits) (id : Nat) (r : List Nat) : walk id (parts u id ++ r) = (walk u.id r).map (u :: ·) := by
  have hb := body_length h
  have key : walk u.id ((3 :: (7 + nb u.len.toNat) :: body u) ++ r) = (walk u.id r).map (u :: ·) := by
    rw [List.cons_append, List.cons_append, walk_part u.id 3 _ (body u) r (by omega) hb]
    simp [told_body h hf]
  unfold parts
  split
  · rename_i e
    rw [List.nil_append, ← e]
    exact key
  · rw [List.append_assoc, List.cons_append, List.cons_append, walk_part id 2 4 (four u.id) _ (by omega) rfl]
    have e2 : (if (2 : Nat) = 2 ∧ (4 : Nat) = 4 then val (four u.id) else id) = u.id := by rw [if_pos ⟨rfl, rfl⟩, val_four u.id hf.id]
    rw [e2, key, if_neg (show ¬ (2 : Nat) = 3 by decide)]
    cases walk u.id r <;> rfl

/-! ### the datagrams of a list hold just what of it can be told -/
end Go.Proofs.YtmhcjhbmeohjdaaGreat.T.Tm

namespace Go.Proofs.YtmhcjhbmeohjdaaGreat.T.Tm

theorem pages_back : ∀ (l : List Up) (cur : List Nat) (id : Nat) (us : List Up), (∀ u ∈ l, u.Fits) → (∀ r, walk 0 (cur ++ r) = (walk id r).map (us ++ ·)) →
    ∃ L : List (List Up), (pages cur id l).map (walk 0) = L.map some ∧ L.flatten = us ++ l.filter (fun u => right u)
  | [], cur, id, us, _, hc => by
    have h0 := hc []
    rw [List.append_nil, walk_nil] at h0
    simp only [Option.map_some, List.append_nil] at h0
    unfold pages
    by_cases e : cur = []
    · subst e
      rw [walk_nil] at h0
      cases h0
      exact ⟨[], by simp, by simp⟩
    · rw [if_neg e]
      exact ⟨[us], by simp [h0], by simp⟩
  | u :: r, cur, id, us, hf, hc => by
    have hfu := hf u (List.mem_cons_self ..)
    have hfr : ∀ x ∈ r, x.Fits := fun x hx => hf x (List.mem_cons_of_mem _ hx)
    unfold pages
    by_cases hr : right u = true
    · rw [if_neg (by simp [hr])]
      by_cases hb : 1024 < cur.length + (parts u id).length + 4
      · rw [if_pos hb]
        obtain ⟨L, h1, h2⟩ := pages_back r (parts u 0) u.id [u] hfr (fun r' => by rw [walk_parts hr hfu]; rfl)
        have h0 := hc []
        rw [List.append_nil, walk_nil] at h0
        simp only [Option.map_some, List.append_nil] at h0
        refine ⟨us :: L, by simp [h0, h1], ?_⟩
        simp [h2, hr]
      · rw [if_neg hb]
        obtain ⟨L, h1, h2⟩ := pages_back r (cur ++ parts u id) u.id (us ++ [u]) hfr (fun r' => by
          rw [List.append_assoc, hc, walk_parts hr hfu]
          cases walk u.id r' <;> simp)
        exact ⟨L, h1, by simp [h2, hr]⟩
    · have hr' : right u = false := by simpa using hr
      rw [if_pos hr']
      obtain ⟨L, h1, h2⟩ := pages_back r cur id us hfr hc
      exact ⟨L, h1, by simp [h2, hr']⟩
theorem pages_fine : ∀ (l : List Up) (cur : List Nat) (id : Nat), cur.length + 4 ≤ 1024 → (∀ c ∈ cur, c < 256) → ∀ b ∈ pages cur id l, b ≠ [] ∧ b.length + 4 ≤ 1024 ∧ ∀ c ∈ b, c < 256
  | [], cur, id, h1, h2 => by
    intro b hb
    unfold pages at hb
    split at hb
    · cases hb
    · rename_i e
      rw [List.mem_singleton.1 hb]
      exact ⟨e, h1, h2⟩
  | u :: r, cur, id, h1, h2 => by
    intro b hb
    unfold pages at hb
    split at hb
    · exact pages_fine r cur id h1 h2 b hb
    · rename_i hr
      have hr' : right u = true := by simpa using hr
      have hp := parts_le hr' 0
      split at hb
      · rcases List.mem_cons.1 hb with rfl | hb
        · refine ⟨fun e => ?_, h1, h2⟩
          subst e
          have := parts_le hr' id
          rename_i hbig
          simp only [List.length_nil] at hbig
          omega
        · exact pages_fine r _ _ (by omega) (parts_lt hr' 0) b hb
      · exact pages_fine r _ _ (by simp; omega) (fun c hc => (List.mem_append.1 hc).elim (h2 c) (parts_lt hr' id c)) b hb
theorem page_length (b : List Nat) : (page b).length = b.length + 4 := by simp [page, two_length]; omega
theorem page_lt {b : List Nat} (h : ∀ c ∈ b, c < 256) : ∀ c ∈ page b, c < 256 := by
  intro c hc
  simp only [page, List.mem_cons, List.mem_append] at hc
  rcases hc with rfl | rfl | hc | hc
  · omega
  · omega
  · exact two_lt _ c hc
  · exact h c hc
theorem page_number {b : List Nat} (h : b.length + 4 ≤ 1024) : (page b).getD 2 0 * 256 + (page b).getD 3 0 = b.length := by
  simp only [page, two, List.cons_append, List.nil_append, List.getD_cons_succ, List.getD_cons_zero]
  omega
theorem decode_page {b : List Nat} (h : b.length + 4 ≤ 1024) : decode (page b) = walk 0 b := by
  have e : headed (page b) = true := by
    unfold headed
    rw [decide_eq_true_eq, page_number h, page_length]
    exact ⟨by omega, h, rfl, rfl, by omega⟩
  unfold decode
  rw [if_pos e]
  rfl
theorem encode_back (l : List Up) (hf : ∀ u ∈ l, u.Fits) : ∃ L : List (List Up), (encode l).map decode = L.map some ∧ L.flatten = l.filter (fun u => right u) := by
  obtain ⟨L, h1, h2⟩ := pages_back l [] 0 [] hf (fun r => by rw [List.nil_append]; cases walk 0 r <;> simp)
  refine ⟨L, ?_, by simpa using h2⟩
  rw [← h1, encode, List.map_map]
  apply List.map_congr_left
  intro b hb
  exact decode_page (pages_fine l [] 0 (by simp) (by simp) b hb).2.1
theorem encode_fine (l : List Up) : ∀ p ∈ encode l, 4 < p.length ∧ p.length ≤ 1024 ∧ (∀ c ∈ p, c < 256) ∧ ∃ b, p = page b ∧ b.length + 4 ≤ 1024 := by
  intro p hp
  obtain ⟨b, hb, rfl⟩ := List.mem_map.1 hp
  obtain ⟨h0, h1, h2⟩ := pages_fine l [] 0 (by simp) (by simp) b hb
  have : 0 < b.length := List.length_pos_iff.2 h0
  exact ⟨by rw [page_length]; omega, by rw [page_length]; omega, page_lt h2, b, rfl, h1⟩

/-! ### cut off, or with more behind -/
theorem headed_number {x : List Nat} (h : headed x = true) : x.getD 2 0 * 256 + x.getD 3 0 = x.length - 4 ∧ 4 ≤ x.length := by
  unfold headed at h
  rw [decide_eq_true_eq] at h
  exact ⟨h.2.2.2.2, h.1⟩
theorem cut_none {b : List Nat} (h : b.length + 4 ≤ 1024) {k : Nat} (hk : k < b.length + 4) : decode ((page b).take k) = none := by
  unfold decode
  by_cases e : headed ((page b).take k) = true
  · exfalso
    obtain ⟨h1, h2⟩ := headed_number e
    have hl : ((page b).take k).length = k := by rw [List.length_take, page_length]; omega
    have g : ∀ i, i < k → ((page b).take k).getD i 0 = (page b).getD i 0 := fun i hi => by simp [List.getD_eq_getElem?_getD, hi]
    rw [g 2 (by omega), g 3 (by omega), page_number h] at h1
    omega
  · rw [if_neg e]
theorem more_none {b m : List Nat} (h : b.length + 4 ≤ 1024) (hm : m ≠ []) : decode (page b ++ m) = none := by
  unfold decode
  by_cases e : headed (page b ++ m) = true
  · exfalso
    obtain ⟨h1, h2⟩ := headed_number e
    have : 0 < m.length := List.length_pos_iff.2 hm
    have g : ∀ i, i < 4 → (page b ++ m).getD i 0 = (page b).getD i 0 := fun i hi => by
      simp only [List.getD_eq_getElem?_getD]
      rw [List.getElem?_append_left (by rw [page_length]; omega)]
    rw [g 2 (by omega), g 3 (by omega), page_number h, List.length_append, page_length] at h1
    omega
  · rw [if_neg e]

/-! ### what is read can be told -/
theorem val_snoc (b : List Nat) (c : Nat) : val (b ++ [c]) = val b * 256 + c := by simp [val]
theorem val_lt : ∀ (k : Nat) (b : List Nat), b.length ≤ k → (∀ c ∈ b, c < 256) → val b < 256 ^ k
  | 0, b, h, _ => by rw [List.length_eq_zero_iff.1 (Nat.le_zero.1 h)]; simp [val]
  | k + 1, b, h, hb => by
    by_cases hne : b = []
    · subst hne
      exact Nat.pow_pos (by omega)
    · have e := (List.dropLast_concat_getLast hne).symm
      have ih := val_lt k b.dropLast (by simp; omega) (fun c hc => hb c ((List.dropLast_sublist b).mem hc))
      have hc := hb _ (List.getLast_mem hne)
      rw [e, val_snoc, Nat.pow_succ]
      omega
theorem getD_lt {b : List Nat} (h : ∀ c ∈ b, c < 256) (i : Nat) : b.getD i 0 < 256 := by
  rw [List.getD_eq_getElem?_getD]
  cases e : b[i]? with
  | none => simp
  | some c => simpa using h c (List.mem_of_getElem? e)
theorem told_fine {x : List Nat} {id : Nat} (hx : ∀ c ∈ x, c < 256) (hid : id < 4294967296) {u : Up} (h : told x id = some u) : right u = true ∧ u.Fits := by
  unfold told at h
  split at h
  · cases h
  · split at h
    · cases h
    · obtain ⟨id', hid', e⟩ : ∃ id', id' < 4294967296 ∧ (if val ((x.drop 5).take 2) = 65535 then 0 else id) = id' := ⟨_, by split <;> omega, rfl⟩
      rw [e] at h
      dsimp only at h
      by_cases hr : right ⟨val ((x.drop 7 ++ [0, 0, 0, 0]).take 4), x.getD 0 0, id', val ((x.drop 1).take 4), val ((x.drop 5).take 2)⟩ = true
      · rw [if_pos hr, Option.some.injEq] at h
        subst h
        refine ⟨hr, ?_⟩
        have g := getD_lt hx 0
        have l4 : ∀ y : List Nat, (∀ c ∈ y, c < 256) → val (y.take 4) < 4294967296 := fun y hy => val_lt 4 _ (by simp; omega) (fun c hc => hy c (List.mem_of_mem_take hc))
        have l2 : ∀ y : List Nat, (∀ c ∈ y, c < 256) → val (y.take 2) < 65536 := fun y hy => val_lt 2 _ (by simp; omega) (fun c hc => hy c (List.mem_of_mem_take hc))
        have hd : ∀ k, ∀ c ∈ x.drop k, c < 256 := fun k c hc => hx c (List.mem_of_mem_drop hc)
        refine ⟨l4 _ (fun c hc => ?_), by dsimp only; omega, by dsimp only; omega, hid', l4 _ (hd 1), l2 _ (hd 5)⟩
        · rcases List.mem_append.1 hc with hc | hc
          · exact hd 7 c hc
          · simp at hc; omega
      · rw [if_neg hr] at h; cases h
theorem walk_fine : ∀ (n : Nat) (b : List Nat) (id : Nat), b.length ≤ n → (∀ c ∈ b, c < 256) → id < 4294967296 → ∀ us, walk id b = some us → ∀ u ∈ us, right u = true ∧ u.Fits
  | n, [], id, _, _, _ => by
    intro us h u hu
    rw [walk_nil] at h
    cases h; cases hu
  | 0, k :: r, id, hl, _, _ => by simp at hl
  | n + 1, k :: r, id, hl, hb, hid => by
    intro us h u hu
    simp only [List.length_cons] at hl
    have hbr : ∀ c ∈ r, c < 256 := fun c hc => hb c (List.mem_cons_of_mem _ hc)
    rw [walk.eq_def] at h
    simp only at h
    split at h
    · exact walk_fine n r id (by omega) hbr hid us h u hu
    · cases r with
      | nil => cases h
      | cons m r =>
        simp only at h
        simp only [List.length_cons] at hl
        have hbr2 : ∀ c ∈ r, c < 256 := fun c hc => hbr c (List.mem_cons_of_mem _ hc)
        split at h
        · cases h
        · have hid' : (if k = 2 ∧ m = 4 then val (r.take m) else id) < 4294967296 := by
            split
            · rename_i e
              rw [e.2]
              exact val_lt 4 _ (by simp; omega) (fun c hc => hbr2 c (List.mem_of_mem_take hc))
            · exact hid
          generalize (if k = 2 ∧ m = 4 then val (r.take m) else id) = id' at h hid'
          cases e : walk id' (r.drop m) with
          | none => rw [e] at h; cases h
          | some l =>
            rw [e] at h
            simp only [Option.map_some, Option.some.injEq] at h
            subst h
            rcases List.mem_append.1 hu with hu | hu
            · split at hu
              · rw [Option.mem_toList] at hu
                exact told_fine (fun c hc => hbr2 c (List.mem_of_mem_take hc)) hid' hu
              · cases hu
            · exact walk_fine n _ id' (by simp; omega) (fun c hc => hbr2 c (List.mem_of_mem_drop hc)) hid' l e u hu
theorem decode_fine {b : List Nat} (hb : ∀ c ∈ b, c < 256) {us : List Up} (h : decode b = some us) : ∀ u ∈ us, right u = true ∧ u.Fits := by
  unfold decode at h
  split at h
  · exact walk_fine _ _ 0 (Nat.le_refl _) (fun c hc => hb c (List.mem_of_mem_drop hc)) (by omega) us h
  · cases h
theorem walk_count : ∀ (n : Nat) (b : List Nat) (id : Nat), b.length ≤ n → ∀ us, walk id b = some us → us.length ≤ b.length
  | n, [], id, _ => by
    intro us h
    rw [walk_nil] at h
    cases h; simp
  | 0, k :: r, id, hl => by simp at hl
  | n + 1, k :: r, id, hl => by
    intro us h
    simp only [List.length_cons] at hl
    rw [walk.eq_def] at h
    simp only at h
    split at h
    · have := walk_count n r id (by omega) us h
      simp only [List.length_cons]; omega
    · cases r with
      | nil => cases h
      | cons m r =>
        simp only at h
        simp only [List.length_cons] at hl
        split at h
        · cases h
        · generalize (if k = 2 ∧ m = 4 then val (r.take m) else id) = id' at h
          cases e : walk id' (r.drop m) with
          | none => rw [e] at h; cases h
          | some l =>
            rw [e] at h
            simp only [Option.map_some, Option.some.injEq] at h
            subst h
            have := walk_count n _ id' (by simp; omega) l e
            have h1 : (if k = 3 then (told (r.take m) id').toList else []).length ≤ 1 := by
              split
              · cases told (r.take m) id' <;> simp
              · simp
            simp only [List.length_append, List.length_cons, List.length_drop] at this ⊢
            omega
end Go.Proofs.YtmhcjhbmeohjdaaGreat.T.Tm

set_option maxRecDepth 20000
namespace Go.Proofs.YtmhcjhbmeohjdaaGreat.T
open Go.RowKit Tm

/-- A slice's value that reads as these bytes; nil let in. -/
def BytesAt (w : World) (A : Option Addr) (n : Nat) (bs : List Nat) : Prop :=
  bs.length = n ∧ n ≤ maxLen ∧ (∀ c, c ∈ bs → c < 256) ∧ ∀ k, k < n → ∃ ad, A = some ad ∧ w.cell? (ad.add k) = some (.int .u8 (bs.getD k 0 : Nat))
theorem BytesAt.take_succ {w : World} {A : Option Addr} {n : Nat} {bs : List Nat} (h : BytesAt w A n bs) {k : Nat} (hk : k < n) : bs.take (k + 1) = bs.take k ++ [bs.getD k 0] := by
  have hl : k < bs.length := by have := h.1; omega
  rw [List.take_succ_eq_append_getElem hl]
  simp [List.getD, hl]
theorem BytesAt.takeAll {w : World} {A : Option Addr} {n : Nat} {bs : List Nat} (h : BytesAt w A n bs) : bs.take n = bs := by rw [← h.1, List.take_length]
theorem BytesAt.lt {w : World} {A : Option Addr} {n : Nat} {bs : List Nat} (h : BytesAt w A n bs) (k : Nat) : bs.getD k 0 < 256 := by
  rw [List.getD_eq_getElem?_getD]
  cases e : bs[k]? with
  | none => simp
  | some c => simpa using h.2.2.1 c (List.mem_of_getElem? e)
theorem BytesAt.take_lt {w : World} {A : Option Addr} {n : Nat} {bs : List Nat} (h : BytesAt w A n bs) (k : Nat) : ∀ c, c ∈ bs.take k → c < 256 :=
  fun c hc => h.2.2.1 c (List.mem_of_mem_take hc)

/-- bytes as cells -/
def cell (c : Nat) : Value := .int .u8 (c : Int)
def cls (b : List Nat) : Array Value := (b.map cell).toArray
/-- bytes as a string's -/
def toU (b : List Nat) : List UInt8 := b.map UInt8.ofNat
theorem toU_length (b : List Nat) : (toU b).length = b.length := by simp [toU]
theorem toU_at {b : List Nat} (hb : ∀ c ∈ b, c < 256) {j : Nat} (hj : j < (toU b).length) : ((toU b)[j].toNat : Int) = ((b.getD j 0 : Nat) : Int) := by
  have hj' : j < b.length := by rw [toU_length] at hj; exact hj
  have h1 : b[j] < 256 := hb _ (List.getElem_mem hj')
  simp [toU, hj', Nat.mod_eq_of_lt h1]
theorem toU_inj {b c : List Nat} (hb : ∀ x ∈ b, x < 256) (hc : ∀ x ∈ c, x < 256) (h : toU b = toU c) : b = c := by
  induction b generalizing c with
  | nil => cases c <;> simp [toU] at h ⊢
  | cons x r ih =>
    cases c with
    | nil => simp [toU] at h
    | cons y r' =>
      simp only [toU, List.map_cons, List.cons.injEq] at h
      have e : x = y := by
        have := congrArg UInt8.toNat h.1
        simpa [Nat.mod_eq_of_lt (hb x (by simp)), Nat.mod_eq_of_lt (hc y (by simp))] using this
      rw [e, ih (fun z hz => hb z (by simp [hz])) (fun z hz => hc z (by simp [hz])) h.2]
theorem BytesAt.held {w w' : World} {A : Option Addr} {n : Nat} {bs : List Nat} (h : BytesAt w A n bs) (hb : Below w.heap.size w w') : BytesAt w' A n bs :=
  ⟨h.1, h.2.1, h.2.2.1, fun k hk => by
    obtain ⟨ad, e, hc⟩ := h.2.2.2 k hk
    exact ⟨ad, e, Go.Proofs.YtmhcjhbmeohjdaaGreat.held hb hc⟩⟩
theorem BytesAt.of_blk {w : World} {g : Nat} {t : TypeId} {C : Array Value} (h : Blk t w g C) (bs : List Nat) (o n : Nat) (hn : n ≤ maxLen) (hl : bs.length = n) (hb : ∀ c ∈ bs, c < 256) (hC : ∀ k, k < n → C[o + k]? = some (cell (bs.getD k 0))) : BytesAt w (some ⟨g, o, none⟩) n bs :=
  ⟨hl, hn, hb, fun k hk => ⟨_, rfl, by rw [Addr.add_mid, h.at_ (o + k)]; exact hC k hk⟩⟩
theorem maxLen_small {n : Nat} (h : n ≤ 5000) : n ≤ maxLen := by unfold maxLen; omega
theorem cls_at (b : List Nat) (k : Nat) (hk : k < b.length) : (cls b)[k]? = some (cell (b.getD k 0)) := by simp [cls, hk]
theorem BytesAt.cls {w : World} {g : Nat} {t : TypeId} {b : List Nat} (h : Blk t w g (Go.Proofs.YtmhcjhbmeohjdaaGreat.T.cls b)) (hb : ∀ c ∈ b, c < 256) (hl : b.length ≤ 5000) : BytesAt w (some ⟨g, 0, none⟩) b.length b :=
  .of_blk h b 0 b.length (maxLen_small hl) rfl hb (fun k hk => by rw [Nat.zero_add]; exact cls_at b k hk)

theorem conv_str {w : World} {A : Option Addr} {n cap : Nat} {bs : List Nat} (h : BytesAt w A n bs) : (convert 43 9 (.slice A n cap)).run Tryz.prog w = .ok (.string ⟨(toU bs).toArray⟩) w := by
  obtain ⟨hl, hm, hb, hc⟩ := h
  rcases Nat.eq_zero_or_pos n with rfl | h0
  · obtain rfl := List.length_eq_zero_iff.1 hl
    rw [run_convert_bytes_string w 43 9 5 A 0 cap (by kernel_rfl) (by kernel_rfl) (by kernel_rfl)]
    cases A <;> rfl
  · obtain ⟨ad, rfl, -⟩ := hc 0 h0
    have e : n = (toU bs).length := by rw [toU_length, hl]
    rw [e]
    refine run_convert_bytes_back (P := Tryz.prog) w 43 9 5 ad cap (toU bs) (by kernel_rfl) (by kernel_rfl) (by kernel_rfl) (fun j hj => ?_)
    obtain ⟨ad', e', h'⟩ := hc j (by omega)
    cases e'
    rw [h', toU_at hb hj]

set_option maxHeartbeats 1000000 in
theorem put_four (g off cap : Nat) (v : Nat) (hv : v < 4294967296) (C : Array Value) (w : World) (h : Blk 5 w g C) (hs : off + 4 ≤ C.size) :
    Calls Tryz.prog 28 #[.slice (some ⟨g, off, none⟩) 4 cap, .int .u32 v] w fun e w' => e = .returned (.tuple #[]) ∧
      w' = (((w.setCell ⟨g, off, none⟩ (cell (v / 16777216 % 256))).setCell ⟨g, off + 1, none⟩ (cell (v / 65536 % 256))).setCell ⟨g, off + 2, none⟩ (cell (v / 256 % 256))).setCell ⟨g, off + 3, none⟩ (cell (v % 256)) := by
  have c0 : w.cell? ⟨g, off, none⟩ = some C[off] := (h.at_ off).trans (by simp)
  have c1 : w.cell? ⟨g, off + 1, none⟩ = some C[off + 1] := (h.at_ _).trans (by simp)
  have c2 : w.cell? ⟨g, off + 2, none⟩ = some C[off + 2] := (h.at_ _).trans (by simp)
  have c3 : w.cell? ⟨g, off + 3, none⟩ = some C[off + 3] := (h.at_ _).trans (by simp)
  have f0 := h.free off
  have f1 := h.free (off + 1)
  have f2 := h.free (off + 2)
  have f3 := h.free (off + 3)
  clear h
  generalize C[off] = v0 at *
  generalize C[off + 1] = v1 at *
  generalize C[off + 2] = v2 at *
  generalize C[off + 3] = v3 at *
  clear hs
  go_enter Tryz.func28, Tryz.ntmps28
  go_wp2
  refine wp_loop_rounds 5 ?_
  iterate 5
    rw [rounds_succ]
    go_wp2
  go_end0
  refine ⟨rfl, ?_⟩
  unfold cell
  rw [show ((v / 16777216 % 256 : Nat) : Int) = (v : Int) / 16777216 by omega, show ((v / 65536 % 256 : Nat) : Int) = (v : Int) / 65536 % 256 by omega, show ((v / 256 % 256 : Nat) : Int) = (v : Int) / 256 % 256 by omega, show ((v % 256 : Nat) : Int) = (v : Int) % 256 by omega]

set_option maxHeartbeats 1000000 in
theorem put_two (g off cap : Nat) (v : Nat) (hv : v < 65536) (C : Array Value) (w : World) (h : Blk 5 w g C) (hs : off + 2 ≤ C.size) :
    Calls Tryz.prog 28 #[.slice (some ⟨g, off, none⟩) 2 cap, .int .u32 v] w fun e w' => e = .returned (.tuple #[]) ∧
      w' = (w.setCell ⟨g, off, none⟩ (cell (v / 256 % 256))).setCell ⟨g, off + 1, none⟩ (cell (v % 256)) := by
  have c0 : w.cell? ⟨g, off, none⟩ = some C[off] := (h.at_ off).trans (by simp)
  have c1 : w.cell? ⟨g, off + 1, none⟩ = some C[off + 1] := (h.at_ _).trans (by simp)
  have f0 := h.free off
  have f1 := h.free (off + 1)
  clear h
  generalize C[off] = v0 at *
  generalize C[off + 1] = v1 at *
  clear hs
  go_enter Tryz.func28, Tryz.ntmps28
  go_wp2
  refine wp_loop_rounds 3 ?_
  iterate 3
    rw [rounds_succ]
    go_wp2
  go_end0
  refine ⟨rfl, ?_⟩
  unfold cell
  try rw [show ((v / 256 % 256 : Nat) : Int) = (v : Int) / 256 by omega, show ((v % 256 : Nat) : Int) = (v : Int) % 256 by omega]

/-! ### Get -/
theorem or_in (s c : Nat) (hs : s < 16777216) (hc : c < 256) : bits .or .u32 ((s : Int) * 256) (c : Int) = ((s * 256 + c : Nat) : Int) := by
  rw [show ((s : Int) * 256) = ((s * 256 : Nat) : Int) from by omega, u32_or_nat (s * 256) c (by omega) (by omega)]
  congr 1
  have h := Nat.two_pow_add_eq_or_of_lt (i := 8) (b := c) (by omega) s
  rw [show 2 ^ 8 * s = s * 256 by omega] at h
  exact h.symm
theorem pow_small {k : Nat} (hk : k ≤ 3) : 256 ^ k ≤ 16777216 := by
  have : k = 0 ∨ k = 1 ∨ k = 2 ∨ k = 3 := by omega
  rcases this with rfl | rfl | rfl | rfl <;> decide
set_option maxHeartbeats 400000 in
theorem get_any (A : Option Addr) (n cap : Nat) (bs : List Nat) (w : World) (h : BytesAt w A n bs) (hn : n ≤ 4) :
    Calls Tryz.prog 47 #[.slice A n cap] w fun e w' => e = .returned (.int .u32 (Tm.val bs : Nat)) ∧ w = w' := by
  have H := Lib.hid h
  clear h
  go_enter Tryz.func47, Tryz.ntmps47
  go_wp2
  go_loop [3, 8] (fun s i => ∃ k : Nat, k ≤ n ∧ i = .int .i64 k ∧ s = .int .u32 (Tm.val (bs.take k) : Nat)) (fun _ i => n - (intOf i).toNat)
  case atStart => exact ⟨0, by omega, rfl, rfl⟩
  case round =>
    obtain ⟨k, hk, rfl, rfl⟩ := hrel
    by_cases hlt : k < n
    · obtain ⟨ad, ha, hcell⟩ := H.out.2.2.2 k hlt
      have hc := H.out.lt k
      have hm : Tm.val (bs.take k) < 16777216 := Nat.lt_of_lt_of_le (Tm.val_lt k _ (by rw [List.length_take]; omega) (H.out.take_lt k)) (pow_small (by omega))
      have E : Hid (Tm.val (bs.take (k + 1)) = Tm.val (bs.take k) * 256 + bs.getD k 0) := Lib.hid (by rw [H.out.take_succ hlt, Tm.val_snoc])
      generalize Tm.val (bs.take k) = s at hm E ⊢
      generalize bs.getD k 0 = c at hc E hcell
      subst ha
      go_wp2
      go_round
      case rel => exact ⟨k + 1, by omega, by go_num, by rw [E.out, or_in s c hm hc]⟩
      case measure => simp [intOf]; omega
    · go_wp2
      go_ret
      obtain rfl : k = n := by omega
      exact ⟨ret_int (by rw [H.out.takeAll]), rfl⟩
end Go.Proofs.YtmhcjhbmeohjdaaGreat.T

