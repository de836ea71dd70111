/-
  Package state: what Records makes of what is noted; its list in memory.
  The document's example: head.
  The state and the statement's model side by side.
  The statement's Shows: what its second function literal makes of the iterator over floors.
  The statement's Shows: a state shows what a model says, where both were told the same.
  StateApplies: its walk.
  Package state: what a state's records make of nothing, in whatever order: the state again.
-/
import Derived.Test.YtpgcnjoodoabhaaGreatS11
import Derived.Test.YtpgcnjoodoabhaaGreatS12
import Derived.Test.YtpgcnjoodoabhaaGreatS03
import Derived.Test.YtpgcnjoodoabhaaGreatS13
import Derived.Maps.OwnIn
import Derived.Lib.QuietBelow
import Derived.BigRegion
namespace Go.Proofs.YtpgcnjoodoabhaaGreat
open Go.RowKit Rm

def rO {f : Pk → Option Bool} (e : ElP f) : Rc := ⟨2, 0, 0, 0, e.key.a, e.key.n, e.val, 0, 0⟩
def rF {f : Ky → Option (Nat × Nat)} (e : ElK f) : Rc := ⟨4, 0, 0, e.key.id, e.key.a, e.key.n, false, e.val.1, e.val.2⟩
def rL (lease : Nat) : List Rc := if lease = 0 then [] else [⟨3, 0, 0, 0, 0, 0, false, lease, 0⟩]
def rcells (r : Rc) : List Value := (rcl r).toList
theorem infoRec : (Tryz.prog.info? 41).map (fun i => (i.zero, i.size, i.bytes)) = some (some (.agg #[.int .i64 0, .int .u32 0, .int .u32 0, .int .u32 0, .int .u32 0, .int .i64 0, .bool false, .int .u32 0, .int .u16 0]), 9, 56) := by kernel_rfl

/-- the list: in box B; none of its row within F0 .. F1 -/
def Lst (w0 : World) (n₀ B F0 F1 : Nat) (rs : List Rc) (W : World) : Prop :=
  (∃ v, Boxed W B 22 v ∧ W.ownsRow n₀ 41 9 v rs.length (rs.flatMap rcells) ∧ (v = .slice none 0 0 ↔ rs = []) ∧ (∀ b, v.ownBlock = some b → b < F0 ∨ F1 ≤ b)) ∧ Below n₀ w0 W ∧ F1 ≤ W.heap.size
theorem lst_own {β : Type} {w0 : World} {n₀ B F0 F1 B' : Nat} (f : β → List Rc) (h1 : n₀ ≤ w0.heap.size) (h2 : n₀ ≤ B') : OwnFrom B' (fun s W => Lst w0 n₀ B F0 F1 (f s) W) :=
  OwnFrom.and (Own.from (holdsRow_own n₀ B 22 41 9 (fun s => (f s).length) (fun s => (f s).flatMap rcells) (fun s v => (v = .slice none 0 0 ↔ f s = []) ∧ (∀ b, v.ownBlock = some b → b < F0 ∨ F1 ≤ b))) _)
    (OwnFrom.and (ownFrom_below h1 h2) (fun _ _ _ _ hs hg _ => Nat.le_trans hs hg.size))
theorem Lst.alloc {w0 W : World} {n₀ B F0 F1 : Nat} {rs : List Rc} (h : Lst w0 n₀ B F0 F1 rs W) (h1 : n₀ ≤ w0.heap.size) (o : Obj) : Lst w0 n₀ B F0 F1 rs (W.alloc o) :=
  (lst_own (β := Unit) (B' := n₀) (fun _ => rs) h1 (Nat.le_refl _)).alloc (s := ()) o h
theorem Lst.held {w0 W W' : World} {n₀ B F0 F1 : Nat} {rs : List Rc} (h : Lst w0 n₀ B F0 F1 rs W) (hb : Below W.heap.size W W') (h1 : n₀ ≤ w0.heap.size) : Lst w0 n₀ B F0 F1 rs W' := by
  obtain ⟨⟨v, hv, hr, hn, ho⟩, hB, hF⟩ := h
  have hg : W.grownBy W' none := ⟨hb.os, hb.tape, hb.output, hb.size, fun k hk _ => hb.block k hk⟩
  refine ⟨⟨v, hv.kept hg (by simp), hr.kept hg ?_, hn, ho⟩, hB.trans (hb.mono (Nat.le_trans h1 hB.size)), Nat.le_trans hF hb.size⟩
  rcases hr.2 with ⟨rfl, _⟩ | ⟨g, cap, cur, rfl, _⟩
  · exact .inl rfl
  · exact .inr (by simp [Value.ownBlock])
theorem Lst.drew {w0 W : World} {n₀ B F0 F1 : Nat} {rs : List Rc} (h : Lst w0 n₀ B F0 F1 rs W) (h1 : n₀ ≤ w0.heap.size) : Lst w0 n₀ B F0 F1 rs W.drew := h.held (Below.refl _ _).drew h1

theorem Lst.rebase {w0 W W' : World} {n₀ B F0 F1 : Nat} {rs : List Rc} (h : Lst w0 n₀ B F0 F1 rs W) (hb : Below W.heap.size W W') (h1 : n₀ ≤ w0.heap.size) : Lst w0 n₀ B W.heap.size W'.heap.size rs W' := by
  obtain ⟨⟨v, hv, hr, hn, ho⟩, hB, hF⟩ := h.held hb h1
  refine ⟨⟨v, hv, hr, hn, fun b hb' => ?_⟩, hB, Nat.le_refl _⟩
  obtain ⟨⟨v0, hv0, hr0, -, -⟩, -, -⟩ := h
  have hv1 := (hb.block _ hv0.lt).trans hv0
  rw [show W'.heap[B]? = _ from hv] at hv1
  simp only [Option.some.injEq, Obj.cells.injEq, Array.mk.injEq, List.cons.injEq, and_true] at hv1
  subst hv1
  rcases hr0.2 with ⟨rfl, _⟩ | ⟨g, cap, cur, rfl, _, hg, _⟩
  · cases hb'
  · cases hb'
    exact .inl (Array.getElem?_eq_some_iff.1 hg).1

/-- behind 'list = append(list, r)' -/
theorem Lst.push {w0 W w1 : World} {n₀ B F0 F1 g' cap' : Nat} {rs : List Rc} {r : Rc} {v : Value} {tmp : Obj} (h1 : n₀ ≤ w0.heap.size) (hB : n₀ ≤ B)
    (hv : Boxed W B 22 v) (hrow : W.ownsRow n₀ 41 9 v rs.length (rs.flatMap rcells)) (ho : ∀ b, v.ownBlock = some b → b < F0 ∨ F1 ≤ b) (hb : Below n₀ w0 W) (hF : F1 ≤ W.heap.size)
    (hown : w1.ownsRow n₀ 41 9 (.slice (some ⟨g', 0, none⟩) (rs.length + 1) cap') (rs.length + 1) (rs.flatMap rcells ++ rcells r)) (hgrow : (W.alloc tmp).grownBy w1 v.ownBlock) (hat : (Value.slice (some ⟨g', 0, none⟩) (rs.length + 1) cap').ownBlock = v.ownBlock ∨ (Value.slice (some ⟨g', 0, none⟩) (rs.length + 1) cap').ownBlock = some (W.alloc tmp).heap.size) :
    Boxed w1 B 22 v ∧ Lst w0 n₀ B F0 F1 (rs ++ [r]) (w1.setCell ⟨B, 0, none⟩ (.slice (some ⟨g', 0, none⟩) (rs.length + 1) cap')) ∧ KeepsOthers W (w1.setCell ⟨B, 0, none⟩ (.slice (some ⟨g', 0, none⟩) (rs.length + 1) cap')) ∧ Below n₀ W (w1.setCell ⟨B, 0, none⟩ (.slice (some ⟨g', 0, none⟩) (rs.length + 1) cap')) ∧
      (∀ b, b < W.heap.size → b ≠ B → some b ≠ v.ownBlock → (w1.setCell ⟨B, 0, none⟩ (.slice (some ⟨g', 0, none⟩) (rs.length + 1) cap')).heap[b]? = W.heap[b]?) := by
  obtain ⟨hv1, hv2, hr2, hk2, hb2⟩ := hv.appended (by decide) hrow (Nat.le_trans h1 hb.size) hB hown hgrow
  refine ⟨hv1, ⟨⟨_, hv2, by simpa using hr2, by simp, fun b hb' => ?_⟩, hb.trans hb2, Nat.le_trans hF hb2.size⟩, hk2, hb2, fun b hlt hne hno => ?_⟩
  · rcases hat with e | e
    · exact ho b (by rw [← e]; exact hb')
    · rw [e, size_new] at hb'
      cases hb'
      exact .inr (by omega)
  · rw [Below.heap_setCell _ _ _ _ (by exact hne), hgrow.block b (by rw [size_new]; omega) hno]
    exact (below_new W tmp).block b hlt
/-- what the list's row is none of -/
theorem row_other {W : World} {n₀ k b : Nat} {v : Value} {xs : List Value} (h : W.ownsRow n₀ 41 9 v k xs) {t : TypeId} {C : Array Value} (hb : Blk t W b C) (ht : t ≠ 41) : some b ≠ v.ownBlock := by
  rcases h.2 with ⟨rfl, _⟩ | ⟨g, cap, cur, rfl, _, hg, _⟩
  · simp [Value.ownBlock]
  · intro e
    have e : b = g := by simpa [Value.ownBlock] using e
    subst e
    unfold Blk at hb
    rw [hb] at hg
    cases hg
    exact ht rfl
end Go.Proofs.YtpgcnjoodoabhaaGreat

namespace Go.Proofs.YtpgcnjoodoabhaaGreat
open Go.RowKit Rm
variable {tS : TypeId} {XS : List Value}

def exk : Ky := ⟨0, 0, 3⟩
theorem exk_ok : exk.ok := ⟨by decide, ⟨by decide, by decide⟩, by decide⟩
def ex1 : Sm := app sm0 ⟨4, 0, 0, 3, 0, 0, false, 2, 9⟩
theorem ex_floor : ex1.floor exk = some (2, 9) := rfl
theorem Notes.held {w w' : World} {d : Nat} {o fl : Option Nat} {id N : Nat} {S : Sm} (h : Notes tS XS w d o fl id N S) (hb : Below w.heap.size w w') : Notes tS XS w' d o fl id N S := by
  obtain ⟨n, m, h1, hS⟩ := h
  exact ⟨n, m, h1, hS.held hb⟩

end Go.Proofs.YtpgcnjoodoabhaaGreat

namespace Go.Proofs.YtpgcnjoodoabhaaGreat
open Go.RowKit Rm
variable {tS : TypeId} {XS : List Value}

/-- A state in block sd that notes S1, a model in block md that says S2, in blocks that W0 hasn't; the rest of W0 stands. -/
def LR (tS : TypeId) (XS : List Value) (W0 : World) (sd md mo mf id : Nat) (S1 : Sm) (N1 : Nat) (S2 : Sm) (N2 : Nat) (w : World) : Prop :=
  ∃ o fl, Notes tS XS w sd o fl id N1 S1 ∧ Says w md mo mf id N2 S2 ∧ Below W0.heap.size W0 w ∧ (∀ y, y ∈ fp sd o fl → W0.heap.size ≤ y ∧ y ≠ md ∧ y ≠ mo ∧ y ≠ mf) ∧ W0.heap.size ≤ md ∧ W0.heap.size ≤ mo ∧ W0.heap.size ≤ mf
theorem Says.turn {L : List Nat} {w w' : World} {d o fl id N : Nat} {S : Sm} (h : Says w d o fl id N S) (t : Turn L w w') (hd : d ∉ L) (ho : o ∉ L) (hf : fl ∉ L) : Says w' d o fl id N S := by
  obtain ⟨n, m, h1, h2⟩ := h
  exact ⟨n, m, h1, h2.turn t hd ho hf⟩
theorem Notes.turn {L : List Nat} {w w' : World} {d : Nat} {o fl : Option Nat} {id N : Nat} {S : Sm} (h : Notes tS XS w d o fl id N S) (t : Turn L w w') (hL : ∀ x, x ∈ fp d o fl → x ∉ L) : Notes tS XS w' d o fl id N S := by
  obtain ⟨n, m, h1, h2⟩ := h
  exact ⟨n, m, h1, h2.turn t hL⟩
theorem Says.lts {w : World} {d o fl id N : Nat} {S : Sm} (h : Says w d o fl id N S) : d < w.heap.size ∧ o < w.heap.size ∧ fl < w.heap.size := by
  obtain ⟨n, m, -, h2⟩ := h
  exact ⟨h2.head.lt, h2.owns.lt, h2.floors.lt⟩
section
variable {W0 w w' : World} {sd md mo mf id N1 N2 : Nat} {S1 S2 : Sm}
theorem LR.held (h : LR tS XS W0 sd md mo mf id S1 N1 S2 N2 w) (hb : Below w.heap.size w w') : LR tS XS W0 sd md mo mf id S1 N1 S2 N2 w' := by
  obtain ⟨o, fl, h1, h2, h3, h4⟩ := h
  exact ⟨o, fl, h1.held hb, h2.turn (.of_below [] hb) (by simp) (by simp) (by simp), next h3 (hb.mono (Nat.le_refl _)), h4⟩
theorem LR.below (h : LR tS XS W0 sd md mo mf id S1 N1 S2 N2 w) : Below W0.heap.size W0 w := by obtain ⟨o, fl, h1, h2, h3, h4⟩ := h; exact h3
theorem LR.apply_at {wr : World} (h : LR tS XS W0 sd md mo mf id S1 N1 S2 N2 wr) (hb : Below wr.heap.size wr w) (hN : N1 < 100000) (r : Rc) (hr : r.Fits) :
    Calls Tryz.prog 37 #[.pointer (some ⟨sd, 0, none⟩), .agg (rcl r)] w fun e w' => e = .returned (.tuple #[]) ∧ LR tS XS W0 sd md mo mf id (app S1 r) (N1 + 1) S2 N2 w' ∧ ∀ t g cs, wr.heap.size ≤ g → Blk t w g cs → Blk t w' g cs := by
  obtain ⟨o, fl, h1, h2, h3, h4, h5, h6, h7⟩ := h
  have hlt : ∀ y, y ∈ fp sd o fl → y < wr.heap.size := fun y hy => by
    obtain ⟨_, _, _, hS⟩ := h1
    exact hS.lt hy
  have h1' := h1.held hb
  have h2' := h2.turn (.of_below [] hb) (by simp) (by simp) (by simp)
  have h3' := next h3 (hb.mono (Nat.le_refl _))
  refine (apply_any h1' hN r hr).mono ?_
  rintro e w' ⟨rfl, o', fl', hN', hT, hf⟩
  have hsz := h3'.size
  obtain ⟨l1, l2, l3⟩ := h2'.lts
  refine ⟨rfl, ⟨o', fl', hN', h2'.turn hT (fun hm => (h4 _ hm).2.1 rfl) (fun hm => (h4 _ hm).2.2.1 rfl) (fun hm => (h4 _ hm).2.2.2 rfl), h3'.trans (hT.below (fun i hi => (h4 i hi).1) hsz), fun y hy => ?_, h5, h6, h7⟩, fun t g cs hg hB => hB.turn hT fun hm => by have := hlt g hm; omega⟩
  rcases hf y hy with h | h
  · exact h4 y h
  · exact ⟨by omega, by omega, by omega, by omega⟩
theorem LR.mapply (h : LR tS XS W0 sd md mo mf id S1 N1 S2 N2 w) (hN : N2 < 100000) (r : Rc) (hr : r.Fits) :
    Calls Tryz.prog 14 #[.pointer (some ⟨md, 0, none⟩), .agg (rcl r)] w fun e w' => e = .returned (.tuple #[]) ∧ LR tS XS W0 sd md mo mf id S1 N1 (app S2 r) (N2 + 1) w' := by
  obtain ⟨o, fl, h1, h2, h3, h4, h5, h6, h7⟩ := h
  refine (mapply_any h2 hN r hr).mono ?_
  rintro e w' ⟨rfl, hS, hT⟩
  have hsz := h3.size
  refine ⟨rfl, o, fl, h1.turn hT (fun x hx => ?_), hS, h3.trans (hT.below (fun i hi => ?_) hsz), h4, h5, h6, h7⟩
  · obtain ⟨-, a1, a2, a3⟩ := h4 x hx
    simp [a1, a2, a3]
  · simp only [List.mem_cons, List.not_mem_nil, or_false] at hi
    rcases hi with rfl | rfl | rfl <;> assumption
end
/-- what k records make of nothing -/
def appN (rs : List Rc) (k : Nat) : Sm := (rs.take k).foldl app sm0
theorem appN_succ (rs : List Rc) {k : Nat} (hk : k < rs.length) : appN rs (k + 1) = app (appN rs k) rs[k] := by
  unfold appN
  rw [List.take_succ_eq_append_getElem hk, List.foldl_append]
  rfl
end Go.Proofs.YtpgcnjoodoabhaaGreat

namespace Go.Proofs.YtpgcnjoodoabhaaGreat
open Go.RowKit Rm
variable {tS : TypeId} {XS : List Value}

/-- the last key -/
def lastK {f : Ky → Option (Nat × Nat)} (pre : List (ElK f)) : Ky := ((pre.getLast?).map (·.key)).getD ⟨0, 0, 0⟩
theorem lastK_snoc {f : Ky → Option (Nat × Nat)} (pre : List (ElK f)) (x : ElK f) : lastK (pre ++ [x]) = x.key := by simp [lastK]
def Chain2 {f : Ky → Option (Nat × Nat)} (pre : List (ElK f)) : Prop := (pre.map (·.key)).Pairwise ltK
theorem Chain2.pre {f : Ky → Option (Nat × Nat)} {pre : List (ElK f)} {x : ElK f} (h : Chain2 (pre ++ [x])) : Chain2 pre := by
  unfold Chain2 at h ⊢
  rw [List.map_append, List.pairwise_append] at h
  exact h.1
theorem Chain2.last {f : Ky → Option (Nat × Nat)} {pre : List (ElK f)} {x : ElK f} (h : Chain2 (pre ++ [x])) (hp : pre.length ≠ 0) : ltK (lastK pre) x.key := by
  unfold Chain2 at h
  rw [List.map_append, List.pairwise_append] at h
  have hne : pre ≠ [] := fun e => hp (by rw [e]; rfl)
  refine h.2.2 _ ?_ _ (by simp)
  rw [List.mem_map]
  exact ⟨pre.getLast hne, List.getLast_mem hne, by simp [lastK, List.getLast?_eq_some_getLast hne]⟩
/-- what the second literal has made, pre having come -/
def JF (f : Ky → Option (Nat × Nat)) (W0 : World) (Bok Bn Bl : Nat) (pre : List (ElK f)) (W : World) : Prop :=
  ∃ c : Bool, (Chain2 pre → c = true) ∧ Sh2 W0 W Bok Bn Bl c pre.length (lastK pre).a (lastK pre).n (lastK pre).id
theorem jf_own (f : Ky → Option (Nat × Nat)) (W0 : World) (Bok Bn Bl B : Nat) (hB : W0.heap.size ≤ B) : OwnFrom B (JF f W0 Bok Bn Bl) := by
  refine ownFrom_ex fun c => OwnFrom.and (ownFrom_pure _ _) ?_
  unfold Sh2
  exact OwnFrom.and (ownFrom_blk _) (OwnFrom.and (ownFrom_blk _) (OwnFrom.and (ownFrom_blk _) (ownFrom_turn hB)))

theorem jf_step {W0 : World} {sd : Nat} {o fl : Option Nat} {id lease n m : Nat} {own : Pk → Option Bool} {floor : Ky → Option (Nat × Nat)} (hS : St tS XS W0 sd o fl id lease n m own floor)
    {md mo mf mid mlease mn mm : Nat} {mown : Pk → Option Bool} (hM : Md W0 md mo mf mid mlease mn mm mown floor) {Bm Bs Bok Bn Bl N : Nat} {L : List Nat}
    (bm : Blk 32 W0 Bm #[.pointer (some ⟨md, 0, none⟩)]) (bs : Blk 43 W0 Bs #[.pointer (some ⟨sd, 0, none⟩)]) (hN : N ≤ 100000)
    (hfr : ∀ b, b ∈ sd :: Bm :: Bs :: md :: mo :: mf :: (o.toList ++ fl.toList) → b ≠ Bok ∧ b ≠ Bn ∧ b ≠ Bl) (hL : ∀ b, b ∈ L → b < W0.heap.size ∧ b ≠ Bok ∧ b ≠ Bn ∧ b ≠ Bl)
    (pre : List (ElK floor)) (x : ElK floor) (W1 : World) (hj : JF floor W0 Bok Bn Bl pre W1) (hlen : pre.length < N) :
    Fv.At Tryz.prog (.fn 42 #[.pointer (some ⟨Bm, 0, none⟩), .pointer (some ⟨Bs, 0, none⟩), .pointer (some ⟨Bn, 0, none⟩), .pointer (some ⟨Bl, 0, none⟩), .pointer (some ⟨Bok, 0, none⟩)]) (arK x) W1 (goK L (JF floor W0 Bok Bn Bl) (fun _ _ => False) pre x W1) := by
  obtain ⟨c, hc, bo, bn, bl, T⟩ := hj
  have hT : ∀ b, b ∈ sd :: Bm :: Bs :: md :: mo :: mf :: (o.toList ++ fl.toList) → b ∉ [Bok, Bn, Bl] := fun b hb => by simpa using hfr b hb
  have hS1 := hS.turn T fun b hb => hT b (by rcases mem_fp.1 hb with rfl | h | h <;> simp [*])
  have hM1 := hM.turn T (hT _ (by simp)) (hT _ (by simp)) (hT _ (by simp))
  have bm1 := bm.turn T (hT _ (by simp))
  have bs1 := bs.turn T (hT _ (by simp))
  obtain ⟨⟨xa, xn, xi⟩, ⟨s, y⟩, hok, hfit, hhas⟩ := x
  refine ⟨enters_of Tryz.func42 (by kernel_rfl) rfl, (shows2 hS1 hM1 bm1 bs1 bo bn bl (by omega) hok hhas).mono ?_⟩
  rintro e W' ⟨rfl, r, hr, h1, h2, h3, T'⟩
  refine ⟨true, rfl, ?_⟩
  rw [if_pos rfl]
  refine ⟨⟨c && r, fun hch => ?_, h1, ?_, ?_, T.trans T'⟩, (T'.keepS fun b hb => ⟨?_, by simpa using (hL b hb).2⟩).1, T'.size⟩
  · rw [hc hch.pre, hr ?_]; rfl
    by_cases h0 : pre.length = 0
    · exact .inl h0
    · exact .inr (hch.last h0)
  · simpa using h2
  · rw [lastK_snoc]; exact h3
  · have := (hL b hb).1
    have := T.size
    omega
end Go.Proofs.YtpgcnjoodoabhaaGreat

namespace Go.Proofs.YtpgcnjoodoabhaaGreat
open Go.RowKit Rm
variable {tS : TypeId} {XS : List Value}

theorem chainP_nodup {xs : List Pk} (h : xs.Pairwise ltP) : xs.Nodup := h.imp fun {a b} hab e => by subst e; unfold ltP at hab; omega
theorem chainK_nodup {xs : List Ky} (h : xs.Pairwise ltK) : xs.Nodup := h.imp fun {a b} hab e => by subst e; unfold ltK ltP at hab; dsimp only at hab; omega

set_option maxHeartbeats 4000000 in
theorem shows_any {w : World} {sd md mo mf id N1 N2 : Nat} {o fl : Option Nat} {S : Sm} (h1 : Notes tS XS w sd o fl id N1 S) (h2 : Says w md mo mf id N2 S) :
    Calls Tryz.prog 13 #[.pointer (some ⟨md, 0, none⟩), .pointer (some ⟨sd, 0, none⟩)] w fun e w' => e = .returned (.bool true) ∧ Below w.heap.size w w' := by
  obtain ⟨n, m, -, hS⟩ := h1
  obtain ⟨mn, mm, -, hM⟩ := h2
  have hmn : mn ≤ 100000 := by have := hM.counts; omega
  have hmm : mm ≤ 100000 := by have := hM.counts; omega
  have hSlt : ∀ b, b ∈ sd :: (o.toList ++ fl.toList) → b < w.heap.size := fun b hb => hS.lt hb
  have hMlt : md < w.heap.size ∧ mo < w.heap.size ∧ mf < w.heap.size := ⟨hM.head.lt, hM.owns.lt, hM.floors.lt⟩
  have hb2 := next (below_new w (.cells #[.pointer (some ⟨md, 0, none⟩)] 32)) (below_new _ (.cells #[.pointer (some ⟨sd, 0, none⟩)] 43))
  have hz : ((w.alloc (.cells #[.pointer (some ⟨md, 0, none⟩)] 32)).alloc (.cells #[.pointer (some ⟨sd, 0, none⟩)] 43)).heap.size = w.heap.size + 2 := by rw [size_new, size_new]
  have bm := (Blk.new w 32 #[.pointer (some ⟨md, 0, none⟩)]).more (.cells #[.pointer (some ⟨sd, 0, none⟩)] 43)
  have bs := Blk.new (w.alloc (.cells #[.pointer (some ⟨md, 0, none⟩)] 32)) 43 #[.pointer (some ⟨sd, 0, none⟩)]
  rw [size_new] at bs
  go_enter Tryz.func13, Tryz.ntmps13
  go_wp2_with fail
  generalize (w.alloc (.cells #[.pointer (some ⟨md, 0, none⟩)] 32)).alloc (.cells #[.pointer (some ⟨sd, 0, none⟩)] 43) = w2 at *
  have HS := Lib.hid ((hS.held hb2).drew)
  have HM := Lib.hid ((hM.held hb2).drew)
  have HB := Lib.hid (And.intro hb2.drew (And.intro bm.drew (And.intro bs.drew (And.intro hSlt hMlt))))
  have cm := bm.at_ 0
  have cs := bs.at_ 0
  have m0 := (hM.held hb2).head.at_ 0
  have m1 := (hM.held hb2).head.at_ 1
  have hz2 : w2.drew.heap.size = w.heap.size + 2 := hz
  clear hS hM hb2 bm bs hSlt hMlt hz
  go_region_held3 (fun w' => w' = w2.drew ∧ w'.cell? ⟨w.heap.size, 0, none⟩ = some (.pointer (some ⟨md, 0, none⟩)) ∧ w'.cell? ⟨w.heap.size + 1, 0, none⟩ = some (.pointer (some ⟨sd, 0, none⟩)) ∧ w'.cell? ⟨md, 0, none⟩ = some (.int .u32 id) ∧ w'.cell? ⟨md, 1, none⟩ = some (.int .u32 S.lease)) (go_keep)
    (first | (go_at_call 38; refine (id_any HS.out).mono ?_; rintro e w' ⟨rfl, rfl⟩) | (go_at_call 22; refine (lease_any HS.out).mono ?_; rintro e w' ⟨rfl, rfl⟩))
  obtain ⟨hb2, bm, bs, hSlt, hMlt⟩ := HB.out
  have hS := HS.out
  have hM := HM.out
  clear HS HM HB cm cs m0 m1
  generalize w2.drew = v at *
  have hb5 := next (next (below_new v (.cells #[.int .i64 0] 3)) (below_new _ (.cells #[.bool true] 4))) (below_new _ (.cells #[.int .u32 0, .int .i64 0] 36))
  have hz5 : (((v.alloc (.cells #[.int .i64 0] 3)).alloc (.cells #[.bool true] 4)).alloc (.cells #[.int .u32 0, .int .i64 0] 36)).heap.size = w.heap.size + 5 := by rw [size_new, size_new, size_new, hz2]
  have bn := (((Blk.new v 3 #[.int .i64 0]).more (.cells #[.bool true] 4)).more (.cells #[.int .u32 0, .int .i64 0] 36))
  have bo := (Blk.new (v.alloc (.cells #[.int .i64 0] 3)) 4 #[.bool true]).more (.cells #[.int .u32 0, .int .i64 0] 36)
  have bl := Blk.new ((v.alloc (.cells #[.int .i64 0] 3)).alloc (.cells #[.bool true] 4)) 36 #[.int .u32 0, .int .i64 0]
  rw [size_new, hz2] at bo
  rw [size_new, size_new, hz2] at bl
  rw [hz2] at bn
  have bm5 := bm.held hb5
  have bs5 := bs.held hb5
  have cs5 := bs5.at_ 0
  have HO := owns_any (hS.held hb5)
  have HS5 := Lib.hid (And.intro (hS.held hb5) (And.intro (hM.held hb5) (And.intro (next hb2 hb5) (And.intro bm5 (And.intro bs5 (And.intro bn (And.intro bo bl)))))))
  clear hS hM hb2 hb5 bm bs bm5 bs5 bn bo bl
  go_wp2_with fail
  generalize ((v.alloc (.cells #[.int .i64 0] 3)).alloc (.cells #[.bool true] 4)).alloc (.cells #[.int .u32 0, .int .i64 0] 36) = V at *
  refine HO.mono ?_
  rintro e w5 ⟨B1, B2, B3, v1, o1, xs, rfl, hI, h3, hfr, hB3, hB⟩
  obtain ⟨hS, hM, hbV, bm, bs, bn, bo, bl⟩ := HS5.out
  have hS5 := hS.held hB
  have hM5 := hM.held hB
  have bm5 := bm.held hB
  have bs5 := bs.held hB
  have bn5 := bn.held hB
  have bo5 := bo.held hB
  have bl5 := bl.held hB
  have hbw5 := next hbV hB
  obtain ⟨es, hE⟩ := esP_ex (f := S.own) (fun _ _ _ => rfl) xs (fun x hx => (hI.mem x).1 hx)
  have hlen : es.length = xs.length := by rw [← show es.map (·.key) = xs from hE]; simp
  have hcard : xs.length = mn := hM.owns.card (chainP_nodup hI.srt) (fun k => by rw [hI.mem k]; show _ ↔ k.ok ∧ _; cases S.own k <;> simp)
  have hfrs : ∀ b, b ∈ sd :: w.heap.size :: (w.heap.size + 1) :: md :: mo :: mf :: (o.toList ++ fl.toList) → b < w.heap.size + 2 := fun b hb => by
    have h1 := hSlt b
    obtain ⟨g1, g2, g3⟩ := hMlt
    simp only [List.mem_cons] at hb h1
    rcases hb with rfl | rfl | rfl | rfl | rfl | rfl | h
    · have := h1 (.inl rfl); omega
    · omega
    · omega
    · omega
    · omega
    · omega
    · have := h1 (.inr h); omega
  have HW := callsIn_wide.1 (owns1 hI hE h3 (.fn 39 #[.pointer (some ⟨w.heap.size, 0, none⟩), .pointer (some ⟨w.heap.size + 1, 0, none⟩), .pointer (some ⟨w.heap.size + 2 + 1, 0, none⟩), .pointer (some ⟨w.heap.size + 2, 0, none⟩), .pointer (some ⟨w.heap.size + 2 + 1 + 1, 0, none⟩)]) (JO S.own w5 (w.heap.size + 2 + 1) (w.heap.size + 2) (w.heap.size + 2 + 1 + 1)) (fun _ _ => False) (jo_own _ _ _ _ _ _ (Nat.le_refl _)) (fun _ _ _ _ h _ _ => h)
    (jo_step hS5 hM5 bm5 bs5 (N := es.length) (by omega) (fun b hb => by have := hfrs b hb; omega) (fun b hb => ⟨hI.lt b hb, by have := hfr b hb; omega⟩)) ⟨true, fun _ => rfl, bo5, bn5, bl5, Turn.refl _ _⟩ 0)
  clear HO hS hM bm bs bn bo bl HS5 hbV
  go_wp2_with fail
  refine HW.mono ?_
  rintro e w6 ⟨⟨v6, rfl⟩, (⟨c, hc, bo6, bn6, -, T6⟩ | ⟨_, hf⟩)⟩
  rotate_left
  · exact hf.elim
  have hsV := hB.size
  have hsz6 := T6.size
  have hsz5 := hbw5.size
  have hc1 : c = true := hc (by unfold Chain1; rw [show es.map (·.key) = xs from hE]; exact hI.srt)
  rw [hc1] at bo6
  rw [hlen, hcard] at bn6
  have hT : ∀ b, b ∈ sd :: w.heap.size :: (w.heap.size + 1) :: md :: mo :: mf :: (o.toList ++ fl.toList) → b ∉ [w.heap.size + 2 + 1, w.heap.size + 2, w.heap.size + 2 + 1 + 1] := fun b hb => by
    have := hfrs b hb
    simp
    omega
  have hS6 := hS5.turn T6 fun b hb => hT b (by rcases mem_fp.1 hb with rfl | h | h <;> simp [*])
  have hM6 := hM5.turn T6 (hT _ (by simp)) (hT _ (by simp)) (hT _ (by simp))
  have bm6 := bm5.turn T6 (hT _ (by simp))
  have bs6 := bs5.turn T6 (hT _ (by simp))
  have hbw6 := hbw5.trans (T6.below (B := w.heap.size) (by simp; omega) hsz5)
  have LEN := (Mk.of_block (w' := w6.drew) hM6.owns rfl).len (t := 79) (e := 4) (by kernel_rfl) 3
  have q1 := bo6.at_ 0
  have q2 := bn6.at_ 0
  have q3 := bm6.at_ 0
  have q4 := hM6.head.at_ 2
  have mdl := hM6.head.lt
  have R6 := Lib.hid (And.intro hS6 (And.intro hM6 (And.intro bm6 (And.intro bs6 (And.intro bo6 (And.intro bn6 hbw6))))))
  clear HW hS5 hM5 bm5 bs5 bn5 bo5 bl5 hbw5 hc hE hlen hI h3 hfr hB T6 hS6 hM6 bm6 bs6 bo6 bn6 hbw6 hcard
  go_wp2_with fail
  go_region_held3 (fun w' => w' = w6.drew ∧ w'.cell? ⟨w.heap.size + 2 + 1, 0, none⟩ = some (.bool true) ∧ w'.cell? ⟨w.heap.size + 2, 0, none⟩ = some (.int .i64 mn) ∧ w'.cell? ⟨w.heap.size, 0, none⟩ = some (.pointer (some ⟨md, 0, none⟩)) ∧ w'.cell? ⟨md, 2, none⟩ = some (.map (some mo))) (go_keep) (fail)
  obtain ⟨hS6, hM6, bm6, bs6, bo6, bn6, hbw6⟩ := R6.out
  have hS7 := hS6.drew
  have hM7 := hM6.drew
  have bm7 := bm6.drew
  have bs7 := bs6.drew
  have bo7 := bo6.drew
  have bn7 := bn6.drew
  have hbw7 := hbw6.drew
  have hsz7 : w.heap.size + 5 ≤ w6.drew.heap.size := by show _ ≤ w6.heap.size; omega
  clear R6 q1 q2 q3 q4 LEN mdl hS6 hM6 bm6 bs6 bo6 bn6 hbw6 hsz6 hsz5 hT
  generalize w6.drew = w7 at *
  have TX := (Turn.setCell w7 (L := [w.heap.size + 2]) (p := ⟨w.heap.size + 2, 0, none⟩) (by simp) (.int .i64 0)).and_below (below_new _ (.cells #[.int .u32 0, .int .i64 0, .int .u32 0] 90))
  have hT : ∀ b, b ∈ sd :: w.heap.size :: (w.heap.size + 1) :: md :: mo :: mf :: (o.toList ++ fl.toList) → b ∉ [w.heap.size + 2] := fun b hb => by
    have := hfrs b hb
    simp
    omega
  have hS8 := hS7.turn TX fun b hb => hT b (by rcases mem_fp.1 hb with rfl | h | h <;> simp [*])
  have hM8 := hM7.turn TX (hT _ (by simp)) (hT _ (by simp)) (hT _ (by simp))
  have bm8 := bm7.turn TX (hT _ (by simp))
  have bs8 := bs7.turn TX (hT _ (by simp))
  have bo8 := bo7.turn TX (by simp)
  have bn8 := (bn7.store 0 (.int .i64 0)).more (.cells #[.int .u32 0, .int .i64 0, .int .u32 0] 90)
  have bl8 := Blk.new (w7.setCell ⟨w.heap.size + 2, 0, none⟩ (.int .i64 0)) 90 #[.int .u32 0, .int .i64 0, .int .u32 0]
  have hss : (w7.setCell ⟨w.heap.size + 2, 0, none⟩ (.int .i64 0)).heap.size = w7.heap.size := by simp [World.setCell]
  rw [hss] at bl8
  have hbw8 := hbw7.trans (TX.below (B := w.heap.size) (by simp) (by omega))
  have n0 := bn7.at_ 0
  have nf := bn7.free 0
  have s8 := bs8.at_ 0
  have HF := floors_any hS8
  have R8 := Lib.hid (And.intro hS8 (And.intro hM8 (And.intro hbw8 (And.intro bm8 (And.intro bs8 (And.intro bn8 (And.intro bo8 bl8)))))))
  have hz8 := TX.size
  clear hS7 hM7 bm7 bs7 bo7 bn7 hbw7 TX hT hS8 hM8 bm8 bs8 bo8 bn8 bl8 hbw8
  go_wp2_with fail
  generalize (w7.setCell ⟨w.heap.size + 2, 0, none⟩ (.int .i64 0)).alloc (.cells #[.int .u32 0, .int .i64 0, .int .u32 0] 90) = V8 at *
  refine HF.mono ?_
  rintro e w9 ⟨C1, C2, v2, o2, ys, rfl, hI, hfr, hB⟩
  obtain ⟨hS, hM, hbV, bm, bs, bn, bo, bl⟩ := R8.out
  have hS9 := hS.held hB
  have hM9 := hM.held hB
  have bm9 := bm.held hB
  have bs9 := bs.held hB
  have bn9 := bn.held hB
  have bo9 := bo.held hB
  have bl9 := bl.held hB
  have hbw9 := next hbV hB
  obtain ⟨fs, hE⟩ := esK_ex (f := S.floor) hM.small ys (fun x hx => (hI.mem x).1 hx)
  have hlen : fs.length = ys.length := by rw [← show fs.map (·.key) = ys from hE]; simp
  have hcard : ys.length = mm := hM.floors.card (chainK_nodup hI.srt) (fun k => by rw [hI.mem k]; show _ ↔ k.ok ∧ _; cases S.floor k <;> simp)
  have HW := callsIn_wide.1 (inOrd1K hI hE (.fn 42 #[.pointer (some ⟨w.heap.size, 0, none⟩), .pointer (some ⟨w.heap.size + 1, 0, none⟩), .pointer (some ⟨w.heap.size + 2, 0, none⟩), .pointer (some ⟨w7.heap.size, 0, none⟩), .pointer (some ⟨w.heap.size + 2 + 1, 0, none⟩)]) (JF S.floor w9 (w.heap.size + 2 + 1) (w.heap.size + 2) w7.heap.size) (fun _ _ => False) (OwnFrom.abides (jf_own _ _ _ _ _ _ (Nat.le_refl _)))
    (fun pre x rest W1 hcut hj => jf_step hS9 hM9 bm9 bs9 (N := fs.length) (by omega) (fun b hb => by have := hfrs b hb; omega) (fun b hb => ⟨hI.lt b hb, by have := hfr b hb; have := bl.lt; omega⟩) pre x W1 hj (by rw [hcut]; simp)) ⟨true, fun _ => rfl, bo9, bn9, bl9, Turn.refl _ _⟩ 0)
  clear HF hS hM bm bs bn bo R8 hbV
  go_wp2_with fail
  refine HW.mono ?_
  rintro e w10 ⟨⟨v10, rfl⟩, (⟨c, hc, bo10, bn10, -, T10⟩ | ⟨_, _, hf⟩)⟩
  rotate_left
  · exact hf.elim
  have hsz9 := hB.size
  have hsz10 := T10.size
  have hblt := bl.lt
  have hc1 : c = true := hc (by unfold Chain2; rw [show fs.map (·.key) = ys from hE]; exact hI.srt)
  rw [hc1] at bo10
  rw [hlen, hcard] at bn10
  have hT : ∀ b, b ∈ sd :: w.heap.size :: (w.heap.size + 1) :: md :: mo :: mf :: (o.toList ++ fl.toList) → b ∉ [w.heap.size + 2 + 1, w.heap.size + 2, w7.heap.size] := fun b hb => by
    have := hfrs b hb
    simp
    omega
  have hM10 := hM9.turn T10 (hT _ (by simp)) (hT _ (by simp)) (hT _ (by simp))
  have bm10 := bm9.turn T10 (hT _ (by simp))
  have hbw10 := hbw9.trans (T10.below (B := w.heap.size) (by simp; omega) hbw9.size)
  have LEN := (Mk.of_block (w' := w10.drew) hM10.floors rfl).len (t := 69) (e := 39) (by kernel_rfl) 3
  have q1 := bo10.at_ 0
  have q2 := bn10.at_ 0
  have q3 := bm10.at_ 0
  have q4 := hM10.head.at_ 3
  have HB := Lib.hid hbw10.drew
  clear HW hS9 hM9 bm9 bs9 bn9 bo9 bl9 hbw9 hc hE hlen hI hfr hB T10 hM10 bm10 bo10 bn10 hbw10 hcard hT bl
  go_wp2_with fail
  go_region_held3 (fun w' => w' = w10.drew ∧ w'.cell? ⟨w.heap.size + 2 + 1, 0, none⟩ = some (.bool true) ∧ w'.cell? ⟨w.heap.size + 2, 0, none⟩ = some (.int .i64 mm) ∧ w'.cell? ⟨w.heap.size, 0, none⟩ = some (.pointer (some ⟨md, 0, none⟩)) ∧ w'.cell? ⟨md, 3, none⟩ = some (.map (some mf))) (go_keep) (fail)
  go_wp2_with fail
  go_ret
  exact ⟨rfl, HB.out⟩
end Go.Proofs.YtpgcnjoodoabhaaGreat

namespace Go.Proofs.YtpgcnjoodoabhaaGreat
open Go.RowKit Rm
variable {tS : TypeId} {XS : List Value}

theorem LR.shows {W0 w : World} {sd md mo mf id N1 N2 : Nat} {S : Sm} (h : LR tS XS W0 sd md mo mf id S N1 S N2 w) :
    Calls Tryz.prog 13 #[.pointer (some ⟨md, 0, none⟩), .pointer (some ⟨sd, 0, none⟩)] w fun e w' => e = .returned (.bool true) ∧ LR tS XS W0 sd md mo mf id S N1 S N2 w' := by
  have h0 := h
  obtain ⟨o, fl, h1, h2, h3⟩ := h0
  exact (shows_any h1 h2).mono fun e w' k => ⟨k.1, h.held k.2⟩

/-! ### what is never noted -/
def NoOdd (S : Sm) : Prop := S.own ⟨1, 40⟩ = none ∧ S.floor ⟨0, 0, 0⟩ = none
theorem right2_addr {r : Rc} (h : right2 r = true) : Am.right r.a r.len = true := by
  unfold right2 at h
  split at h
  · cases h
  · rename_i h1
    simp only [Bool.or_eq_true, Bool.not_eq_true', not_or, Bool.not_eq_false] at h1
    exact h1.1.1
theorem right2_id {r : Rc} (h : right2 r = true) (hk : r.kind = 4) : 0 < r.id := by
  unfold right2 at h
  split at h
  · cases h
  · simp [hk] at h
    exact h.1
theorem NoOdd.app {S : Sm} (h : NoOdd S) {r : Rc} (hr : right2 r = true) : NoOdd (app S r) := by
  have ha := right2_addr hr
  have hid := right2_id hr
  unfold Go.Proofs.YtpgcnjoodoabhaaGreat.app
  split
  · refine ⟨?_, h.2⟩
    show (if (⟨1, 40⟩ : Pk) = ⟨r.a, r.len⟩ then some r.on else S.own ⟨1, 40⟩) = none
    rw [if_neg]
    · exact h.1
    · intro e
      have := congrArg Pk.n e
      rw [Am.right_big (by dsimp only at this; omega)] at ha
      cases ha
  · split
    · exact h
    · split
      · rename_i h4
        have hi := hid h4
        split
        · refine ⟨h.1, ?_⟩
          show (if (⟨0, 0, 0⟩ : Ky) = ⟨r.a, r.len, r.id⟩ then some (r.seq, r.met) else S.floor ⟨0, 0, 0⟩) = none
          rw [if_neg]
          · exact h.2
          · intro e
            have := congrArg Ky.id e
            simp at this
            omega
        · exact h
      · exact h
theorem noOdd_appN {rs : List Rc} (h : rs.all right2 = true) : ∀ k, k ≤ rs.length → NoOdd (appN rs k)
  | 0, _ => ⟨rfl, rfl⟩
  | k + 1, hk => by
    rw [appN_succ rs (show k < rs.length by omega)]
    exact (noOdd_appN h k (by omega)).app (List.all_eq_true.1 h _ (List.getElem_mem _))

end Go.Proofs.YtpgcnjoodoabhaaGreat

namespace Go.Proofs.YtpgcnjoodoabhaaGreat
open Go.RowKit Rm

/-- what right records make -/
structure GoodSm (S : Sm) : Prop where
  lease : S.lease ≤ 1073741824
  own : ∀ p b, S.own p = some b → p.ok ∧ Am.right p.a p.n = true
  floor : ∀ k f, S.floor k = some f → k.ok ∧ Am.right k.a k.n = true ∧ 0 < k.id ∧ f.1 ≤ 1073741824 ∧ f.2 < 65535
theorem good0 : GoodSm sm0 := ⟨by decide, fun _ _ h => (by cases h), fun _ _ h => (by cases h)⟩
theorem right2_num {r : Rc} (h : right2 r = true) : r.seq ≤ 1073741824 ∧ r.met ≠ 65535 := by
  unfold right2 at h
  split at h
  · cases h
  · rename_i h1
    simp only [Bool.or_eq_true, not_or, decide_eq_true_eq, beq_iff_eq] at h1
    exact ⟨by omega, h1.2⟩
theorem GoodSm.app {S : Sm} (h : GoodSm S) {r : Rc} (hr : right2 r = true) (hf : r.Fits) : GoodSm (app S r) := by
  have ha := right2_addr hr
  have hid := right2_id hr
  obtain ⟨hs, hm⟩ := right2_num hr
  have hm2 := hf.met
  unfold Go.Proofs.YtpgcnjoodoabhaaGreat.app
  split
  · refine ⟨h.lease, fun p b hp => ?_, h.floor⟩
    have hp : (if p = ⟨r.a, r.len⟩ then some r.on else S.own p) = some b := hp
    split at hp
    · rename_i e
      subst e
      exact ⟨⟨hf.a, hf.n1, hf.n2⟩, ha⟩
    · exact h.own p b hp
  · split
    · exact ⟨Nat.max_le.2 ⟨h.lease, hs⟩, h.own, h.floor⟩
    · split
      · rename_i h4
        split
        · refine ⟨h.lease, h.own, fun k f hk => ?_⟩
          have hk : (if k = ⟨r.a, r.len, r.id⟩ then some (r.seq, r.met) else S.floor k) = some f := hk
          by_cases e : k = ⟨r.a, r.len, r.id⟩
          · rw [if_pos e] at hk
            cases hk
            rw [e]
            exact ⟨⟨hf.a, ⟨hf.n1, hf.n2⟩, hf.id⟩, ha, hid h4, hs, by show r.met < 65535; omega⟩
          · rw [if_neg e] at hk
            exact h.floor k f hk
        · exact h
      · exact h
theorem good_appN {rs : List Rc} (h : rs.all right2 = true) (hf : ∀ r ∈ rs, r.Fits) : ∀ k, k ≤ rs.length → GoodSm (appN rs k)
  | 0, _ => good0
  | k + 1, hk => by
    rw [appN_succ rs (show k < rs.length by omega)]
    exact (good_appN h hf k (by omega)).app (List.all_eq_true.1 h _ (List.getElem_mem _)) (hf _ (List.getElem_mem _))

/-- one record for each thing that is noted -/
def recsOf (S : Sm) (es : List (ElP S.own)) (fs : List (ElK S.floor)) : List Rc := es.map rO ++ rL S.lease ++ fs.map rF
/-- a record of what S notes -/
def From (S : Sm) (r : Rc) : Prop :=
  (r.kind = 2 ∧ S.own ⟨r.a, r.len⟩ = some r.on) ∨ (r.kind = 3 ∧ r.seq = S.lease) ∨ (r.kind = 4 ∧ S.floor ⟨r.a, r.len, r.id⟩ = some (r.seq, r.met))

/-- behind some records of S -/
structure Half (S : Sm) (A : List Rc) (T : Sm) : Prop where
  own : ∀ p, T.own p = none ∨ T.own p = S.own p
  floor : ∀ k, T.floor k = none ∨ T.floor k = S.floor k
  lease : T.lease = 0 ∨ T.lease = S.lease
  owns : ∀ r ∈ A, r.kind = 2 → T.own ⟨r.a, r.len⟩ = S.own ⟨r.a, r.len⟩
  floors : ∀ r ∈ A, r.kind = 4 → T.floor ⟨r.a, r.len, r.id⟩ = S.floor ⟨r.a, r.len, r.id⟩
  leases : ∀ r ∈ A, r.kind = 3 → T.lease = S.lease
theorem Half.zero (S : Sm) : Half S [] sm0 := ⟨fun _ => .inl rfl, fun _ => .inl rfl, .inl rfl, fun _ h => (by cases h), fun _ h => (by cases h), fun _ h => (by cases h)⟩
theorem Half.step {S T : Sm} {A : List Rc} {r : Rc} (h : Half S A T) (hr : From S r) : Half S (A ++ [r]) (app T r) := by
  rcases hr with ⟨hk, hv⟩ | ⟨hk, hv⟩ | ⟨hk, hv⟩
  · have e : app T r = ⟨T.lease, fun p => if p = ⟨r.a, r.len⟩ then some r.on else T.own p, T.floor⟩ := by unfold app; rw [if_pos hk]
    rw [e]
    refine ⟨fun p => ?_, h.floor, h.lease, fun r' hr' h2 => ?_, fun r' hr' h4 => ?_, fun r' hr' h3 => ?_⟩
    · show (if p = ⟨r.a, r.len⟩ then some r.on else T.own p) = none ∨ (if p = ⟨r.a, r.len⟩ then some r.on else T.own p) = S.own p
      by_cases hp : p = ⟨r.a, r.len⟩
      · rw [if_pos hp, hp, hv]; exact .inr rfl
      · rw [if_neg hp]; exact h.own p
    · show (if (⟨r'.a, r'.len⟩ : Pk) = ⟨r.a, r.len⟩ then some r.on else T.own ⟨r'.a, r'.len⟩) = S.own ⟨r'.a, r'.len⟩
      by_cases hp : (⟨r'.a, r'.len⟩ : Pk) = ⟨r.a, r.len⟩
      · rw [if_pos hp, hp, hv]
      · rw [if_neg hp]
        rcases List.mem_append.1 hr' with hr' | hr'
        · exact h.owns r' hr' h2
        · obtain rfl := List.mem_singleton.1 hr'
          exact absurd rfl hp
    · rcases List.mem_append.1 hr' with hr' | hr'
      · exact h.floors r' hr' h4
      · obtain rfl := List.mem_singleton.1 hr'
        omega
    · rcases List.mem_append.1 hr' with hr' | hr'
      · exact h.leases r' hr' h3
      · obtain rfl := List.mem_singleton.1 hr'
        omega
  · have e : app T r = ⟨max T.lease r.seq, T.own, T.floor⟩ := by unfold app; rw [if_neg (by omega), if_pos hk]
    have hm : max T.lease r.seq = S.lease := by rcases h.lease with h | h <;> omega
    rw [e]
    refine ⟨h.own, h.floor, .inr hm, fun r' hr' h2 => ?_, fun r' hr' h4 => ?_, fun _ _ _ => hm⟩
    · rcases List.mem_append.1 hr' with hr' | hr'
      · exact h.owns r' hr' h2
      · obtain rfl := List.mem_singleton.1 hr'
        omega
    · rcases List.mem_append.1 hr' with hr' | hr'
      · exact h.floors r' hr' h4
      · obtain rfl := List.mem_singleton.1 hr'
        omega
  · have e : app T r = if bet (T.floor ⟨r.a, r.len, r.id⟩) r.seq r.met then ⟨T.lease, T.own, fun k => if k = ⟨r.a, r.len, r.id⟩ then some (r.seq, r.met) else T.floor k⟩ else T := by unfold app; rw [if_neg (by omega), if_neg (by omega), if_pos hk]
    rw [e]
    by_cases hb : bet (T.floor ⟨r.a, r.len, r.id⟩) r.seq r.met = true
    · rw [if_pos hb]
      refine ⟨h.own, fun p => ?_, h.lease, fun r' hr' h2 => ?_, fun r' hr' h4 => ?_, fun r' hr' h3 => ?_⟩
      · show (if p = ⟨r.a, r.len, r.id⟩ then some (r.seq, r.met) else T.floor p) = none ∨ (if p = ⟨r.a, r.len, r.id⟩ then some (r.seq, r.met) else T.floor p) = S.floor p
        by_cases hp : p = ⟨r.a, r.len, r.id⟩
        · rw [if_pos hp, hp, hv]; exact .inr rfl
        · rw [if_neg hp]; exact h.floor p
      · rcases List.mem_append.1 hr' with hr' | hr'
        · exact h.owns r' hr' h2
        · obtain rfl := List.mem_singleton.1 hr'
          omega
      · show (if (⟨r'.a, r'.len, r'.id⟩ : Ky) = ⟨r.a, r.len, r.id⟩ then some (r.seq, r.met) else T.floor ⟨r'.a, r'.len, r'.id⟩) = S.floor ⟨r'.a, r'.len, r'.id⟩
        by_cases hp : (⟨r'.a, r'.len, r'.id⟩ : Ky) = ⟨r.a, r.len, r.id⟩
        · rw [if_pos hp, hp, hv]
        · rw [if_neg hp]
          rcases List.mem_append.1 hr' with hr' | hr'
          · exact h.floors r' hr' h4
          · obtain rfl := List.mem_singleton.1 hr'
            exact absurd rfl hp
      · rcases List.mem_append.1 hr' with hr' | hr'
        · exact h.leases r' hr' h3
        · obtain rfl := List.mem_singleton.1 hr'
          omega
    · rw [if_neg hb]
      refine ⟨h.own, h.floor, h.lease, fun r' hr' h2 => ?_, fun r' hr' h4 => ?_, fun r' hr' h3 => ?_⟩
      · rcases List.mem_append.1 hr' with hr' | hr'
        · exact h.owns r' hr' h2
        · obtain rfl := List.mem_singleton.1 hr'
          omega
      · rcases List.mem_append.1 hr' with hr' | hr'
        · exact h.floors r' hr' h4
        · obtain rfl := List.mem_singleton.1 hr'
          rcases h.floor ⟨r'.a, r'.len, r'.id⟩ with h0 | h0
          · rw [h0] at hb
            exact absurd rfl hb
          · exact h0
      · rcases List.mem_append.1 hr' with hr' | hr'
        · exact h.leases r' hr' h3
        · obtain rfl := List.mem_singleton.1 hr'
          omega
theorem Half.fold {S : Sm} : ∀ (B A : List Rc) (T : Sm), Half S A T → (∀ r ∈ B, From S r) → Half S (A ++ B) (B.foldl Go.Proofs.YtpgcnjoodoabhaaGreat.app T)
  | [], A, T, h, _ => by simpa using h
  | r :: B, A, T, h, hB => by
    have := Half.fold B (A ++ [r]) (Go.Proofs.YtpgcnjoodoabhaaGreat.app T r) (h.step (hB r List.mem_cons_self)) (fun r' hr' => hB r' (List.mem_cons_of_mem _ hr'))
    simpa using this
theorem Half.all {S T : Sm} {L : List Rc} (h : Half S L T) (ho : ∀ p, (S.own p).isSome = true → ∃ r ∈ L, r.kind = 2 ∧ p = ⟨r.a, r.len⟩) (hf : ∀ k, (S.floor k).isSome = true → ∃ r ∈ L, r.kind = 4 ∧ k = ⟨r.a, r.len, r.id⟩) (hl : S.lease ≠ 0 → ∃ r ∈ L, r.kind = 3) : T = S := by
  have e1 : T.lease = S.lease := by
    by_cases hz : S.lease = 0
    · rcases h.lease with h | h <;> omega
    · obtain ⟨r, hr, hk⟩ := hl hz
      exact h.leases r hr hk
  have e2 : T.own = S.own := funext fun p => by
    cases hp : S.own p with
    | none =>
      rcases h.own p with h0 | h0
      · exact h0
      · rw [h0, hp]
    | some b =>
      obtain ⟨r, hr, hk, rfl⟩ := ho p (by rw [hp]; rfl)
      rw [h.owns r hr hk, hp]
  have e3 : T.floor = S.floor := funext fun p => by
    cases hp : S.floor p with
    | none =>
      rcases h.floor p with h0 | h0
      · exact h0
      · rw [h0, hp]
    | some b =>
      obtain ⟨r, hr, hk, rfl⟩ := hf p (by rw [hp]; rfl)
      rw [h.floors r hr hk, hp]
  obtain ⟨a, b, c⟩ := T
  obtain ⟨a', b', c'⟩ := S
  cases e1
  cases e2
  cases e3
  rfl

/-! ### the records of S -/
section
variable {S : Sm} {es : List (ElP S.own)} {fs : List (ElK S.floor)} {xs : List Pk} {ys : List Ky}
theorem mem_recs {r : Rc} : r ∈ recsOf S es fs ↔ (∃ e ∈ es, rO e = r) ∨ (S.lease ≠ 0 ∧ r = ⟨3, 0, 0, 0, 0, 0, false, S.lease, 0⟩) ∨ ∃ e ∈ fs, rF e = r := by
  unfold recsOf rL
  by_cases hz : S.lease = 0
  · simp [hz]
  · simp [hz]
theorem recs_from : ∀ r ∈ recsOf S es fs, From S r := fun r hr => by
  rcases mem_recs.1 hr with ⟨e, -, rfl⟩ | ⟨hz, rfl⟩ | ⟨e, -, rfl⟩
  · exact .inl ⟨rfl, e.has⟩
  · exact .inr (.inl ⟨rfl, rfl⟩)
  · exact .inr (.inr ⟨rfl, e.has⟩)
theorem recs_right (h : GoodSm S) : ∀ r ∈ recsOf S es fs, right2 r = true ∧ r.Fits ∧ r.gen = 0 ∧ r.lsn = 0 := fun r hr => by
  rcases mem_recs.1 hr with ⟨e, -, rfl⟩ | ⟨hz, rfl⟩ | ⟨e, -, rfl⟩
  · obtain ⟨hk, hr⟩ := h.own _ _ e.has
    refine ⟨?_, ⟨by show (-9223372036854775808 : Int) ≤ 2; omega, by show (2 : Int) ≤ 9223372036854775807; omega, by show 0 < 4294967296; omega, by show 0 < 4294967296; omega, by show 0 < 4294967296; omega, hk.1, hk.2.1, hk.2.2, by show 0 < 4294967296; omega, by show 0 < 65536; omega⟩, rfl, rfl⟩
    unfold right2 rO
    simp [hr]
  · have hl := h.lease
    refine ⟨?_, ⟨by show (-9223372036854775808 : Int) ≤ 3; omega, by show (3 : Int) ≤ 9223372036854775807; omega, by show 0 < 4294967296; omega, by show 0 < 4294967296; omega, by show 0 < 4294967296; omega, by show 0 < 4294967296; omega, by show (-9223372036854775808 : Int) ≤ 0; omega, by show (0 : Int) ≤ 9223372036854775807; omega, by show S.lease < 4294967296; omega, by show 0 < 65536; omega⟩, rfl, rfl⟩
    unfold right2
    simp [show Am.right 0 0 = true by decide, show ¬ 1073741824 < S.lease by omega]
  · obtain ⟨hk, hr, hid, hs, hm⟩ := h.floor _ _ e.has
    refine ⟨?_, ⟨by show (-9223372036854775808 : Int) ≤ 4; omega, by show (4 : Int) ≤ 9223372036854775807; omega, by show 0 < 4294967296; omega, by show 0 < 4294967296; omega, hk.2.2, hk.1, hk.2.1.1, hk.2.1.2, by show e.val.1 < 4294967296; omega, by show e.val.2 < 65536; omega⟩, rfl, rfl⟩
    unfold right2 rF
    simp [hr, show ¬ 1073741824 < e.val.1 by omega, show ¬ e.val.2 = 65535 by omega, hid]
theorem recs_whole {L : List Rc} (h : GoodSm S) (hE : EsP S.own xs es) (hx : ∀ x, x ∈ xs ↔ x.ok ∧ (S.own x).isSome = true) (hF : EsK S.floor ys fs) (hy : ∀ x, x ∈ ys ↔ x.ok ∧ (S.floor x).isSome = true)
    (hL : ∀ r ∈ L, r ∈ recsOf S es fs) (hR : ∀ r ∈ recsOf S es fs, r ∈ L) : L.foldl app sm0 = S := by
  have H := Half.fold L [] sm0 (Half.zero S) (fun r hr => recs_from r (hL r hr))
  rw [List.nil_append] at H
  refine H.all (fun p hp => ?_) (fun k hk => ?_) (fun hz => ?_)
  · obtain ⟨b, hb⟩ := Option.isSome_iff_exists.1 hp
    have hm := (hx p).2 ⟨(h.own p b hb).1, hp⟩
    rw [← show es.map (·.key) = xs from hE] at hm
    obtain ⟨e, he, rfl⟩ := List.mem_map.1 hm
    exact ⟨rO e, hR _ (mem_recs.2 (.inl ⟨e, he, rfl⟩)), rfl, rfl⟩
  · obtain ⟨b, hb⟩ := Option.isSome_iff_exists.1 hk
    have hm := (hy k).2 ⟨(h.floor k b hb).1, hk⟩
    rw [← show fs.map (·.key) = ys from hF] at hm
    obtain ⟨e, he, rfl⟩ := List.mem_map.1 hm
    exact ⟨rF e, hR _ (mem_recs.2 (.inr (.inr ⟨e, he, rfl⟩))), rfl, rfl⟩
  · exact ⟨_, hR _ (mem_recs.2 (.inr (.inl ⟨hz, rfl⟩))), rfl⟩
end

/-! ### around the list, from c on -/
def turnd (L : List Rc) (c k : Nat) : List Rc := (List.range k).map fun i => L[(i + c) % L.length]?.getD zero
def appT (L : List Rc) (c k : Nat) : Sm := (turnd L c k).foldl app sm0
theorem appT_succ (L : List Rc) (c k : Nat) (h : (k + c) % L.length < L.length) : appT L c (k + 1) = app (appT L c k) L[(k + c) % L.length] := by
  unfold appT turnd
  rw [List.range_succ, List.map_append, List.foldl_append]
  simp [List.getElem?_eq_getElem h]
theorem turnd_sub {L : List Rc} {c : Nat} : ∀ r ∈ turnd L c L.length, r ∈ L := fun r hr => by
  obtain ⟨i, hi, rfl⟩ := List.mem_map.1 hr
  have hi := List.mem_range.1 hi
  have h : (i + c) % L.length < L.length := Nat.mod_lt _ (by omega)
  rw [List.getElem?_eq_getElem h]
  exact List.getElem_mem h
theorem turnd_sup {L : List Rc} {c : Nat} : ∀ r ∈ L, r ∈ turnd L c L.length := fun r hr => by
  obtain ⟨j, hj, rfl⟩ := List.mem_iff_getElem.1 hr
  have hq : c % L.length < L.length := Nat.mod_lt _ (by omega)
  have hc := Nat.div_add_mod c L.length
  obtain ⟨i, hi, he⟩ : ∃ i, i < L.length ∧ (i + c) % L.length = j := by
    by_cases hle : c % L.length ≤ j
    · refine ⟨j - c % L.length, by omega, ?_⟩
      rw [show j - c % L.length + c = j + L.length * (c / L.length) by omega, Nat.add_mul_mod_self_left, Nat.mod_eq_of_lt hj]
    · refine ⟨j + L.length - c % L.length, by omega, ?_⟩
      rw [show j + L.length - c % L.length + c = j + L.length + L.length * (c / L.length) by omega, Nat.add_mul_mod_self_left, Nat.add_mod_right, Nat.mod_eq_of_lt hj]
  refine List.mem_map.2 ⟨i, List.mem_range.2 hi, ?_⟩
  rw [he, List.getElem?_eq_getElem hj]
  rfl
end Go.Proofs.YtpgcnjoodoabhaaGreat

