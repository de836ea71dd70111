/-
  Package state: what Records makes of what is noted; its list in memory.
-/
import Derived.Test.YtncliolkdkofhaaStQ
import Derived.Test.YtncliolkdkofhaaItw
import Derived.Test.YtncliolkdkofhaaItcK
import Derived.Test.YtncliolkdkofhaaItv
import Derived.Test.YtncliolkdkofhaaStO
import Derived.Test.YtncliolkdkofhaaShj
import Derived.Maps.OwnIn
namespace Go.Proofs.Ytncliolkdkofhaa
open Go.RowKit Rm

def rO {f : Pk → Option Bool} (e : ElP f) : Rc := ⟨2, 0, 0, 0, e.key.a, e.key.n, e.val, 0, 0⟩
def rF {f : Ky → Option (Nat × Nat)} (e : ElK f) : Rc := ⟨4, 0, 0, e.key.id, e.key.a, e.key.n, false, e.val.1, e.val.2⟩
def rL (lease : Nat) : List Rc := if lease = 0 then [] else [⟨3, 0, 0, 0, 0, 0, false, lease, 0⟩]
def rcells (r : Rc) : List Value := (rcl r).toList
theorem infoRec : (Try.prog.info? 37).map (fun i => (i.zero, i.size, i.bytes)) = some (some (.agg #[.int .i64 0, .int .u32 0, .int .u32 0, .int .u32 0, .int .u32 0, .int .i64 0, .bool false, .int .u32 0, .int .u16 0]), 9, 56) := by kernel_rfl

/-- the list: in box B; none of its row within F0 .. F1 -/
def Lst (w0 : World) (n₀ B F0 F1 : Nat) (rs : List Rc) (W : World) : Prop :=
  (∃ v, Boxed W B 23 v ∧ W.ownsRow n₀ 37 9 v rs.length (rs.flatMap rcells) ∧ (v = .slice none 0 0 ↔ rs = []) ∧ (∀ b, v.ownBlock = some b → b < F0 ∨ F1 ≤ b)) ∧ Below n₀ w0 W ∧ F1 ≤ W.heap.size
theorem lst_own {β : Type} {w0 : World} {n₀ B F0 F1 B' : Nat} (f : β → List Rc) (h1 : n₀ ≤ w0.heap.size) (h2 : n₀ ≤ B') : OwnFrom B' (fun s W => Lst w0 n₀ B F0 F1 (f s) W) :=
  OwnFrom.and (Own.from (holdsRow_own n₀ B 23 37 9 (fun s => (f s).length) (fun s => (f s).flatMap rcells) (fun s v => (v = .slice none 0 0 ↔ f s = []) ∧ (∀ b, v.ownBlock = some b → b < F0 ∨ F1 ≤ b))) _)
    (OwnFrom.and (ownFrom_below h1 h2) (fun _ _ _ _ hs hg _ => Nat.le_trans hs hg.size))
theorem Lst.alloc {w0 W : World} {n₀ B F0 F1 : Nat} {rs : List Rc} (h : Lst w0 n₀ B F0 F1 rs W) (h1 : n₀ ≤ w0.heap.size) (o : Obj) : Lst w0 n₀ B F0 F1 rs (W.alloc o) :=
  (lst_own (β := Unit) (B' := n₀) (fun _ => rs) h1 (Nat.le_refl _)).alloc (s := ()) o h
theorem Lst.held {w0 W W' : World} {n₀ B F0 F1 : Nat} {rs : List Rc} (h : Lst w0 n₀ B F0 F1 rs W) (hb : Below W.heap.size W W') (h1 : n₀ ≤ w0.heap.size) : Lst w0 n₀ B F0 F1 rs W' := by
  obtain ⟨⟨v, hv, hr, hn, ho⟩, hB, hF⟩ := h
  have hg : W.grownBy W' none := ⟨hb.os, hb.tape, hb.output, hb.size, fun k hk _ => hb.block k hk⟩
  refine ⟨⟨v, hv.kept hg (by simp), hr.kept hg ?_, hn, ho⟩, hB.trans (hb.mono (Nat.le_trans h1 hB.size)), Nat.le_trans hF hb.size⟩
  rcases hr.2 with ⟨rfl, _⟩ | ⟨g, cap, cur, rfl, _⟩
  · exact .inl rfl
  · exact .inr (by simp [Value.ownBlock])
theorem Lst.drew {w0 W : World} {n₀ B F0 F1 : Nat} {rs : List Rc} (h : Lst w0 n₀ B F0 F1 rs W) (h1 : n₀ ≤ w0.heap.size) : Lst w0 n₀ B F0 F1 rs W.drew := h.held (Below.refl _ _).drew h1

theorem Lst.rebase {w0 W W' : World} {n₀ B F0 F1 : Nat} {rs : List Rc} (h : Lst w0 n₀ B F0 F1 rs W) (hb : Below W.heap.size W W') (h1 : n₀ ≤ w0.heap.size) : Lst w0 n₀ B W.heap.size W'.heap.size rs W' := by
  obtain ⟨⟨v, hv, hr, hn, ho⟩, hB, hF⟩ := h.held hb h1
  refine ⟨⟨v, hv, hr, hn, fun b hb' => ?_⟩, hB, Nat.le_refl _⟩
  obtain ⟨⟨v0, hv0, hr0, -, -⟩, -, -⟩ := h
  have hv1 := (hb.block _ hv0.lt).trans hv0
  rw [show W'.heap[B]? = _ from hv] at hv1
  simp only [Option.some.injEq, Obj.cells.injEq, Array.mk.injEq, List.cons.injEq, and_true] at hv1
  subst hv1
  rcases hr0.2 with ⟨rfl, _⟩ | ⟨g, cap, cur, rfl, _, hg, _⟩
  · cases hb'
  · cases hb'
    exact .inl (Array.getElem?_eq_some_iff.1 hg).1

/-- behind 'list = append(list, r)' -/
theorem Lst.push {w0 W w1 : World} {n₀ B F0 F1 g' cap' : Nat} {rs : List Rc} {r : Rc} {v : Value} {tmp : Obj} (h1 : n₀ ≤ w0.heap.size) (hB : n₀ ≤ B)
    (hv : Boxed W B 23 v) (hrow : W.ownsRow n₀ 37 9 v rs.length (rs.flatMap rcells)) (ho : ∀ b, v.ownBlock = some b → b < F0 ∨ F1 ≤ b) (hb : Below n₀ w0 W) (hF : F1 ≤ W.heap.size)
    (hown : w1.ownsRow n₀ 37 9 (.slice (some ⟨g', 0, none⟩) (rs.length + 1) cap') (rs.length + 1) (rs.flatMap rcells ++ rcells r)) (hgrow : (W.alloc tmp).grownBy w1 v.ownBlock) (hat : (Value.slice (some ⟨g', 0, none⟩) (rs.length + 1) cap').ownBlock = v.ownBlock ∨ (Value.slice (some ⟨g', 0, none⟩) (rs.length + 1) cap').ownBlock = some (W.alloc tmp).heap.size) :
    Boxed w1 B 23 v ∧ Lst w0 n₀ B F0 F1 (rs ++ [r]) (w1.setCell ⟨B, 0, none⟩ (.slice (some ⟨g', 0, none⟩) (rs.length + 1) cap')) ∧ KeepsOthers W (w1.setCell ⟨B, 0, none⟩ (.slice (some ⟨g', 0, none⟩) (rs.length + 1) cap')) ∧ Below n₀ W (w1.setCell ⟨B, 0, none⟩ (.slice (some ⟨g', 0, none⟩) (rs.length + 1) cap')) ∧
      (∀ b, b < W.heap.size → b ≠ B → some b ≠ v.ownBlock → (w1.setCell ⟨B, 0, none⟩ (.slice (some ⟨g', 0, none⟩) (rs.length + 1) cap')).heap[b]? = W.heap[b]?) := by
  obtain ⟨hv1, hv2, hr2, hk2, hb2⟩ := hv.appended (by decide) hrow (Nat.le_trans h1 hb.size) hB hown hgrow
  refine ⟨hv1, ⟨⟨_, hv2, by simpa using hr2, by simp, fun b hb' => ?_⟩, hb.trans hb2, Nat.le_trans hF hb2.size⟩, hk2, hb2, fun b hlt hne hno => ?_⟩
  · rcases hat with e | e
    · exact ho b (by rw [← e]; exact hb')
    · rw [e, size_new] at hb'
      cases hb'
      exact .inr (by omega)
  · rw [Below.heap_setCell _ _ _ _ (by exact hne), hgrow.block b (by rw [size_new]; omega) hno]
    exact (below_new W tmp).block b hlt
/-- what the list's row is none of -/
theorem row_other {W : World} {n₀ k b : Nat} {v : Value} {xs : List Value} (h : W.ownsRow n₀ 37 9 v k xs) {t : TypeId} {C : Array Value} (hb : Blk t W b C) (ht : t ≠ 37) : some b ≠ v.ownBlock := by
  rcases h.2 with ⟨rfl, _⟩ | ⟨g, cap, cur, rfl, _, hg, _⟩
  · simp [Value.ownBlock]
  · intro e
    have e : b = g := by simpa [Value.ownBlock] using e
    subst e
    unfold Blk at hb
    rw [hb] at hg
    cases hg
    exact ht rfl
end Go.Proofs.Ytncliolkdkofhaa
