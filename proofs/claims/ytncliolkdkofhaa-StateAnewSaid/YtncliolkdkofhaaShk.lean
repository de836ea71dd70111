/-
  The statement's Shows: what its second function literal makes of the iterator over floors.
-/
import Derived.Test.YtncliolkdkofhaaShj
namespace Go.Proofs.Ytncliolkdkofhaa
open Go.RowKit Rm

/-- the last key -/
def lastK {f : Ky → Option (Nat × Nat)} (pre : List (ElK f)) : Ky := ((pre.getLast?).map (·.key)).getD ⟨0, 0, 0⟩
theorem lastK_snoc {f : Ky → Option (Nat × Nat)} (pre : List (ElK f)) (x : ElK f) : lastK (pre ++ [x]) = x.key := by simp [lastK]
def Chain2 {f : Ky → Option (Nat × Nat)} (pre : List (ElK f)) : Prop := (pre.map (·.key)).Pairwise ltK
theorem Chain2.pre {f : Ky → Option (Nat × Nat)} {pre : List (ElK f)} {x : ElK f} (h : Chain2 (pre ++ [x])) : Chain2 pre := by
  unfold Chain2 at h ⊢
  rw [List.map_append, List.pairwise_append] at h
  exact h.1
theorem Chain2.last {f : Ky → Option (Nat × Nat)} {pre : List (ElK f)} {x : ElK f} (h : Chain2 (pre ++ [x])) (hp : pre.length ≠ 0) : ltK (lastK pre) x.key := by
  unfold Chain2 at h
  rw [List.map_append, List.pairwise_append] at h
  have hne : pre ≠ [] := fun e => hp (by rw [e]; rfl)
  refine h.2.2 _ ?_ _ (by simp)
  rw [List.mem_map]
  exact ⟨pre.getLast hne, List.getLast_mem hne, by simp [lastK, List.getLast?_eq_some_getLast hne]⟩
/-- what the second literal has made, pre having come -/
def JF (f : Ky → Option (Nat × Nat)) (W0 : World) (Bok Bn Bl : Nat) (pre : List (ElK f)) (W : World) : Prop :=
  ∃ c : Bool, (Chain2 pre → c = true) ∧ Sh2 W0 W Bok Bn Bl c pre.length (lastK pre).a (lastK pre).n (lastK pre).id
theorem jf_own (f : Ky → Option (Nat × Nat)) (W0 : World) (Bok Bn Bl B : Nat) (hB : W0.heap.size ≤ B) : OwnFrom B (JF f W0 Bok Bn Bl) := by
  refine ownFrom_ex fun c => OwnFrom.and (ownFrom_pure _ _) ?_
  unfold Sh2
  exact OwnFrom.and (ownFrom_blk _) (OwnFrom.and (ownFrom_blk _) (OwnFrom.and (ownFrom_blk _) (ownFrom_turn hB)))

theorem jf_step {W0 : World} {sd : Nat} {o fl : Option Nat} {id lease n m : Nat} {own : Pk → Option Bool} {floor : Ky → Option (Nat × Nat)} (hS : St W0 sd o fl id lease n m own floor)
    {md mo mf mid mlease mn mm : Nat} {mown : Pk → Option Bool} (hM : Md W0 md mo mf mid mlease mn mm mown floor) {Bm Bs Bok Bn Bl N : Nat} {L : List Nat}
    (bm : Blk 28 W0 Bm #[.pointer (some ⟨md, 0, none⟩)]) (bs : Blk 26 W0 Bs #[.pointer (some ⟨sd, 0, none⟩)]) (hN : N ≤ 100000)
    (hfr : ∀ b, b ∈ sd :: Bm :: Bs :: md :: mo :: mf :: (o.toList ++ fl.toList) → b ≠ Bok ∧ b ≠ Bn ∧ b ≠ Bl) (hL : ∀ b, b ∈ L → b < W0.heap.size ∧ b ≠ Bok ∧ b ≠ Bn ∧ b ≠ Bl)
    (pre : List (ElK floor)) (x : ElK floor) (W1 : World) (hj : JF floor W0 Bok Bn Bl pre W1) (hlen : pre.length < N) :
    Fv.At Try.prog (.fn 29 #[.pointer (some ⟨Bm, 0, none⟩), .pointer (some ⟨Bs, 0, none⟩), .pointer (some ⟨Bn, 0, none⟩), .pointer (some ⟨Bl, 0, none⟩), .pointer (some ⟨Bok, 0, none⟩)]) (arK x) W1 (goK L (JF floor W0 Bok Bn Bl) (fun _ _ => False) pre x W1) := by
  obtain ⟨c, hc, bo, bn, bl, T⟩ := hj
  have hT : ∀ b, b ∈ sd :: Bm :: Bs :: md :: mo :: mf :: (o.toList ++ fl.toList) → b ∉ [Bok, Bn, Bl] := fun b hb => by simpa using hfr b hb
  have hS1 := hS.turn T fun b hb => hT b (by rcases mem_fp.1 hb with rfl | h | h <;> simp [*])
  have hM1 := hM.turn T (hT _ (by simp)) (hT _ (by simp)) (hT _ (by simp))
  have bm1 := bm.turn T (hT _ (by simp))
  have bs1 := bs.turn T (hT _ (by simp))
  obtain ⟨⟨xa, xn, xi⟩, ⟨s, y⟩, hok, hfit, hhas⟩ := x
  refine ⟨enters_of Try.func29 (by kernel_rfl) rfl, (shows2 hS1 hM1 bm1 bs1 bo bn bl (by omega) hok hhas).mono ?_⟩
  rintro e W' ⟨rfl, r, hr, h1, h2, h3, T'⟩
  refine ⟨true, rfl, ?_⟩
  rw [if_pos rfl]
  refine ⟨⟨c && r, fun hch => ?_, h1, ?_, ?_, T.trans T'⟩, (T'.keepS fun b hb => ⟨?_, by simpa using (hL b hb).2⟩).1, T'.size⟩
  · rw [hc hch.pre, hr ?_]; rfl
    by_cases h0 : pre.length = 0
    · exact .inl h0
    · exact .inr (hch.last h0)
  · simpa using h2
  · rw [lastK_snoc]; exact h3
  · have := (hL b hb).1
    have := T.size
    omega
end Go.Proofs.Ytncliolkdkofhaa
