/-
  The statement's Shows: what its function literals make of the iterators.
-/
import Derived.Test.YtncliolkdkofhaaShw2
import Derived.Test.YtncliolkdkofhaaItw
import Derived.Test.YtncliolkdkofhaaItcK
namespace Go.Proofs.Ytncliolkdkofhaa
open Go.RowKit Rm

/-! ### a call that turns a few variables keeps all else -/
/-- the blocks in L are variables, none of type t -/
def Vars (L : List Nat) (t : TypeId) (W : World) : Prop := ∀ b, b ∈ L → ∃ t' C, t' ≠ t ∧ Blk t' W b C
theorem Turn.keepsFrom {L : List Nat} {t : TypeId} {W W' : World} (h : Turn L W W') (hV : Vars L t W) (B : Nat) : KeepsFrom B W W' :=
  ⟨h.size, fun k o _ hk ho => (h.block k (Array.getElem?_eq_some_iff.1 hk).1 fun hm => by
    obtain ⟨t', C, -, hB⟩ := hV k hm
    unfold Blk at hB
    rw [hB] at hk
    cases hk
    cases ho).trans hk⟩
theorem Turn.keepT {L : List Nat} {t : TypeId} {W W' : World} (h : Turn L W W') (hV : Vars L t W) : KeepT t W W' := fun b C hb =>
  hb.turn h fun hm => by
    obtain ⟨t', C', ht, hB⟩ := hV b hm
    exact hB.ne hb ht rfl
theorem Turn.keepS {L T : List Nat} {W W' : World} (h : Turn T W W') (hL : ∀ b, b ∈ L → b < W.heap.size ∧ b ∉ T) : KeepS L W W' :=
  ⟨fun b hb => h.block b (hL b hb).1 (hL b hb).2, h.size⟩
theorem ownFrom_turn {β : Type} {L : List Nat} {W0 : World} {B : Nat} (hB : W0.heap.size ≤ B) : OwnFrom B (fun (_ : β) W => Turn L W0 W) := fun _ W W' row hs hg hr =>
  ⟨hg.os.trans hs.os, hg.tape.trans hs.tape, hg.output.trans hs.output, Nat.le_trans hs.size hg.size, fun i hi hn => (hg.block i (Nat.lt_of_lt_of_le hi hs.size) fun e => by
    have := (hr i e.symm).1
    omega).trans (hs.block i hi hn)⟩
theorem ownFrom_blk {β : Type} {t : TypeId} {b B : Nat} (C : β → Array Value) : OwnFrom B (fun s W => Blk t W b (C s)) := fun _ _ _ _ hs hg hr => hs.grown hg hr
theorem ownFrom_ex {β γ : Type} {B : Nat} {I : γ → β → World → Prop} (h : ∀ c, OwnFrom B (I c)) : OwnFrom B (fun s W => ∃ c, I c s W) := fun s W W' row ⟨c, hs⟩ hg hr => ⟨c, h c s W W' row hs hg hr⟩

/-! ### prefixes -/
theorem shows1 {W : World} {sd : Nat} {o fl : Option Nat} {id lease n m : Nat} {own : Pk → Option Bool} {floor : Ky → Option (Nat × Nat)} (hS : St W sd o fl id lease n m own floor)
    {md mo mf mid mlease mn mm : Nat} {mfloor : Ky → Option (Nat × Nat)} (hM : Md W md mo mf mid mlease mn mm own mfloor) {Bm Bs Bok Bn Bl k la : Nat} {ln : Int} {c : Bool}
    (bm : Blk 28 W Bm #[.pointer (some ⟨md, 0, none⟩)]) (bs : Blk 26 W Bs #[.pointer (some ⟨sd, 0, none⟩)]) (bo : Blk 4 W Bok #[.bool c]) (bn : Blk 3 W Bn #[.int .i64 k]) (bl : Blk 32 W Bl #[.int .u32 la, .int .i64 ln]) (hk : k ≤ 100000)
    {xa : Nat} {xn : Int} (hok : Pk.ok ⟨xa, xn⟩) {y : Bool} (hy : own ⟨xa, xn⟩ = some y) :
    Calls Try.prog 26 #[.agg #[.int .u32 xa, .int .i64 xn], .bool y, .pointer (some ⟨Bm, 0, none⟩), .pointer (some ⟨Bs, 0, none⟩), .pointer (some ⟨Bok, 0, none⟩), .pointer (some ⟨Bn, 0, none⟩), .pointer (some ⟨Bl, 0, none⟩)] W fun e W' =>
      e = .returned (.bool true) ∧ ∃ r : Bool, (k = 0 ∨ ltP ⟨la, ln⟩ ⟨xa, xn⟩ → r = true) ∧ Sh1 W W' Bok Bn Bl (c && r) (k + 1) xa xn := by
  cases c with
  | false => exact (shows1_no hS hM bm bs bo bn bl hk hok hy).mono fun e W' h => ⟨h.1, true, fun _ => rfl, h.2⟩
  | true =>
    by_cases hk0 : k = 0
    · exact (shows1_first hS hM (by rw [beq_iff_eq]; omega) bm bs bo bn bl hk hok hy).mono fun e W' h => ⟨h.1, true, fun _ => rfl, h.2⟩
    · refine (shows1_next hS hM (by rw [beq_eq_false_iff_ne]; omega) bm bs bo bn bl hk hok hy rfl).mono fun e W' h => ⟨h.1, Om.less la ln xa xn, fun q => ?_, by rw [Bool.true_and]; exact h.2⟩
      refine decide_eq_true ?_
      rcases q with q | q
      · exact absurd q hk0
      · unfold ltP at q
        dsimp only at q
        omega

/-- the last key -/
def lastP {f : Pk → Option Bool} (pre : List (ElP f)) : Pk := ((pre.getLast?).map (·.key)).getD ⟨0, 0⟩
theorem lastP_snoc {f : Pk → Option Bool} (pre : List (ElP f)) (x : ElP f) : lastP (pre ++ [x]) = x.key := by simp [lastP]
def Chain1 {f : Pk → Option Bool} (pre : List (ElP f)) : Prop := (pre.map (·.key)).Pairwise ltP
theorem Chain1.pre {f : Pk → Option Bool} {pre : List (ElP f)} {x : ElP f} (h : Chain1 (pre ++ [x])) : Chain1 pre := by
  unfold Chain1 at h ⊢
  rw [List.map_append, List.pairwise_append] at h
  exact h.1
theorem Chain1.last {f : Pk → Option Bool} {pre : List (ElP f)} {x : ElP f} (h : Chain1 (pre ++ [x])) (hp : pre.length ≠ 0) : ltP (lastP pre) x.key := by
  unfold Chain1 at h
  rw [List.map_append, List.pairwise_append] at h
  have hne : pre ≠ [] := fun e => hp (by rw [e]; rfl)
  refine h.2.2 _ ?_ _ (by simp)
  rw [List.mem_map]
  exact ⟨pre.getLast hne, List.getLast_mem hne, by simp [lastP, List.getLast?_eq_some_getLast hne]⟩
/-- what the first literal has made, pre having come -/
def JO (f : Pk → Option Bool) (W0 : World) (Bok Bn Bl : Nat) (pre : List (ElP f)) (W : World) : Prop :=
  ∃ c : Bool, (Chain1 pre → c = true) ∧ Sh1 W0 W Bok Bn Bl c pre.length (lastP pre).a (lastP pre).n
theorem jo_own (f : Pk → Option Bool) (W0 : World) (Bok Bn Bl B : Nat) (hB : W0.heap.size ≤ B) : OwnFrom B (JO f W0 Bok Bn Bl) := by
  refine ownFrom_ex fun c => OwnFrom.and (ownFrom_pure _ _) ?_
  unfold Sh1
  exact OwnFrom.and (ownFrom_blk _) (OwnFrom.and (ownFrom_blk _) (OwnFrom.and (ownFrom_blk _) (ownFrom_turn hB)))

theorem jo_step {W0 : World} {sd : Nat} {o fl : Option Nat} {id lease n m : Nat} {own : Pk → Option Bool} {floor : Ky → Option (Nat × Nat)} (hS : St W0 sd o fl id lease n m own floor)
    {md mo mf mid mlease mn mm : Nat} {mfloor : Ky → Option (Nat × Nat)} (hM : Md W0 md mo mf mid mlease mn mm own mfloor) {Bm Bs Bok Bn Bl N : Nat} {L : List Nat}
    (bm : Blk 28 W0 Bm #[.pointer (some ⟨md, 0, none⟩)]) (bs : Blk 26 W0 Bs #[.pointer (some ⟨sd, 0, none⟩)]) (hN : N ≤ 100000)
    (hfr : ∀ b, b ∈ sd :: Bm :: Bs :: md :: mo :: mf :: (o.toList ++ fl.toList) → b ≠ Bok ∧ b ≠ Bn ∧ b ≠ Bl) (hL : ∀ b, b ∈ L → b < W0.heap.size ∧ b ≠ Bok ∧ b ≠ Bn ∧ b ≠ Bl)
    (pre : List (ElP own)) (x : ElP own) (W1 : World) (hj : JO own W0 Bok Bn Bl pre W1) (_ : W0.heap.size ≤ W1.heap.size) (hlen : pre.length < N) :
    Fv.At Try.prog (.fn 26 #[.pointer (some ⟨Bm, 0, none⟩), .pointer (some ⟨Bs, 0, none⟩), .pointer (some ⟨Bok, 0, none⟩), .pointer (some ⟨Bn, 0, none⟩), .pointer (some ⟨Bl, 0, none⟩)]) (arO x) W1 (goO W0.heap.size L (JO own W0 Bok Bn Bl) (fun _ _ => False) pre x W1) := by
  obtain ⟨c, hc, bo, bn, bl, T⟩ := hj
  have hT : ∀ b, b ∈ sd :: Bm :: Bs :: md :: mo :: mf :: (o.toList ++ fl.toList) → b ∉ [Bok, Bn, Bl] := fun b hb => by simpa using hfr b hb
  have hS1 := hS.turn T fun b hb => hT b (by rcases mem_fp.1 hb with rfl | h | h <;> simp [*])
  have hM1 := hM.turn T (hT _ (by simp)) (hT _ (by simp)) (hT _ (by simp))
  have bm1 := bm.turn T (hT _ (by simp))
  have bs1 := bs.turn T (hT _ (by simp))
  have hV : Vars [Bok, Bn, Bl] 71 W1 := fun b hb => by
    simp only [List.mem_cons, List.not_mem_nil, or_false] at hb
    rcases hb with rfl | rfl | rfl
    · exact ⟨_, _, by decide, bo⟩
    · exact ⟨_, _, by decide, bn⟩
    · exact ⟨_, _, by decide, bl⟩
  obtain ⟨⟨xa, xn⟩, y, hok, hfit, hhas⟩ := x
  refine ⟨enters_of Try.func26 (by kernel_rfl) rfl, (shows1 hS1 hM1 bm1 bs1 bo bn bl (by omega) hok hhas).mono ?_⟩
  rintro e W' ⟨rfl, r, hr, h1, h2, h3, T'⟩
  refine ⟨true, rfl, T'.keepsFrom hV _, ?_⟩
  rw [if_pos rfl]
  refine ⟨⟨c && r, fun hch => ?_, h1, ?_, ?_, T.trans T'⟩, T'.keepS fun b hb => ⟨?_, by simpa using (hL b hb).2⟩, T'.keepT hV⟩
  · rw [hc hch.pre, hr ?_]; rfl
    by_cases h0 : pre.length = 0
    · exact .inl h0
    · exact .inr (hch.last h0)
  · simpa using h2
  · rw [lastP_snoc]; exact h3
  · have := (hL b hb).1
    have := T.size
    omega
end Go.Proofs.Ytncliolkdkofhaa
