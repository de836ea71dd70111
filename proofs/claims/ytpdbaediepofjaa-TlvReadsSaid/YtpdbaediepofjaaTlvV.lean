/-
  The contract of the statement's own reading of a datagram.
-/
import Derived.Test.YtpdbaediepofjaaTlvQ
namespace Go.Proofs.Ytpdbaediepofjaa
open Go.RowKit Tm

/-- v is a list of the call's own (from block B on) that holds us -/
def Lv (B : Nat) (v : Value) (us : List Up) (W : World) : Prop := W.ownsRow B 31 5 v us.length (us.flatMap ucl)
section
variable {B : Nat} {v : Value} {us : List Up} {W W' : World}
theorem Lu.lv (h : Lu B v us W) : Lv B v us W := h.1
theorem Lv.empty (W : World) (hB : B ≤ W.heap.size) : Lv B (.slice (some ⟨W.heap.size, 0, none⟩) 0 0) [] (W.alloc (.cells #[] 31)) :=
  ⟨rfl, .inr ⟨W.heap.size, 0, #[], rfl, hB, by simpa [Blk] using Blk.new W 31 #[], Nat.le_refl _, by unfold maxLen; omega, rfl, rfl⟩⟩
theorem Lv.of_block (h : Lv B v us W) (hb : ∀ b, v.ownBlock = some b → W'.heap[b]? = W.heap[b]?) : Lv B v us W' := by
  obtain ⟨h1, h2⟩ := h
  refine ⟨h1, ?_⟩
  rcases h2 with h2 | ⟨g, cap, cur, rfl, h4, h5, h6⟩
  · exact .inl h2
  · exact .inr ⟨g, cap, cur, rfl, h4, (hb g rfl).trans h5, h6⟩
theorem Lv.lt (h : Lv B v us W) {b : Nat} (hb : v.ownBlock = some b) : b < W.heap.size ∧ B ≤ b := by
  rcases h.2 with ⟨rfl, _⟩ | ⟨g, cap, cur, rfl, h4, h5, _⟩
  · cases hb
  · cases hb
    exact ⟨(Array.getElem?_eq_some_iff.1 h5).1, h4⟩
theorem Lv.held (h : Lv B v us W) (hb : Below W.heap.size W W') : Lv B v us W' := h.of_block fun b e => hb.block b (h.lt e).1
theorem Lv.drew (h : Lv B v us W) : Lv B v us W.drew := h
theorem Lv.form (h : Lv B v us W) : ∃ p cap, v = .slice p us.length cap ∧ us.length ≤ cap := by
  rcases h.2 with ⟨rfl, h0⟩ | ⟨g, cap, cur, rfl, _, _, h6, _⟩
  · exact ⟨none, 0, by rw [h0], by omega⟩
  · exact ⟨_, cap, rfl, h6⟩
/-- behind 'append(list, news...)' -/
theorem Lv.push (h : Lv B v us W) (hB : B ≤ W.heap.size) {ad : Addr} {m c : Nat} {news : List Up} (hm : news.length = m) (hnews : ∀ j u, (news.flatMap ucl)[j]? = some u → W.cell? (ad.add j) = some u) (h0 : 0 < m) (hbig : us.length + m ≤ 100000) (ty : TypeId) :
    ∃ g' cap' W', (Builtin.append_ #[22, 22] ty #[v, .slice (some ad) m c]).run Try.prog W = .ok (.slice (some ⟨g', 0, none⟩) (us.length + m) cap') W' ∧ Lv B (.slice (some ⟨g', 0, none⟩) (us.length + m) cap') (us ++ news) W' ∧ W.grownBy W' v.ownBlock ∧ (v.ownBlock = some g' ∨ g' = W.heap.size) := by
  obtain ⟨i0, hi, hz0, hz1, hz2⟩ := info_parts infoUp
  obtain ⟨v', W', hr, hown, hgr, hnil, hat⟩ := run_append_own_at (P := Try.prog) W B 22 ty 31 i0 _ 5 32 (by kernel_rfl) hi hz0 hz1 hz2 rfl (by decide) v us.length (us.flatMap ucl) h ad m c (news.flatMap ucl) (by rw [flat_length, hm]) hnews (ucl_one _)
    (by unfold maxLen; omega) (by omega) hB
  have hne : ¬ v' = .slice none 0 0 := fun e => by have := (hnil.1 e).2; omega
  rcases hown.2 with ⟨rfl, _⟩ | ⟨g', cap', cur, rfl, h4, h5, h6, h7, h8, h9⟩
  · exact absurd rfl hne
  · refine ⟨g', cap', W', hr, ⟨by rw [List.length_append, hm, List.flatMap_append]; exact hown.1, .inr ⟨g', cap', cur, by rw [List.length_append, hm], h4, h5, by rw [List.length_append, hm]; exact h6, h7, h8, by rw [List.length_append, hm, List.flatMap_append]; exact h9⟩⟩, hgr, ?_⟩
    rcases hat with h | h
    · exact .inl (h.symm.trans rfl)
    · exact .inr (by simpa [Value.ownBlock] using h)
end
theorem Lv.ul {B : Nat} {v : Value} {us : List Up} {w : World} (h : Lv B v us w) (hf : ∀ u ∈ us, u.Fits) (hm : us.length ≤ 100000) : ∃ A cap, v = .slice A us.length cap ∧ Ul w A us.length cap us := by
  by_cases e : us = []
  · subst e
    obtain ⟨p, cap, rfl, hc⟩ := h.form
    exact ⟨p, cap, rfl, rfl, by simp, by simp, fun h => by simp at h, fun b off _ i hi => by simp at hi, fun u hu => by simp at hu⟩
  · have hnn : ¬ v = .slice none 0 0 := fun h2 => by
      subst h2
      rcases h.2 with ⟨_, h0⟩ | ⟨g, cap, cur, h4, _⟩
      · exact e (List.length_eq_zero_iff.1 h0)
      · cases h4
    have : Lu B v us w := ⟨h, ⟨fun h2 => absurd h2 hnn, fun h2 => absurd h2 e⟩⟩
    exact this.ul hf hm

set_option maxRecDepth 100000 in
set_option maxHeartbeats 400000 in
theorem ldecode_bad {A : Option Addr} {n cap : Nat} {bs : List Nat} {w : World} (h : Sl w A n cap bs) (hbad : headed bs = false) :
    Calls Try.prog 14 #[.slice A n cap] w fun e w' => Below w.heap.size w w' ∧ e = .returned (.tuple #[.slice none 0 0, .bool false]) := by
  have hl := h.bytes.1
  have hmx := h.bytes.2.1
  have hcap := h.cap
  have hmx' : n ≤ 9223372036854775807 := by unfold maxLen at hmx; omega
  clear hmx
  by_cases h4 : n < 4
  · have d1 : decide ((n : Int) < 4) = true := decide_eq_true (by omega)
    clear h hbad hl
    go_enter Try.func14, Try.ntmps14
    go_upto_region 1 with (fail)
    go_big_quiet (fail)
    go_wp2_with fail
    go_ret2
    exact ⟨drewN_below (Below.refl _ _) _, rfl⟩
  have d1 : decide ((n : Int) < 4) = false := decide_eq_false (by omega)
  by_cases h1024 : 1024 < n
  · have d2 : decide ((1024 : Int) < (n : Int)) = true := decide_eq_true (by omega)
    clear h hbad hl h1024 h4
    go_enter Try.func14, Try.ntmps14
    go_upto_region 1 with (fail)
    go_big_quiet (fail)
    go_wp2_with fail
    go_ret2
    exact ⟨drewN_below (Below.refl _ _) _, rfl⟩
  have d2 : decide ((1024 : Int) < (n : Int)) = false := decide_eq_false (by omega)
  obtain ⟨b, off, rfl⟩ := h.plain (by omega)
  have c0 : w.cell? ⟨b, off, none⟩ = some (.int .u8 (bs.getD 0 0 : Nat)) := h.at_ (k := 0) (by omega)
  have c1 : w.cell? ⟨b, off + 1, none⟩ = some (.int .u8 (bs.getD 1 0 : Nat)) := h.at_ (k := 1) (by omega)
  have c2 : w.cell? ⟨b, off + 2, none⟩ = some (.int .u8 (bs.getD 2 0 : Nat)) := h.at_ (k := 2) (by omega)
  have c3 : w.cell? ⟨b, off + 3, none⟩ = some (.int .u8 (bs.getD 3 0 : Nat)) := h.at_ (k := 3) (by omega)
  have hh : headed bs = (decide (bs.getD 0 0 = 87) && decide (bs.getD 1 0 = 1) && decide (bs.getD 2 0 * 256 + bs.getD 3 0 = n - 4)) := by
    unfold headed
    rw [hl, Bool.eq_iff_iff]
    simp only [decide_eq_true_eq, Bool.and_eq_true]
    constructor
    · rintro ⟨-, -, x, y, z⟩; exact ⟨⟨x, y⟩, z⟩
    · rintro ⟨⟨x, y⟩, z⟩; exact ⟨by omega, by omega, x, y, z⟩
  have hx := h.bytes.lt 0
  have hy := h.bytes.lt 1
  have hz := h.bytes.lt 2
  have hu := h.bytes.lt 3
  generalize bs.getD 0 0 = x0 at *
  generalize bs.getD 1 0 = x1 at *
  generalize bs.getD 2 0 = x2 at *
  generalize bs.getD 3 0 = x3 at *
  by_cases e0 : x0 = 87
  case neg =>
    have d3 : ((x0 : Int) != 87) = true := by simp; omega
    clear h hh hbad hl c1 c2 c3 hx hy hz hu e0
    go_enter Try.func14, Try.ntmps14
    go_upto_region 1 with (fail)
    go_big_quiet (fail)
    clear d3 c0 h4 h1024 d1 d2
    go_wp2_with fail
    go_ret2
    exact ⟨drewN_below (Below.refl _ _) _, rfl⟩
  have d3 : ((x0 : Int) != 87) = false := by simp; omega
  by_cases e1 : x1 = 1
  case neg =>
    have d4 : ((x1 : Int) != 1) = true := by simp; omega
    clear h hh hbad hl c2 c3 hx hy hz hu e0 e1
    go_enter Try.func14, Try.ntmps14
    go_upto_region 1 with (fail)
    go_big_quiet (fail)
    clear d3 d4 c0 c1 h4 h1024 d1 d2
    go_wp2_with fail
    go_ret2
    exact ⟨drewN_below (Below.refl _ _) _, rfl⟩
  have d4 : ((x1 : Int) != 1) = false := by simp; omega
  have q5 : wrap64 (wrap64 (256 * wrap64 (x2 : Int)) + wrap64 (x3 : Int)) = 256 * (x2 : Int) + (x3 : Int) := by rw [IntWalk.wrap64_in (x2 : Int) (by omega), IntWalk.wrap64_in (x3 : Int) (by omega), IntWalk.wrap64_in (256 * (x2 : Int)) (by omega), IntWalk.wrap64_in _ (by omega)]
  by_cases e2 : x2 * 256 + x3 = n - 4
  case neg =>
    have d5 : (wrap64 (wrap64 (256 * wrap64 (x2 : Int)) + wrap64 (x3 : Int)) != (n : Int) - 4) = true := by rw [q5]; simp; omega
    clear h hh hbad hl hx hy hz hu e0 e1 e2 q5
    go_enter Try.func14, Try.ntmps14
    go_upto_region 1 with (fail)
    go_big_quiet (fail)
    clear d3 d4 d5 c0 c1 c2 c3 h4 h1024 d1 d2
    go_wp2_with fail
    go_ret2
    exact ⟨drewN_below (Below.refl _ _) _, rfl⟩
  exfalso
  rw [hh] at hbad
  simp [e0, e1, e2] at hbad
end Go.Proofs.Ytpdbaediepofjaa
