/-
  Lists of what is told, in memory; what a part says of the rest.
-/
import Derived.Test.YtpdbaediepofjaaTlvT
import Derived.Maps.AppendAt
namespace Go.Proofs.Ytpdbaediepofjaa
open Go.RowKit Tm

/-! ### a list that the call makes -/
def ucl (u : Up) : List Value := u.cs.toList
theorem ucl_length (u : Up) : (ucl u).length = 5 := rfl
theorem ucl_one (us : List Up) : ∀ v ∈ us.flatMap ucl, v.oneCell' = true := by
  intro v hv
  obtain ⟨u, -, h⟩ := List.mem_flatMap.1 hv
  simp only [ucl, Up.cs, ucs, List.mem_cons, List.not_mem_nil, or_false] at h
  rcases h with rfl | rfl | rfl | rfl | rfl <;> rfl
theorem flat_length (us : List Up) : (us.flatMap ucl).length = us.length * 5 := by
  induction us with
  | nil => rfl
  | cons u r ih => rw [List.flatMap_cons, List.length_append, ih, ucl_length, List.length_cons]; omega
theorem flat_get {us : List Up} {i j : Nat} (hi : i < us.length) (hj : j < 5) : (us.flatMap ucl)[5 * i + j]? = (us[i].cs)[j]? := by
  induction us generalizing i with
  | nil => simp at hi
  | cons u r ih =>
    rw [List.flatMap_cons]
    cases i with
    | zero => rw [Nat.mul_zero, Nat.zero_add, List.getElem?_append_left (by rw [ucl_length]; exact hj)]; simp [ucl]
    | succ i =>
      rw [List.getElem?_append_right (by rw [ucl_length]; omega), ucl_length, show 5 * (i + 1) + j - 5 = 5 * i + j by omega]
      simpa using ih (by simpa using hi)
theorem infoUp : (Try.prog.info? 31).map (fun i => (i.zero, i.size, i.bytes)) = some (some (.agg #[.int .u32 0, .int .i64 0, .int .u32 0, .int .u32 0, .int .u16 0]), 5, 32) := by kernel_rfl
/-- v is a list of the call's own (from block B on) that holds us -/
def Lu (B : Nat) (v : Value) (us : List Up) (W : World) : Prop := W.ownsRow B 31 5 v us.length (us.flatMap ucl) ∧ (v = .slice none 0 0 ↔ us = [])
section
variable {B : Nat} {v : Value} {us : List Up} {W W' : World}
theorem Lu.nil (B : Nat) (W : World) : Lu B (.slice none 0 0) [] W := ⟨⟨rfl, .inl ⟨rfl, rfl⟩⟩, by simp⟩
theorem Lu.of_block (h : Lu B v us W) (hb : ∀ b, v.ownBlock = some b → W'.heap[b]? = W.heap[b]?) : Lu B v us W' := by
  obtain ⟨⟨h1, h2⟩, h3⟩ := h
  refine ⟨⟨h1, ?_⟩, h3⟩
  rcases h2 with h2 | ⟨g, cap, cur, rfl, h4, h5, h6⟩
  · exact .inl h2
  · exact .inr ⟨g, cap, cur, rfl, h4, (hb g rfl).trans h5, h6⟩
theorem Lu.lt (h : Lu B v us W) {b : Nat} (hb : v.ownBlock = some b) : b < W.heap.size ∧ B ≤ b := by
  rcases h.1.2 with ⟨rfl, _⟩ | ⟨g, cap, cur, rfl, h4, h5, _⟩
  · cases hb
  · cases hb
    exact ⟨(Array.getElem?_eq_some_iff.1 h5).1, h4⟩
theorem Lu.held (h : Lu B v us W) (hb : Below W.heap.size W W') : Lu B v us W' := h.of_block fun b e => hb.block b (h.lt e).1
theorem Lu.drew (h : Lu B v us W) : Lu B v us W.drew := h
theorem Lu.turn {L : List Nat} (h : Lu B v us W) (t : Turn L W W') (hL : ∀ b, v.ownBlock = some b → b ∉ L) : Lu B v us W' := h.of_block fun b e => t.block b (h.lt e).1 (hL b e)
theorem Lu.form (h : Lu B v us W) : ∃ p cap, v = .slice p us.length cap ∧ us.length ≤ cap := by
  rcases h.1.2 with ⟨rfl, h0⟩ | ⟨g, cap, cur, rfl, _, _, h6, _⟩
  · exact ⟨none, 0, by rw [h0], by omega⟩
  · exact ⟨_, cap, rfl, h6⟩
/-- behind 'append(list, news...)' -/
theorem run_us (h : Lu B v us W) (hB : B ≤ W.heap.size) {ad : Addr} {m c : Nat} {news : List Up} (hm : news.length = m) (hnews : ∀ j u, (news.flatMap ucl)[j]? = some u → W.cell? (ad.add j) = some u) (h0 : 0 < m) (hbig : us.length + m ≤ 100000) (ty : TypeId) :
    ∃ g' cap' W', (Builtin.append_ #[22, 22] ty #[v, .slice (some ad) m c]).run Try.prog W = .ok (.slice (some ⟨g', 0, none⟩) (us.length + m) cap') W' ∧ Lu B (.slice (some ⟨g', 0, none⟩) (us.length + m) cap') (us ++ news) W' ∧ W.grownBy W' v.ownBlock ∧ (v.ownBlock = some g' ∨ g' = W.heap.size) := by
  obtain ⟨i0, hi, hz0, hz1, hz2⟩ := info_parts infoUp
  obtain ⟨v', W', hr, hown, hgr, hnil, hat⟩ := run_append_own_at (P := Try.prog) W B 22 ty 31 i0 _ 5 32 (by kernel_rfl) hi hz0 hz1 hz2 rfl (by decide) v us.length (us.flatMap ucl) h.1 ad m c (news.flatMap ucl) (by rw [flat_length, hm]) hnews (ucl_one _)
    (by unfold maxLen; omega) (by omega) hB
  have hne : ¬ v' = .slice none 0 0 := fun e => by have := (hnil.1 e).2; omega
  rcases hown.2 with ⟨rfl, _⟩ | ⟨g', cap', cur, rfl, h4, h5, h6, h7, h8, h9⟩
  · exact absurd rfl hne
  · refine ⟨g', cap', W', hr, ⟨⟨by rw [List.length_append, hm, List.flatMap_append]; exact hown.1, .inr ⟨g', cap', cur, by rw [List.length_append, hm], h4, h5, by rw [List.length_append, hm]; exact h6, h7, h8, by rw [List.length_append, hm, List.flatMap_append]; exact h9⟩⟩, ?_⟩, hgr, ?_⟩
    · constructor
      · intro e; cases e
      · intro e
        have : (us ++ news).length = 0 := by rw [e]; rfl
        rw [List.length_append] at this; omega
    · rcases hat with h | h
      · exact .inl (h.symm.trans rfl)
      · exact .inr (by simpa [Value.ownBlock] using h)
end
/-! ### parts -/
theorem pb_false {x : List Nat} {m id : Nat} (h0 : 0 < x.length) (h : pb x = (m, false)) : walk id x = none := by
  match x, h0 with
  | k :: r, _ =>
    unfold pb at h
    simp only [List.getD_cons_zero] at h
    rw [walk.eq_def]
    simp only
    by_cases hk : k = 0
    · rw [if_pos hk] at h; cases h
    · rw [if_neg hk] at h ⊢
      match r with
      | [] => rfl
      | n :: r =>
        simp only [List.length_cons, List.getD_cons_succ, List.getD_cons_zero] at h
        rw [if_neg (by omega)] at h
        have h2 := (Prod.mk.inj h).2
        rw [decide_eq_false_iff_not] at h2
        simp only
        rw [if_pos (by omega)]
theorem pb_true {x : List Nat} {m : Nat} (h0 : 0 < x.length) (h : pb x = (m, true)) : 1 ≤ m ∧ m ≤ x.length ∧ (x.getD 0 0 ≠ 0 → 2 ≤ m ∧ m = 2 + x.getD 1 0) := by
  unfold pb at h
  split at h
  · cases h
    exact ⟨by omega, by omega, fun e => absurd (by assumption) e⟩
  · split at h
    · cases h
    · have h1 := (Prod.mk.inj h).1
      have h2 := (Prod.mk.inj h).2
      rw [decide_eq_true_eq] at h2
      exact ⟨by omega, by omega, fun _ => ⟨by omega, h1.symm⟩⟩
/-- what a part makes of what was named, and what it tells -/
def Tm.named (k : Nat) (body : List Nat) (id : Nat) : Nat := if k = 2 ∧ body.length = 4 then val body else id
def Tm.says (k : Nat) (body : List Nat) (id : Nat) : List Up := if k = 3 then (told body id).toList else []
theorem walk_pb {x : List Nat} {m id : Nat} (h0 : 0 < x.length) (h : pb x = (m, true)) :
    walk id x = (walk (named (x.getD 0 0) ((x.take m).drop 2) id) (x.drop m)).map (says (x.getD 0 0) ((x.take m).drop 2) id ++ ·) := by
  match x, h0 with
  | k :: r, _ =>
    obtain ⟨h1, h2, h3⟩ := pb_true (by simp) h
    simp only [List.getD_cons_zero, List.length_cons] at h1 h2 h3 ⊢
    by_cases hk : k = 0
    · subst hk
      have hm : m = 1 := by unfold pb at h; simp at h; exact h.symm
      subst hm
      rw [walk_zero]
      simp only [List.drop_succ_cons, List.drop_zero, named, says]
      rw [if_neg (by omega), if_neg (by omega)]
      cases walk id r <;> rfl
    · obtain ⟨h4, h5⟩ := h3 hk
      match r with
      | [] => simp at h2; omega
      | n :: r =>
        simp only [List.getD_cons_succ, List.getD_cons_zero, List.length_cons] at h5 h2
        subst h5
        have e1 : ((k :: n :: r).take (2 + n)).drop 2 = r.take n := by rw [Nat.add_comm]; rfl
        have e2 : (k :: n :: r).drop (2 + n) = r.drop n := by rw [Nat.add_comm]; rfl
        rw [e1, e2]
        have hl : (r.take n).length = n := by rw [List.length_take]; omega
        have := walk_part id k n (r.take n) (r.drop n) hk hl
        rw [List.take_append_drop] at this
        rw [this]
        unfold named says
        rw [hl]
        by_cases k3 : k = 3
        · rw [if_pos k3, if_pos k3, if_neg (by omega)]
        · rw [if_neg k3, if_neg k3]
theorem named_lt {k id : Nat} {body : List Nat} (hb : ∀ c ∈ body, c < 256) (hid : id < 4294967296) : named k body id < 4294967296 := by
  unfold named
  split
  · rename_i h
    exact val_lt 4 body (by omega) hb
  · exact hid
end Go.Proofs.Ytpdbaediepofjaa
