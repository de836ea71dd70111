/-
  Datagrams in memory: a slice of slices of bytes that the call makes, each row a block of its own; lists of what is told that were there.
-/
import Derived.Test.YtpdbaediepofjaaTlvG
namespace Go.Proofs.Ytpdbaediepofjaa
open Go.RowKit Tm

/-- a row's value -/
def rv (g cap : Nat → Nat) (rows : List (List Nat)) (i : Nat) : Value := .slice (some ⟨g i, 0, none⟩) (rows.getD i []).length (cap i)
def rvs (g cap : Nat → Nat) (rows : List (List Nat)) : List Value := (List.range rows.length).map (rv g cap rows)
theorem rvs_length (g cap : Nat → Nat) (rows : List (List Nat)) : (rvs g cap rows).length = rows.length := by simp [rvs]
theorem rvs_get {g cap : Nat → Nat} {rows : List (List Nat)} {i : Nat} (hi : i < rows.length) : (rvs g cap rows)[i]? = some (rv g cap rows i) := by simp [rvs, hi]
theorem rvs_one (g cap : Nat → Nat) (rows : List (List Nat)) : ∀ v ∈ rvs g cap rows, v.oneCell' = true := by
  intro v hv
  obtain ⟨i, _, rfl⟩ := List.mem_map.1 hv
  rfl
theorem infoSl : (Try.prog.info? 35).map (fun i => (i.zero, i.size, i.bytes)) = some (some (.slice none 0 0), 1, 24) := by kernel_rfl

structure Lag (B : Nat) (v : Value) (rows : List (List Nat)) (g cap : Nat → Nat) (W : World) : Prop where
  own : W.ownsRow B 35 1 v rows.length (rvs g cap rows)
  ob : ∀ i, i < rows.length → Ob W (g i) (cap i) (rows.getD i [])
  ge : ∀ i, i < rows.length → B ≤ g i
  inj : ∀ i j, i < rows.length → j < rows.length → g i = g j → i = j
  out : ∀ i, i < rows.length → v.ownBlock ≠ some (g i)
def Las (B : Nat) (v : Value) (rows : List (List Nat)) (W : World) : Prop := ∃ g cap, Lag B v rows g cap W
section
variable {B : Nat} {v : Value} {rows : List (List Nat)} {g cap : Nat → Nat} {W W' : World}
theorem Las.nil (B : Nat) (W : World) : Las B (.slice none 0 0) [] W := ⟨fun _ => 0, fun _ => 0, ⟨rfl, .inl ⟨rfl, rfl⟩⟩, fun i h => by simp at h, fun i h => by simp at h, fun i j h => by simp at h, fun i h => by simp at h⟩
theorem Lag.of_block (h : Lag B v rows g cap W) (hb : ∀ b, v.ownBlock = some b → W'.heap[b]? = W.heap[b]?) (hg : ∀ i, i < rows.length → W'.heap[g i]? = W.heap[g i]?) : Lag B v rows g cap W' := by
  refine ⟨⟨h.own.1, ?_⟩, fun i hi => (h.ob i hi).of_block (hg i hi), h.ge, h.inj, h.out⟩
  rcases h.own.2 with h2 | ⟨gb, cp, cur, rfl, h4, h5, h6⟩
  · exact .inl h2
  · exact .inr ⟨gb, cp, cur, rfl, h4, (hb gb rfl).trans h5, h6⟩
theorem Lag.lt (h : Lag B v rows g cap W) {b : Nat} (hb : v.ownBlock = some b) : b < W.heap.size ∧ B ≤ b := by
  rcases h.own.2 with ⟨rfl, _⟩ | ⟨gb, cp, cur, rfl, h4, h5, _⟩
  · cases hb
  · cases hb
    exact ⟨(Array.getElem?_eq_some_iff.1 h5).1, h4⟩
theorem Lag.held (h : Lag B v rows g cap W) (hb : Below W.heap.size W W') : Lag B v rows g cap W' := h.of_block (fun b e => hb.block b (h.lt e).1) (fun i hi => hb.block _ (h.ob i hi).lt)
theorem Las.held (h : Las B v rows W) (hb : Below W.heap.size W W') : Las B v rows W' := by obtain ⟨g, cap, h⟩ := h; exact ⟨g, cap, h.held hb⟩
theorem Las.drew (h : Las B v rows W) : Las B v rows W.drew := by obtain ⟨g, cap, h⟩ := h; exact ⟨g, cap, h.of_block (fun _ _ => rfl) (fun _ _ => rfl)⟩
theorem Lag.form (h : Lag B v rows g cap W) : ∃ p cp, v = .slice p rows.length cp ∧ rows.length ≤ cp := by
  rcases h.own.2 with ⟨rfl, h0⟩ | ⟨gb, cp, cur, rfl, _, _, h6, _⟩
  · exact ⟨none, 0, by rw [h0], by omega⟩
  · exact ⟨_, cp, rfl, h6⟩
theorem Las.form (h : Las B v rows W) : ∃ p cp, v = .slice p rows.length cp ∧ rows.length ≤ cp := by obtain ⟨g, cap, h⟩ := h; exact h.form
/-- the block with its row, where there is one -/
theorem Lag.block (h : Lag B v rows g cap W) (h0 : 0 < rows.length) : ∃ gb cp cur, v = .slice (some ⟨gb, 0, none⟩) rows.length cp ∧ B ≤ gb ∧ Blk 35 W gb cur ∧ rows.length ≤ cp ∧ cp ≤ maxLen ∧ cur.size = cp ∧ cur.toList.take rows.length = rvs g cap rows := by
  rcases h.own.2 with ⟨rfl, h1⟩ | ⟨gb, cp, cur, rfl, h4, h5, h6, h7, h8, h9⟩
  · omega
  · exact ⟨gb, cp, cur, rfl, h4, h5, h6, h7, by omega, by rw [Nat.mul_one] at h9; exact h9⟩
theorem take_at {cur : Array Value} {l : List Value} {n i : Nat} (h : cur.toList.take n = l) (hi : i < n) : cur[i]? = l[i]? := by
  rw [← h, List.getElem?_take, if_pos hi]; simp
/-- 'append(all, row)' -/
theorem Las.push (h : Las B v rows W) (hb : Below W.heap.size W W') (hB : B ≤ W.heap.size) {ad : Addr} {gn cn c : Nat} {new : List Nat} (hc : W'.cell? ad = some (.slice (some ⟨gn, 0, none⟩) new.length cn)) (hO : Ob W' gn cn new) (hn : W.heap.size ≤ gn) (hl : rows.length ≤ 100000) (ty : TypeId) :
    ∃ g' cap' W2, (Builtin.append_ #[33, 33] ty #[v, .slice (some ad) 1 c]).run Try.prog W' = .ok (.slice (some ⟨g', 0, none⟩) (rows.length + 1) cap') W2 ∧ Las B (.slice (some ⟨g', 0, none⟩) (rows.length + 1) cap') (rows ++ [new]) W2 ∧ Below B W W2 ∧ ∀ x t C, Blk t W' x C → t ≠ 35 → Blk t W2 x C := by
  obtain ⟨g, cap, h⟩ := h
  obtain ⟨i0, hi, hz0, hz1, hz2⟩ := info_parts infoSl
  have h' := h.held hb
  have hB' : B ≤ W'.heap.size := Nat.le_trans hB hb.size
  obtain ⟨v', W2, hr, hown, hgr, hnil, hat⟩ := run_append_own_at (P := Try.prog) W' B 33 ty 35 i0 _ 1 24 (by kernel_rfl) hi hz0 hz1 hz2 rfl (by decide) v rows.length (rvs g cap rows) h'.own ad 1 c [.slice (some ⟨gn, 0, none⟩) new.length cn] rfl (fun j u hu => by
      match j, hu with
      | 0, hu =>
        rw [show ad.add 0 = ad by cases ad; simp [Addr.add]; try (split <;> rfl), hc]
        simpa using hu
      | j + 1, hu => simp at hu) (by simp [Value.oneCell']) (by unfold maxLen; omega) (by omega) hB'
  have hne : ¬ v' = .slice none 0 0 := fun e => by have := (hnil.1 e).2; omega
  have hbl : ∀ k, v.ownBlock = some k → B ≤ k := fun k e => (h'.lt e).2
  have hlt := hO.lt
  have hf : ∀ i, i < rows.length → g i ≠ gn := fun i hi e => by have := (h.ob i hi).lt; omega
  have hfo : v.ownBlock ≠ some gn := fun e => by have := (h.lt e).1; omega
  have ho : ∀ b, b < W'.heap.size → v.ownBlock ≠ some b → v'.ownBlock ≠ some b := fun b hb hv e => by
    rcases hat with h1 | h1
    · rw [h1] at e; exact hv e
    · rw [h1] at e; cases e; omega
  rcases hown.2 with ⟨rfl, _⟩ | ⟨g', cap', cur, rfl, h4, h5, h6, h7, h8, h9⟩
  · exact absurd rfl hne
  · have hgt : ∀ (b x : Nat), (fun i => if i = rows.length then x else g i) rows.length = x := fun _ x => by simp
    refine ⟨g', cap', W2, hr, ⟨fun i => if i = rows.length then gn else g i, fun i => if i = rows.length then cn else cap i, ?_, ?_, ?_, ?_, ?_⟩, (hb.mono hB).grown hgr hB' hbl, fun x t C hx ht => (hgr.block x hx.lt (fun e => by
      rcases h'.own.2 with ⟨rfl, _⟩ | ⟨gq, _, curq, rfl, _, hq, _⟩
      · cases e
      · cases e
        have e2 := hx.symm.trans hq
        cases e2
        exact ht rfl)).trans hx⟩
    · have e : rvs (fun i => if i = rows.length then gn else g i) (fun i => if i = rows.length then cn else cap i) (rows ++ [new]) = rvs g cap rows ++ [.slice (some ⟨gn, 0, none⟩) new.length cn] := by
        simp only [rvs, List.length_append, List.length_cons, List.length_nil, Nat.zero_add, List.range_succ, List.map_append, List.map_cons, List.map_nil]
        congr 1
        · refine List.map_congr_left fun i hi => ?_
          have hi' : i < rows.length := by simpa using hi
          have : i ≠ rows.length := by omega
          simp [rv, this, List.getD, List.getElem?_append_left hi']
        · simp [rv, List.getD]
      rw [List.length_append, e]
      exact hown
    · intro i hi
      rw [List.length_append] at hi
      by_cases e : i = rows.length
      · subst e
        simp only [if_true]
        rw [show (rows ++ [new]).getD rows.length [] = new by simp [List.getD]]
        exact hO.of_block (hgr.block _ hlt (fun e => hfo e.symm))
      · have hi' : i < rows.length := by simp at hi; omega
        simp only [if_neg e]
        rw [show (rows ++ [new]).getD i [] = rows.getD i [] by simp [List.getD, List.getElem?_append_left hi']]
        exact (h'.ob i hi').of_block (hgr.block _ (h'.ob i hi').lt (fun e => h.out i hi' e.symm))
    · intro i hi
      rw [List.length_append] at hi
      split
      · omega
      · exact h.ge i (by simp at hi; omega)
    · intro i j hi hj e
      rw [List.length_append] at hi hj
      simp only [List.length_cons, List.length_nil] at hi hj e
      split at e <;> split at e
      · omega
      · exact absurd e.symm (hf j (by omega))
      · exact absurd e (hf i (by omega))
      · exact h.inj i j (by omega) (by omega) e
    · intro i hi
      rw [List.length_append] at hi
      simp only [List.length_cons, List.length_nil] at hi
      split
      · exact ho _ hlt hfo
      · exact ho _ (h'.ob i (by omega)).lt (h.out i (by omega))
/-- a row replaced: 'all[i] = append(all[i], x...)' -/
theorem Las.app {gb n cp : Nat} (h : Las B (.slice (some ⟨gb, 0, none⟩) n cp) rows W) {i : Nat} (hi : i < rows.length) (hBW : B ≤ W.heap.size) {ad : Addr} {m : Nat} {news : List Nat} (hx : BytesAt W (some ad) m news) (hm : (rows.getD i []).length + m ≤ 5000) (c : Nat) (ty : TypeId) :
    ∃ gi ci g' cap' W1, W.cell? ⟨gb, i, none⟩ = some (.slice (some ⟨gi, 0, none⟩) (rows.getD i []).length ci) ∧
      (Builtin.append_ #[35, 35] ty #[.slice (some ⟨gi, 0, none⟩) (rows.getD i []).length ci, .slice (some ad) m c]).run Try.prog W = .ok (.slice (some ⟨g', 0, none⟩) ((rows.getD i []).length + m) cap') W1 ∧
      W1.cell? ⟨gb, i, none⟩ = some (.slice (some ⟨gi, 0, none⟩) (rows.getD i []).length ci) ∧ W1.frozen? ⟨gb, i, none⟩ = false ∧
      Las B (.slice (some ⟨gb, 0, none⟩) n cp) (rows.set i (rows.getD i [] ++ news)) (W1.setCell ⟨gb, i, none⟩ (.slice (some ⟨g', 0, none⟩) ((rows.getD i []).length + m) cap')) ∧
      Below B W (W1.setCell ⟨gb, i, none⟩ (.slice (some ⟨g', 0, none⟩) ((rows.getD i []).length + m) cap')) ∧
      ∀ x t C, Blk t W x C → t ≠ 5 → t ≠ 35 → Blk t (W1.setCell ⟨gb, i, none⟩ (.slice (some ⟨g', 0, none⟩) ((rows.getD i []).length + m) cap')) x C := by
  obtain ⟨g, cap, h⟩ := h
  obtain ⟨gb', cp', cur, hv, hB, hblk, hle, hmx, hsz, htk⟩ := h.block (by omega)
  simp only [Value.slice.injEq, Option.some.injEq, Addr.mk.injEq, and_true] at hv
  obtain ⟨rfl, rfl, rfl⟩ := hv
  have hci : W.cell? ⟨gb, i, none⟩ = some (rv g cap rows i) := by rw [hblk.at_ i, take_at htk hi, rvs_get hi]
  obtain ⟨g', cap', W1, hr, hO, hT, hat⟩ := run_app (h.ob i hi) hx hm c ty
  have hgb : gb ≠ g i := fun e => h.out i hi (by rw [e]; rfl)
  have hblk1 : Blk 35 W1 gb cur := hblk.turn hT (by simpa using hgb)
  have hlt' : g' < W1.heap.size := hO.lt
  have hg'B : B ≤ g' := by rcases hat with e | e; exact e ▸ h.ge i hi; omega
  have hg'gb : gb ≠ g' := by
    rcases hat with e | e
    · rw [e]; exact hgb
    · have := hblk.lt; omega
  have hg'j : ∀ j, j < rows.length → j ≠ i → g j ≠ g' := fun j hj hne => by
    rcases hat with e | e
    · rw [e]; exact fun e2 => hne (h.inj j i hj hi e2)
    · have := (h.ob j hj).lt; omega
  refine ⟨g i, cap i, g', cap', W1, hci, hr, by rw [hblk1.at_ i, take_at htk hi, rvs_get hi]; rfl, hblk1.free i, ⟨fun j => if j = i then g' else g j, fun j => if j = i then cap' else cap j, ?_, ?_, ?_, ?_, ?_⟩, ?_, fun x t C hx ht ht2 => ?_⟩
  · rw [List.length_set]
    refine ⟨by rw [rvs_length, List.length_set, Nat.mul_one], .inr ⟨gb, cp, _, rfl, hB, hblk1.store i _, hle, hmx, by simpa using hsz, ?_⟩⟩
    rw [Nat.mul_one, Array.toList_setIfInBounds, List.take_set, htk]
    refine List.ext_getElem? fun j => ?_
    by_cases hj : j < rows.length
    · rw [rvs_get (rows := rows.set i _) (by simpa using hj), List.getElem?_set]
      by_cases e : i = j
      · subst e
        rw [if_pos rfl, if_pos (by rw [rvs_length]; exact hi)]
        simp [rv, List.getD, hi, hx.1]
      · rw [if_neg e, rvs_get hj]
        have e' : ¬ j = i := fun e2 => e e2.symm
        simp [rv, List.getD, e, e']
    · rw [List.getElem?_eq_none (by simp [rvs_length]; omega), List.getElem?_eq_none (by simp [rvs_length]; omega)]
  · intro j hj
    rw [List.length_set] at hj
    by_cases e : j = i
    · subst e
      simp only [if_true]
      rw [show (rows.set j (rows.getD j [] ++ news)).getD j [] = rows.getD j [] ++ news by simp [List.getD, hj]]
      exact hO.of_block (Below.heap_setCell _ _ _ _ (fun e => hg'gb e.symm))
    · simp only [if_neg e]
      have e' : ¬ i = j := fun e2 => e e2.symm
      rw [show (rows.set i (rows.getD i [] ++ news)).getD j [] = rows.getD j [] by simp [List.getD, e']]
      refine (h.ob j hj).of_block ?_
      rw [Below.heap_setCell _ _ _ _ (fun e2 => h.out j hj (by rw [e2]; rfl))]
      exact hT.block _ (h.ob j hj).lt (by simp; exact fun e2 => e (h.inj j i hj hi e2))
  · intro j hj
    split
    · exact hg'B
    · exact h.ge j (by simpa using hj)
  · intro j k hj hk e
    rw [List.length_set] at hj hk
    split at e <;> split at e
    · omega
    · exact absurd e.symm (hg'j k hk (by assumption))
    · exact absurd e (hg'j j hj (by assumption))
    · exact h.inj j k hj hk e
  · intro j hj
    split
    · simpa [Value.ownBlock] using hg'gb
    · exact h.out j (by simpa using hj)
  · refine Below.setCell ?_ (p := ⟨gb, i, none⟩) hB _
    exact hT.below (B := B) (by simpa using h.ge i hi) hBW
  · have n1 : x ≠ g i := fun e => by
      obtain ⟨_, h1, _⟩ := h.ob i hi
      subst e
      have e2 := hx.symm.trans h1
      cases e2
      exact ht rfl
    have n2 : x ≠ gb := fun e => by
      subst e
      have e2 := hx.symm.trans hblk
      cases e2
      exact ht2 rfl
    exact (hx.turn hT (by simpa using n1)).away (p := ⟨gb, i, none⟩) n2 _
end
end Go.Proofs.Ytpdbaediepofjaa
