/-
  Slices of bytes that a call owns, and what is appended to them: bytes, and noughts.
-/
import Derived.Test.YtpdbaediepofjaaTlvB
import Derived.Maps.AppendAt
import Derived.Lib.AppendZeros
namespace Go.Proofs.Ytpdbaediepofjaa
open Go.RowKit Tm

/-- block g holds these bytes, and has room for cap -/
def Ob (u : World) (g cap : Nat) (bs : List Nat) : Prop := ∃ cur, Blk 5 u g cur ∧ cur.size = cap ∧ bs.length ≤ cap ∧ cap ≤ maxLen ∧ cur.toList.take bs.length = bs.map cell
section
variable {u u' : World} {g cap : Nat} {bs : List Nat}
theorem Ob.lt (h : Ob u g cap bs) : g < u.heap.size := by obtain ⟨cur, h1, _⟩ := h; exact h1.lt
theorem Ob.of_block (h : Ob u g cap bs) (hb : u'.heap[g]? = u.heap[g]?) : Ob u' g cap bs := by obtain ⟨cur, h1, h2⟩ := h; exact ⟨cur, hb.trans h1, h2⟩
theorem Ob.held (h : Ob u g cap bs) (hb : Below u.heap.size u u') : Ob u' g cap bs := h.of_block (hb.block _ h.lt)
theorem Ob.turn {L : List Nat} (h : Ob u g cap bs) (t : Turn L u u') (hg : g ∉ L) : Ob u' g cap bs := h.of_block (t.block _ h.lt hg)
theorem Ob.drew (h : Ob u g cap bs) : Ob u.drew g cap bs := h
theorem Ob.of_blk (h : Blk 5 u g (cls bs)) (hl : bs.length ≤ 5000) : Ob u g bs.length bs :=
  ⟨cls bs, h, by simp [cls], Nat.le_refl _, maxLen_small hl, List.take_of_length_le (by simp [cls])⟩
theorem Ob.bytes (h : Ob u g cap bs) (hb : ∀ c ∈ bs, c < 256) (hl : bs.length ≤ 5000) : BytesAt u (some ⟨g, 0, none⟩) bs.length bs := by
  obtain ⟨cur, h1, h2, h3, h4, h5⟩ := h
  refine .of_blk h1 bs 0 _ (maxLen_small hl) rfl hb (fun k hk => ?_)
  have e : (cur.toList.take bs.length)[k]? = some (cell (bs.getD k 0)) := by rw [h5]; simp [hk]
  rw [List.getElem?_take, if_pos hk] at e
  simpa using e
theorem Ob.owns (h : Ob u g cap bs) : u.ownsRow 0 5 1 (.slice (some ⟨g, 0, none⟩) bs.length cap) bs.length (bs.map cell) := by
  obtain ⟨cur, h1, h2, h3, h4, h5⟩ := h
  exact ⟨by simp, .inr ⟨g, cap, cur, rfl, Nat.zero_le _, h1, h3, h4, by omega, by rw [Nat.mul_one]; exact h5⟩⟩
end
theorem byte_parts : (Try.prog.info? 5).map (fun i => (i.zero, i.size, i.bytes)) = some (some (.int .u8 0), 1, 1) := by kernel_rfl
theorem cell_one (b : List Nat) : ∀ v ∈ b.map cell, v.oneCell' = true := by
  intro v hv
  obtain ⟨c, _, rfl⟩ := List.mem_map.1 hv
  rfl

/-- 'append(b, x...)' -/
theorem run_app {u : World} {g cap : Nat} {bs : List Nat} (h : Ob u g cap bs) {ad : Addr} {m : Nat} {news : List Nat} (hx : BytesAt u (some ad) m news) (hm : bs.length + m ≤ 5000) (c : Nat) (ty : TypeId) :
    ∃ g' cap' u', (Builtin.append_ #[35, 35] ty #[.slice (some ⟨g, 0, none⟩) bs.length cap, .slice (some ad) m c]).run Try.prog u = .ok (.slice (some ⟨g', 0, none⟩) (bs.length + m) cap') u' ∧ Ob u' g' cap' (bs ++ news) ∧ Turn [g] u u' ∧ (g' = g ∨ u.heap.size ≤ g') := by
  obtain ⟨i0, hi, hz0, hz1, hz2⟩ := info_parts byte_parts
  obtain ⟨v', u', hr, hown, hgr, hnil, hat⟩ := run_append_own_at (P := Try.prog) u 0 35 ty 5 i0 (.int .u8 0) 1 1 (by kernel_rfl) hi hz0 hz1 hz2 rfl (by decide) _ _ _ h.owns ad m c (news.map cell) (by simp [hx.1]) (fun j v hv => by
      obtain ⟨hl, -, -, hc⟩ := hx
      have hj : j < m := by
        have := (List.getElem?_eq_some_iff.1 hv).1
        simp at this; omega
      obtain ⟨ad', e, h'⟩ := hc j hj
      cases e
      rw [h', ← hv]
      have hj' : j < news.length := by omega
      simp [hj', cell]) (cell_one _) (maxLen_small hm) (by omega) (Nat.zero_le _)
  rcases hown.2 with ⟨rfl, h0⟩ | ⟨g', cap', cur, rfl, -, hg, h1, h2, h3, h4⟩
  · have := (hnil.1 rfl).1
    cases this
  · refine ⟨g', cap', u', hr, ⟨cur, hg, by omega, by simp [hx.1]; omega, h2, ?_⟩, ⟨hgr.os, hgr.tape, hgr.output, hgr.size, fun i hi hn => hgr.block i hi (fun e => hn (by simpa [Value.ownBlock] using e))⟩, ?_⟩
    · rw [List.length_append, hx.1, List.map_append, ← h4, Nat.mul_one]
    · rcases hat with h | h
      · simp only [Value.ownBlock, Option.some.injEq] at h
        exact .inl h
      · simp only [Value.ownBlock, Option.some.injEq] at h
        exact .inr (by omega)

theorem zero_cells (m : Nat) : Builtin.zeroCells (Value.int .u8 0).cells m = ((List.replicate m 0).map cell).toArray := by
  apply Array.ext
  · simp [Builtin.zeroCells, Value.cells]
  · intro i h1 h2
    simp [Builtin.zeroCells, Value.cells, cell, Nat.mod_one]
/-- 'append(b, make([]byte, m)...)' -/
theorem run_app_zeros {u : World} {g cap : Nat} {bs : List Nat} (h : Ob u g cap bs) {m : Nat} (hm0 : 0 < m) (hm : bs.length + m ≤ 5000) (ty : TypeId) :
    ∃ g' cap' u', (Builtin.append_ #[35, 3] ty #[.slice (some ⟨g, 0, none⟩) bs.length cap, .int .i64 (m : Int)]).run Try.prog u = .ok (.slice (some ⟨g', 0, none⟩) (bs.length + m) cap') u' ∧ Ob u' g' cap' (bs ++ List.replicate m 0) ∧ Turn [g] u u' ∧ (g' = g ∨ u.heap.size ≤ g') := by
  obtain ⟨i0, hi, hz0, hz1, hz2⟩ := info_parts byte_parts
  obtain ⟨cur, h1, h2, h3, h4, h5⟩ := h
  have hw : IntKind.i64.wrap (m : Int) = m := by rw [IntKind.wrap_i64]; omega
  have hneg : ¬ ((m : Int) < 0) := by omega
  have ht : Try.prog.underlying 35 = some (.slice 5) := by kernel_rfl
  have htn : Try.prog.underlying 3 = some (.int .i64) := by kernel_rfl
  have h48i : ¬ (281474976710656 < (m : Int)) := by omega
  have hm' : ¬ (m = 0) := by omega
  by_cases hroom : bs.length + m ≤ cap
  · have hst := run_storeCells_at Try.prog g bs.length 5 ((List.replicate m 0).map cell) 0 cur u h1 (by simp; omega) (cell_one _)
    refine ⟨g, cap, u.setRow g (cur.toList.take bs.length ++ (List.replicate m 0).map cell ++ cur.toList.drop (bs.length + m)).toArray, ?_, ⟨_, setRow_heap u g cur _ 5 _ h1, ?_, by simp; omega, h4, ?_⟩, ⟨rfl, rfl, rfl, by simp, fun k _ hk => setRow_other u g k _ (fun e => hk (by simp [e]))⟩, .inl rfl⟩
    · simp only [Nat.add_zero, List.length_replicate, List.map_replicate] at hst
      simp [Builtin.append_, run_underlying ht, run_underlying htn, sizeOf, typeInfo, zeroValue, hi, hz0, hz1, hz2, asInt, asIntOf, hw, hneg, h48i, hm', hroom, zero_cells, Addr.add_lit, hst]
    · simp only [List.size_toArray, List.length_append, List.length_take, List.length_drop, Array.length_toList, List.length_map, List.length_replicate]
      omega
    · rw [h5, List.length_append, List.length_replicate, ← List.map_append]
      have e : (bs ++ List.replicate m 0).map cell = ((bs ++ List.replicate m 0).map cell ++ cur.toList.drop (bs.length + m)).take (bs.length + m) := by
        rw [show bs.length + m = ((bs ++ List.replicate m 0).map cell).length by simp, List.take_left]
      exact e.symm
  · have hfit := growslice_fits (need := bs.length + m) (old := cap) (bytes := 1) (by omega) (by omega)
    have h63' : ¬ (9223372036854775807 < ((bs.length : Int) + (m : Int))) := by omega
    have h48' : ¬ (281474976710656 < Builtin.nextslicecap (bs.length + m) cap) := by omega
    have holds : ∀ j v, (bs.map cell)[j]? = some v → u.drew.cell? ((⟨g, 0, none⟩ : Addr).add j) = some v := fun j v hv => by
      rw [Addr.add_mid, Nat.zero_add]
      have := Blk.at_ h1 j
      have e : (cur.toList.take bs.length)[j]? = some v := by rw [h5]; exact hv
      rw [List.getElem?_take] at e
      split at e
      · rw [show u.drew.cell? ⟨g, j, none⟩ = u.cell? ⟨g, j, none⟩ from rfl, this]; simpa using e
      · cases e
    have hfo := run_firstCells_some (P := Try.prog) u.drew 1 bs.length ⟨g, 0, none⟩ bs.length cap (bs.map cell) (by simp) holds
    have hge := grownCap_ge u (bs.length + m) cap 5
    have hcm := grownCap_le_maxLen u (bs.length + m) cap 5 (maxLen_small hm)
    refine ⟨u.heap.size, grownCap u (bs.length + m) cap 5, u.drew.alloc (.cells ((bs.map cell).toArray ++ ((List.replicate m 0).map cell).toArray ++ ((List.replicate (grownCap u (bs.length + m) cap 5 - (bs.length + m)) 0).map cell).toArray) 5), ?_, ⟨_, heap_alloc_new u.drew _, ?_, by simp; omega, hcm, ?_⟩, (Turn.refl [g] u).drew.alloc _, .inr (Nat.le_refl _)⟩
    · simp [Builtin.append_, run_underlying ht, run_underlying htn, sizeOf, typeInfo, zeroValue, hi, hz0, hz1, hz2, asInt, asIntOf, hw, hneg, h48i, hm', hroom, h63', h48', Question.forced, zero_cells, hfo, newRow, grownCap]
    · simp; omega
    · simp only [Array.toList_append, List.length_append, List.length_replicate]
      have e : (bs ++ List.replicate m 0).map cell = ((bs ++ List.replicate m 0).map cell ++ (List.replicate (grownCap u (bs.length + m) cap 5 - (bs.length + m)) 0).map cell).take (bs.length + m) := by
        rw [show bs.length + m = ((bs ++ List.replicate m 0).map cell).length by simp, List.take_left]
      rw [← List.map_append]
      exact e.symm
end Go.Proofs.Ytpdbaediepofjaa
