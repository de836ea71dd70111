/-
  Slices of slices of bytes; copy; the contract of package tlv's told.
-/
import Derived.Test.YtpdbaediepofjaaTlvX
import Derived.Laws.CopyRow
import Derived.Laws.IdiomCopy
import Derived.Laws.ResultCell
import Derived.Laws.Rows
import Derived.BigRegion
namespace Go.Proofs.Ytpdbaediepofjaa
open Go.RowKit Tm

theorem Sl.of_part {w : World} {A A' : Option Addr} {n cap k m cap' : Nat} {bs : List Nat} (h : Sl w A n cap bs) (hk : k + m ≤ n) (hc : m ≤ cap') (hA : A' = if cap = k then A else A.map (·.add k)) : Sl w A' m cap' ((bs.drop k).take m) := by
  by_cases h0 : 0 < m
  · have hne : ¬ cap = k := by have := h.cap; omega
    obtain ⟨b, off, rfl⟩ := h.plain (by omega)
    rw [if_neg hne] at hA
    simp only [Option.map_some, Addr.add_mid] at hA
    subst hA
    have := h.part k m hk
    exact ⟨this.bytes, hc, this.plain⟩
  · obtain rfl : m = 0 := by omega
    rw [List.take_zero]
    exact ⟨⟨rfl, by unfold maxLen; omega, by simp, fun j hj => absurd hj (by omega)⟩, hc, fun h => absurd h (by omega)⟩
/-- 'b[k:]' -/
theorem cut_low {w : World} {A : Option Addr} {n cap : Nat} {bs : List Nat} (h : Sl w A n cap bs) {k : Nat} (hk : k ≤ n) {z : Int} (hz : z = k) :
    ∃ A', (Instr.slice 35 (.slice A n cap) (some (.int .i64 z)) none none).run Try.prog w = .ok (.slice A' (n - k) (cap - k)) w ∧ Sl w A' (n - k) (cap - k) (bs.drop k) ∧ A' = if cap = k then A else A.map (·.add k) := by
  subst hz
  have hcap := h.cap
  refine ⟨_, ?_, ?_, rfl⟩
  · by_cases e : cap = k
    · have d1 : (k : Int) ≤ (n : Int) := by omega
      rw [if_pos e]
      subst e
      go_simp
    · have d1 : (k : Int) ≤ (n : Int) := by omega
      rw [if_neg e]
      go_simp
  · have := h.of_part (A' := if cap = k then A else A.map (·.add k)) (m := n - k) (k := k) (cap' := cap - k) (by omega) (by omega) rfl
    rwa [List.take_of_length_le (by rw [List.length_drop, h.bytes.1]; omega)] at this
/-- 'b[:k]' -/
theorem cut_high {w : World} {A : Option Addr} {n cap : Nat} {bs : List Nat} (h : Sl w A n cap bs) {k : Nat} (hk : k ≤ n) {z : Int} (hz : z = k) :
    ∃ A', (Instr.slice 35 (.slice A n cap) none (some (.int .i64 z)) none).run Try.prog w = .ok (.slice A' k cap) w ∧ Sl w A' k cap (bs.take k) ∧ A' = if cap = 0 then A else A.map (·.add 0) := by
  subst hz
  have hcap := h.cap
  refine ⟨_, ?_, ?_, rfl⟩
  · by_cases e : cap = 0
    · have d1 : k = 0 := by omega
      rw [if_pos e]
      subst d1
      go_simp
    · have d1 : (k : Int) ≤ (cap : Int) := by omega
      rw [if_neg e]
      go_simp
  · have := h.of_part (A' := if cap = 0 then A else A.map (·.add 0)) (m := k) (k := 0) (cap' := cap) (by omega) (by omega) rfl
    rwa [List.drop_zero] at this
/-- 'b[k:l]' -/
theorem cut_both {w : World} {A : Option Addr} {n cap : Nat} {bs : List Nat} (h : Sl w A n cap bs) {k l : Nat} (hk : k ≤ l) (hl : l ≤ n) {z y : Int} (hz : z = k) (hy : y = l) :
    ∃ A', (Instr.slice 35 (.slice A n cap) (some (.int .i64 z)) (some (.int .i64 y)) none).run Try.prog w = .ok (.slice A' (l - k) (cap - k)) w ∧ Sl w A' (l - k) (cap - k) ((bs.drop k).take (l - k)) ∧ A' = if cap = k then A else A.map (·.add k) := by
  subst hz hy
  have hcap := h.cap
  refine ⟨_, ?_, ?_, rfl⟩
  · by_cases e : cap = k
    · have d1 : (k : Int) ≤ (l : Int) := by omega
      have d2 : (l : Int) ≤ (cap : Int) := by omega
      rw [if_pos e]
      subst e
      go_simp
    · have d1 : (k : Int) ≤ (l : Int) := by omega
      have d2 : (l : Int) ≤ (cap : Int) := by omega
      rw [if_neg e]
      go_simp
  · exact h.of_part (A' := if cap = k then A else A.map (·.add k)) (m := l - k) (k := k) (cap' := cap - k) (by omega) (by omega) rfl

theorem u8_info : (Try.prog.info? 5).map (·.size) = some 1 := by kernel_rfl
/-- 'copy(a[:], b)' where a is four noughts -/
theorem copy_four {w : World} {g : Nat} (hg : Blk 57 w g (cls [0, 0, 0, 0])) {A : Option Addr} {n cap : Nat} {bs : List Nat} (h : Sl w A n cap bs) (ty : TypeId) :
    ∃ w', (Builtin.copy_ #[35, 35] ty #[.slice (some ⟨g, 0, none⟩) 4 4, .slice A n cap]).run Try.prog w = .ok (.int .i64 (Nat.min n 4 : Nat)) w' ∧ Blk 57 w' g (cls ((bs ++ [0, 0, 0, 0]).take 4)) ∧ Turn [g] w w' := by
  by_cases h0 : n = 0
  · subst h0
    have hl : bs = [] := List.length_eq_zero_iff.1 h.bytes.1
    subst hl
    refine ⟨w, ?_, hg, .refl _ _⟩
    have := run_copy_none (P := Try.prog) w 35 35 ty 5 (some ⟨g, 0, none⟩) A 4 4 0 cap (by kernel_rfl) u8_info (by simp)
    rw [this]; rfl
  · obtain ⟨b, off, rfl⟩ := h.plain (by omega)
    have hl := h.bytes.1
    have hmin : ((bs.take 4).map cell).length = Nat.min n 4 := by simp [hl, Nat.min_comm]
    have hrun := run_copy_row (P := Try.prog) w 35 35 ty 5 g 0 4 4 ⟨b, off, none⟩ n cap (cls [0, 0, 0, 0]) 57 ((bs.take 4).map cell) (by kernel_rfl) u8_info hg hmin
      (fun j v hv => by
        rw [List.getElem?_map, List.getElem?_take] at hv
        split at hv
        · have hj : j < n := by
            rcases Nat.lt_or_ge j n with h' | h'
            · exact h'
            · rw [List.getElem?_eq_none (by omega)] at hv; cases hv
          rw [Addr.add_mid, h.at_ hj, ← hv]
          have hj' : j < bs.length := by omega
          simp [hj', cell]
        · cases hv) (by simp only [Nat.zero_add, List.length_map, List.length_take]; exact Nat.le_trans (Nat.min_le_left _ _) (by decide)) (cell_one _)
    refine ⟨_, ?_, setRow_heap w g _ _ _ _ hg, ⟨rfl, rfl, rfl, by simp [World.setRow], fun i _ hn => setRow_other w g i _ (by simpa using hn)⟩⟩
    rw [hrun]
    congr 1
    · rw [hmin]; rfl
    · congr 1
      apply congrArg
      have hz : (cls [0, 0, 0, 0]).toList = [0, 0, 0, 0].map cell := by simp [cls]
      rw [hz, List.take_zero, List.nil_append, Nat.zero_add, List.length_map, ← List.map_drop, ← List.map_append]
      congr 1
      rw [List.take_append, List.length_take]
      congr 1
      rcases Nat.lt_or_ge bs.length 4 with h4 | h4
      · have : bs.length = 0 ∨ bs.length = 1 ∨ bs.length = 2 ∨ bs.length = 3 := by omega
        rcases this with h | h | h | h <;> rw [h] <;> rfl
      · rw [Nat.min_eq_left h4, show 4 - bs.length = 0 by omega]; rfl
end Go.Proofs.Ytpdbaediepofjaa
