/-
  The contract of package tlv's body.
-/
import Derived.Test.YtpdbaediepofjaaTlvL
import Derived.Laws.MakeOwn
import Derived.Deep.Cut
namespace Go.Proofs.Ytpdbaediepofjaa
open Go.RowKit Tm

theorem cls_set (B : List Nat) (i x : Nat) : (cls B).setIfInBounds i (cell x) = cls (B.set i x) := by
  apply Array.ext_getElem?
  intro j
  simp only [cls, Array.getElem?_setIfInBounds, List.size_toArray, List.length_map, List.getElem?_toArray, List.getElem?_map, List.getElem?_set]
  by_cases h : i = j
  · subst h
    by_cases h2 : i < B.length <;> simp [h2]
  · simp [h]
def set4 (B : List Nat) (o v : Nat) : List Nat := (((B.set o (v / 16777216 % 256)).set (o + 1) (v / 65536 % 256)).set (o + 2) (v / 256 % 256)).set (o + 3) (v % 256)
def set2 (B : List Nat) (o v : Nat) : List Nat := (B.set o (v / 256 % 256)).set (o + 1) (v % 256)
theorem set4_length (B : List Nat) (o v : Nat) : (set4 B o v).length = B.length := by simp [set4]
theorem set2_length (B : List Nat) (o v : Nat) : (set2 B o v).length = B.length := by simp [set2]

set_option maxHeartbeats 1000000 in
theorem putf_any {t : TypeId} {g off cap v : Nat} (hv : v < 4294967296) {B : List Nat} {w : World} (h : Blk t w g (cls B)) (hs : off + 4 ≤ B.length) :
    Calls Try.prog 20 #[.slice (some ⟨g, off, none⟩) 4 cap, .int .u32 v] w fun e w' => e = .returned (.tuple #[]) ∧ Blk t w' g (cls (set4 B off v)) ∧ Turn [g] w w' := by
  have fin : ∀ w' : World, w' = (((w.setCell ⟨g, off, none⟩ (cell (v / 16777216 % 256))).setCell ⟨g, off + 1, none⟩ (cell (v / 65536 % 256))).setCell ⟨g, off + 2, none⟩ (cell (v / 256 % 256))).setCell ⟨g, off + 3, none⟩ (cell (v % 256)) →
      Blk t w' g (cls (set4 B off v)) ∧ Turn [g] w w' := fun w' e => by
    subst e
    refine ⟨?_, (((Turn.setCell w (by simp) _).trans (Turn.setCell _ (by simp) _)).trans (Turn.setCell _ (by simp) _)).trans (Turn.setCell _ (by simp) _)⟩
    unfold set4
    rw [← cls_set, ← cls_set, ← cls_set, ← cls_set]
    exact (((h.store _ _).store _ _).store _ _).store _ _
  have C : ∀ k, k < B.length → w.cell? ⟨g, k, none⟩ = some (cell (B.getD k 0)) := fun k hk => (h.at_ k).trans (cls_at B k hk)
  have c0 := C off (by omega)
  have c1 := C (off + 1) (by omega)
  have c2 := C (off + 2) (by omega)
  have c3 := C (off + 3) (by omega)
  have f0 := h.free off
  have f1 := h.free (off + 1)
  have f2 := h.free (off + 2)
  have f3 := h.free (off + 3)
  have F := Lib.hid fin
  clear h C fin hs
  generalize cell (B.getD off 0) = v0 at *
  generalize cell (B.getD (off + 1) 0) = v1 at *
  generalize cell (B.getD (off + 2) 0) = v2 at *
  generalize cell (B.getD (off + 3) 0) = v3 at *
  go_enter Try.func20, Try.ntmps20
  go_wp2
  refine wp_loop_rounds 5 ?_
  iterate 5
    rw [rounds_succ]
    go_wp2
  go_end0
  refine ⟨rfl, F.out _ ?_⟩
  unfold cell
  rw [show ((v / 16777216 % 256 : Nat) : Int) = (v : Int) / 16777216 by omega, show ((v / 65536 % 256 : Nat) : Int) = (v : Int) / 65536 % 256 by omega, show ((v / 256 % 256 : Nat) : Int) = (v : Int) / 256 % 256 by omega, show ((v % 256 : Nat) : Int) = (v : Int) % 256 by omega]

set_option maxHeartbeats 1000000 in
theorem putt_any {t : TypeId} {g off cap v : Nat} (hv : v < 65536) {B : List Nat} {w : World} (h : Blk t w g (cls B)) (hs : off + 2 ≤ B.length) :
    Calls Try.prog 20 #[.slice (some ⟨g, off, none⟩) 2 cap, .int .u32 v] w fun e w' => e = .returned (.tuple #[]) ∧ Blk t w' g (cls (set2 B off v)) ∧ Turn [g] w w' := by
  have fin : ∀ w' : World, w' = (w.setCell ⟨g, off, none⟩ (cell (v / 256 % 256))).setCell ⟨g, off + 1, none⟩ (cell (v % 256)) →
      Blk t w' g (cls (set2 B off v)) ∧ Turn [g] w w' := fun w' e => by
    subst e
    refine ⟨?_, (Turn.setCell w (by simp) _).trans (Turn.setCell _ (by simp) _)⟩
    unfold set2
    rw [← cls_set, ← cls_set]
    exact (h.store _ _).store _ _
  have C : ∀ k, k < B.length → w.cell? ⟨g, k, none⟩ = some (cell (B.getD k 0)) := fun k hk => (h.at_ k).trans (cls_at B k hk)
  have c0 := C off (by omega)
  have c1 := C (off + 1) (by omega)
  have f0 := h.free off
  have f1 := h.free (off + 1)
  have F := Lib.hid fin
  clear h C fin hs
  generalize cell (B.getD off 0) = v0 at *
  generalize cell (B.getD (off + 1) 0) = v1 at *
  go_enter Try.func20, Try.ntmps20
  go_wp2
  refine wp_loop_rounds 3 ?_
  iterate 3
    rw [rounds_succ]
    go_wp2
  go_end0
  refine ⟨rfl, F.out _ ?_⟩
  unfold cell
  try rw [show ((v / 256 % 256 : Nat) : Int) = (v : Int) / 256 by omega, show ((v % 256 : Nat) : Int) = (v : Int) % 256 by omega]

theorem make_any (n : Nat) (hn : n ≤ 5000) (w : World) : (Instr.makeSlice 35 (.int .i64 (n : Int)) (.int .i64 (n : Int))).run Try.prog w = .ok (.slice (some ⟨w.heap.size, 0, none⟩) n n) (w.alloc (.cells (cls (List.replicate n 0)) 5)) := by
  obtain ⟨i, h1, h2, h3, h4⟩ := info_parts byte_parts
  have h := run_make (P := Try.prog) w 35 5 i _ (by kernel_rfl) h1 h2 .i64 .i64 (n : Int) (n : Int) (by omega) (by omega) (by rw [h4]; omega) (by omega)
  rw [h]
  simp only [Int.toNat_natCast, h3, Nat.mul_one]
  congr 3
  apply Array.ext
  · simp [madeCells, cls]
  · intro k h5 h6
    simp [madeCells, cls, cell, Value.cells, Nat.mod_one]

/-- 'copy(b[7:], a[:])' -/
theorem copy_tail {w : World} {g ga L : Nat} {B : List Nat} {a : Nat} (hg : Blk 5 w g (cls B)) (hB : B.length = L) (h7 : 7 ≤ L) (h11 : L ≤ 11) (ha : Blk 57 w ga (cls (four a))) {A' : Option Addr} (hA : A' = if L = 7 then some ⟨g, 0, none⟩ else (some (⟨g, 0, none⟩ : Addr)).map (·.add 7)) {m c : Nat} (hm : m = L - 7) (ty : TypeId) :
    ∃ w', (Builtin.copy_ #[35, 35] ty #[.slice A' m c, .slice (some ⟨ga, 0, none⟩) 4 4]).run Try.prog w = .ok (.int .i64 (m : Nat)) w' ∧ Blk 5 w' g (cls (B.take 7 ++ (four a).take m)) ∧ Turn [g] w w' := by
  by_cases h0 : L = 7
  · have hm0 : m = 0 := by omega
    subst hm0
    have e : B.take 7 ++ (four a).take 0 = B := by rw [List.take_zero, List.append_nil, List.take_of_length_le (by omega)]
    rw [e]
    refine ⟨w, ?_, hg, .refl _ _⟩
    rw [run_copy_none (P := Try.prog) w 35 35 ty 5 A' (some ⟨ga, 0, none⟩) 0 c 4 4 (by kernel_rfl) u8_info (by simp)]
    rfl
  · rw [if_neg h0] at hA
    simp only [Option.map_some, Addr.add_mid, Nat.zero_add] at hA
    subst hA
    have hm4 : m ≤ 4 := by omega
    have hl : (((four a).take m).map cell).length = m := by simp [four_length]; omega
    have hrun := run_copy_row (P := Try.prog) w 35 35 ty 5 g 7 m c ⟨ga, 0, none⟩ 4 4 (cls B) 5 (((four a).take m).map cell) (by kernel_rfl) u8_info hg (by rw [hl]; exact (Nat.min_eq_right hm4).symm)
      (fun j v hv => by
        rw [Addr.add_mid, Nat.zero_add, ha.at_ j]
        rw [List.getElem?_map, List.getElem?_take] at hv
        split at hv
        · simpa [cls] using hv
        · cases hv) (by rw [hl]; simp [cls]; omega) (cell_one _)
    refine ⟨_, ?_, setRow_heap w g _ _ _ _ hg, ⟨rfl, rfl, rfl, by simp [World.setRow], fun i _ hn => setRow_other w g i _ (by simpa using hn)⟩⟩
    rw [hrun, hl]
    congr 1
    congr 1
    rw [show cls (B.take 7 ++ (four a).take m) = ((B.take 7 ++ (four a).take m).map cell).toArray from rfl]
    congr 1
    have hz : (cls B).toList = B.map cell := by simp [cls]
    rw [hz, List.map_append, List.map_take, List.map_take, List.drop_of_length_le (by simp; omega), List.append_nil]
end Go.Proofs.Ytpdbaediepofjaa
