/-
  Package tell: line.
-/
import Derived.Test.YtkchckeecfalhaaGreatDoorTeA
namespace Go.Proofs.YtkchckeecfalhaaGreatDoor
open Go.RowKit
attribute [local go_sem] Oper.semAt_some

/-- words, a space between each two -/
def lineS (ws : List ByteArray) : ByteArray := ⟨(Lib.join (ws.map (·.data.toList)) [32]).toArray⟩
theorem str_parts : ∃ i, Tryz.prog.info? 9 = some i ∧ i.zero = some (.string ⟨#[]⟩) ∧ i.size = 1 ∧ i.bytes = 16 := by
  have h : (Tryz.prog.info? 9).map (fun i => (i.zero, i.size, i.bytes)) = some (some (.string ⟨#[]⟩), 1, 16) := by kernel_rfl
  exact info_parts h
def emptyS (n : Nat) : Array Value := madeCells #[.string ⟨#[]⟩] n
theorem emptyS_size (n : Nat) : (emptyS n).size = n := size_madeCells _ _
theorem run_make_strings (n : Nat) (hn : n ≤ 512) (w : World) : (Instr.makeSlice 32 (.int .i64 (n : Int)) (.int .i64 (n : Int))).run Tryz.prog w = .ok (.slice (some ⟨w.heap.size, 0, none⟩) n n) (w.alloc (.cells (emptyS n) 9)) := by
  obtain ⟨i, h1, h2, h3, h4⟩ := str_parts
  have h := run_make (P := Tryz.prog) w 32 9 i _ (by kernel_rfl) h1 h2 .i64 .i64 (n : Int) (n : Int) (by omega) (by omega) (by rw [h4]; omega) (by omega)
  simpa [h3, emptyS, Value.cells] using h
/-- while the words are laid: the first k are -/
structure Laid (w : World) (W : Nat) (n : Nat) (ws : List ByteArray) (k : Nat) (wr : World) : Prop where
  blk : ∃ C, Blk 9 wr W C ∧ C.size = n ∧ (∀ j s, ws[j]? = some s → j < k → C[j]? = some (.string s)) ∧ ∀ j, j < n → ∃ s, C[j]? = some (.string s)
  below : Below w.heap.size w wr
  le : w.heap.size ≤ W
theorem Laid.next {w wr w2 : World} {W n k : Nat} {ws : List ByteArray} (h : Laid w W n ws k wr) (hb : Below wr.heap.size wr w2) (hk : k < n) {s : ByteArray} (hs : ws[k]? = some s) : Laid w W n ws (k + 1) (w2.setCell ⟨W, k, none⟩ (.string s)) := by
  obtain ⟨C, h1, h2, h3, h4⟩ := h.blk
  refine ⟨⟨_, (h1.held hb).store k (.string s), by rw [Array.size_setIfInBounds, h2], fun j s' hj hjk => ?_, fun j hj => ?_⟩, (h.below.trans (hb.mono h.below.size)).setCell h.le _, h.le⟩
  · rw [Array.getElem?_setIfInBounds]
    by_cases e : k = j
    · subst e
      rw [hs] at hj
      cases hj
      rw [if_pos rfl, if_pos (by omega)]
    · rw [if_neg e]
      exact h3 j s' hj (by omega)
  · rw [Array.getElem?_setIfInBounds]
    by_cases e : k = j
    · subst e
      rw [if_pos rfl, if_pos (by omega)]
      exact ⟨s, rfl⟩
    · rw [if_neg e]
      exact h4 j hj
set_option maxRecDepth 20000 in
set_option maxHeartbeats 2000000 in
theorem line_any (w : World) (pb c : Nat) (parts : List (TypeId × Value)) (ws : List ByteArray) (n : Nat) (hn : parts.length = n) (hw : ws.length = n) (hcells : ∀ (j : Nat) (p : TypeId × Value), parts[j]? = some p → w.cell? ⟨pb, j, none⟩ = some (.iface p.1 p.2)) (hc : n ≤ c) (h8 : n ≤ 8)
    (hW : ∀ (j : Nat) (p : TypeId × Value) (s : ByteArray), parts[j]? = some p → ws[j]? = some s → Wordy w p.1 p.2 s) (hlen : (Lib.join (ws.map (·.data.toList)) [32]).length ≤ 140737488355328) :
    Calls Tryz.prog 20 #[.slice (some ⟨pb, 0, none⟩) n c] w fun e w' => e = .returned (.string (lineS ws)) ∧ Below w.heap.size w w' := by
  have hmk := run_make_strings n (by omega) w
  have hb0 := below_new w (.cells (emptyS n) 9)
  have hB0 := Blk.new w 9 (emptyS n)
  have L0 : Laid w w.heap.size n ws 0 (w.alloc (.cells (emptyS n) 9)) := ⟨⟨_, hB0, emptyS_size n, fun j s _ h => by omega, fun j hj => ⟨⟨#[]⟩, by
    rw [Array.getElem?_eq_getElem (by rw [emptyS_size]; exact hj)]
    simp [emptyS, madeCells, Nat.mod_one]⟩⟩, hb0, Nat.le_refl _⟩
  have hpb : ∀ j p, parts[j]? = some p → pb < w.heap.size := fun j p hj => cell_lt (hcells j p hj)
  have H := Lib.hid (And.intro hn (And.intro hw (And.intro hcells (And.intro hW (And.intro hlen hpb)))))
  have HL := Lib.hid L0
  clear hn hw hcells hW hlen L0 hb0 hB0 hpb
  go_enter Tryz.func20, Tryz.ntmps20
  go_wp2_with fail
  clear hmk
  generalize w.alloc (.cells (emptyS n) 9) = w1 at *
  go_loopw [11] (fun ix wr => ∃ k : Nat, ix = .int .i64 k ∧ k ≤ n ∧ Hid (Laid w w.heap.size n ws k wr)) (fun ix _ => n - (intOf ix).toNat)
  case atStart => exact ⟨0, rfl, by omega, HL⟩
  case round =>
    clear HL
    obtain ⟨k, rfl, hk, hB⟩ := hrel
    by_cases hkn : k < n
    · have hin : (k : Int) < (n : Int) := by omega
      obtain ⟨⟨T, v⟩, hp⟩ : ∃ p, parts[k]? = some p := ⟨_, List.getElem?_eq_getElem (by rw [H.out.1]; exact hkn)⟩
      obtain ⟨s, hs⟩ : ∃ s, ws[k]? = some s := ⟨_, List.getElem?_eq_getElem (by rw [H.out.2.1]; exact hkn)⟩
      have hWd := (H.out.2.2.2.1 k _ s hp hs).held hB.out.below
      obtain ⟨f, m1, m2, hC⟩ := hWd.ex
      have c0 : wr.cell? ⟨pb, k, none⟩ = some (.iface T v) := held hB.out.below (H.out.2.2.1 k _ hp)
      have hC1 := hC wr (.refl _ _)
      obtain ⟨C, q1, q2, q3, q4⟩ := hB.out.blk
      obtain ⟨s0, hs0⟩ := q4 k hkn
      have X := Lib.hid (And.intro hs hB.out)
      have d0 : wr.cell? ⟨w.heap.size, k, none⟩ = some (.string s0) := (q1.at_ k).trans hs0
      have f0 : wr.frozen? ⟨w.heap.size, k, none⟩ = false := q1.free k
      have hF : ∀ w2, Below wr.heap.size wr w2 → w2.cell? ⟨w.heap.size, k, none⟩ = some (.string s0) ∧ w2.frozen? ⟨w.heap.size, k, none⟩ = false := fun w2 hb => ⟨held hb d0, (q1.held hb).free k⟩
      have HF := Lib.hid hF
      have mW : ∀ w, Sem.run Tryz.prog (method 489 T v "Word") w = .ok (f, v) w := m1
      clear hWd hC q1 q2 q3 q4 hs0 hp hs hB d0 f0 hF m1
      go_wp2_with (go_at_fn f; refine hC1.mono ?_; rintro e w2 ⟨rfl, hb2⟩; have d0 := (HF.out _ hb2).1; have f0 := (HF.out _ hb2).2; have R := Lib.hid (X.out.2.next hb2 hkn X.out.1))
      clear hC1 HF X c0
      try go_wp2_with fail
      go_roundw
      case rel => exact ⟨k + 1, by go_num, by omega, R⟩
      case measure => simp [intOf]; omega
    · obtain rfl : k = n := by omega
      obtain ⟨C, q1, q2, q3, q4⟩ := hB.out.blk
      have HJ := Tryz.strings_Join w.heap.size 0 k ws ⟨#[32]⟩ wr (fun j x hj => by
        rw [Nat.zero_add, q1.at_]
        exact q3 j x hj (by rw [← H.out.2.1]; obtain ⟨h, _⟩ := List.getElem?_eq_some_iff.1 hj; exact h)) q1.lt (by rw [H.out.2.1]; omega) (by rw [H.out.2.1]; exact Nat.le_refl _) (by simpa using H.out.2.2.2.2.1)
      rw [H.out.2.1] at HJ
      replace HJ : Calls Tryz.prog 33 #[.slice (some ⟨w.heap.size, 0, none⟩) k k, .string ⟨#[32]⟩] wr fun e w' => e = .returned (.string (lineS ws)) ∧ Below wr.heap.size wr w' := HJ
      have Z := Lib.hid hB.out.below
      clear q1 q2 q3 q4 hB
      go_wp2_with fail
      refine HJ.mono ?_
      rintro e w2 ⟨rfl, hb⟩
      have HB := Lib.hid (next Z.out hb)
      clear hb HJ
      go_wp2_with fail
      go_ret
      exact ⟨rfl, HB.out⟩
end Go.Proofs.YtkchckeecfalhaaGreatDoor
