/-
  The statements' Fibs: machines' entries, each in a list of its own.
-/
import Derived.Test.YtdeiolpcppibgaaLpR
namespace Go.Proofs.Ytdeiolpcppibgaa
open Go.RowKit Go.Maps Fm
attribute [local go_sem] Oper.semAt_some

theorem elemE : Elem Try.prog 37 39 ecl 4 32 := ⟨by kernel_rfl, elem_info (z := .agg #[.int .u32 0, .int .i64 0, .int .i64 0, .int .i64 0]) (by kernel_rfl) rfl, by omega, ecl_len, fun x v hv => by simp only [ecl, List.mem_cons, List.not_mem_nil, or_false] at hv; rcases hv with rfl | rfl | rfl | rfl <;> rfl, by omega⟩
abbrev Oe := Ol 39 ecl 4
theorem run_make_fibs (n : Nat) (hn : n ≤ 1000) (w : World) : (Instr.makeSlice 26 (.int .i64 (n : Int)) (.int .i64 (n : Int))).run Try.prog w = .ok (.slice (some ⟨w.heap.size, 0, none⟩) n n) (w.alloc (.cells (Array.replicate n (.slice none 0 0)) 37)) := by
  obtain ⟨i, h1, h2, h3, h4⟩ := info_parts (P := Try.prog) (e := 37) (z := .slice none 0 0) (size := 1) (bytes := 24) (by kernel_rfl)
  have h := run_make (P := Try.prog) w 26 37 i _ (by kernel_rfl) h1 h2 .i64 .i64 (n : Int) (n : Int) (by omega) (by omega) (by rw [h4]; omega) (by omega)
  rw [h, h3]
  have e : madeCells (Value.slice none 0 0).cells ((n : Int).toNat * 1) = Array.replicate n (.slice none 0 0) := by
    apply Array.ext
    · simp [madeCells]
    · intro j h1 h2
      simp [madeCells, Value.cells, Nat.mod_one]
  rw [e]
  simp
/-- machines whose entries grow: each its own list -/
structure Fo (W : World) (g n m : Nat) (vs : Nat → Value) (fs : Nat → List En) : Prop where
  row : ∀ i, i < n → W.cell? ⟨g, i, none⟩ = some (vs i) ∧ W.frozen? ⟨g, i, none⟩ = false
  own : ∀ i, i < n → Oe (g + 1) (vs i) (fs i) W
  apart : ∀ i j, i < n → j < n → i ≠ j → ∀ b, (vs i).ownBlock = some b → (vs j).ownBlock ≠ some b
  fit : ∀ i, i < n → (∀ e ∈ fs i, e.Fits ∧ 0 ≤ e.nx) ∧ (fs i).length ≤ m
theorem Fo.held {W W' : World} {g n m : Nat} {vs : Nat → Value} {fs : Nat → List En} (h : Fo W g n m vs fs) (hg : g < W.heap.size) (hb : Below W.heap.size W W') : Fo W' g n m vs fs := by
  refine ⟨fun i hi => ⟨Go.Proofs.Ytdeiolpcppibgaa.held hb (h.row i hi).1, ?_⟩, fun i hi => (h.own i hi).held hb, h.apart, h.fit⟩
  rw [← (h.row i hi).2]
  unfold World.frozen?
  rw [hb.block g hg]
theorem Fo.drew {W : World} {g n m : Nat} {vs : Nat → Value} {fs : Nat → List En} (h : Fo W g n m vs fs) : Fo W.drew g n m vs fs := ⟨h.row, h.own, h.apart, h.fit⟩
/-- behind an append to one machine's list -/
theorem Fo.push {W W' : World} {g n m : Nat} {vs : Nat → Value} {fs : Nat → List En} (h : Fo W g n m vs fs) (hg : g < W.heap.size) {i : Nat} (hi : i < n) {e : En} (he : e.Fits ∧ 0 ≤ e.nx) {g' c' : Nat} (ho : Oe (g + 1) (.slice (some ⟨g', 0, none⟩) ((fs i).length + 1) c') (fs i ++ [e]) W') (ht : Turn (vs i).ownBlock.toList W W') (hat : (vs i).ownBlock = some g' ∨ W.heap.size < g') :
    Fo (W'.setCell ⟨g, i, none⟩ (.slice (some ⟨g', 0, none⟩) ((fs i).length + 1) c')) g n (m + 1) (fun j => if j = i then .slice (some ⟨g', 0, none⟩) ((fs i).length + 1) c' else vs j) (fun j => if j = i then fs i ++ [e] else fs j) := by
  have hng : g ∉ (vs i).ownBlock.toList := fun hm => by
    have : (vs i).ownBlock = some g := by simpa using hm
    have := ((h.own i hi).lt this).2
    omega
  have hkeep : W'.heap[g]? = W.heap[g]? := ht.block g hg hng
  have hcell : ∀ j, W'.cell? ⟨g, j, none⟩ = W.cell? ⟨g, j, none⟩ := fun j => by unfold World.cell?; rw [hkeep]
  have hfr : ∀ j, W'.frozen? ⟨g, j, none⟩ = W.frozen? ⟨g, j, none⟩ := fun j => by unfold World.frozen?; rw [hkeep]
  have hset : ∀ b, b ≠ g → (W'.setCell ⟨g, i, none⟩ (.slice (some ⟨g', 0, none⟩) ((fs i).length + 1) c')).heap[b]? = W'.heap[b]? := fun b hb => Below.heap_setCell _ _ _ _ (fun e => hb e)
  refine ⟨fun j hj => ⟨?_, ?_⟩, fun j hj => ?_, fun j k hj hk hne b hb => ?_, fun j hj => ?_⟩
  · by_cases e : j = i
    · subst e
      rw [if_pos rfl]
      exact World.cell?_setCell_same _ _ _ ((hcell j).trans (h.row j hj).1)
    · rw [if_neg e, World.cell?_setCell_other _ _ _ _ (fun h5 => e (by injection h5 with _ h6; exact h6.symm)), hcell]
      exact (h.row j hj).1
  · rw [World.frozen?_setCell, hfr]
    exact (h.row j hj).2
  · by_cases e : j = i
    · subst e
      rw [if_pos rfl, if_pos rfl]
      exact ho.of_block fun b hb => hset b (fun e => by have := (ho.lt hb).2; omega)
    · rw [if_neg e, if_neg e]
      refine ((h.own j hj).turn ht (fun b hb hm => ?_)).of_block fun b hb => hset b (fun e => by have := ((h.own j hj).lt hb).2; omega)
      exact h.apart j i hj hi e b hb (by simpa using hm)
  · by_cases e1 : j = i
    · subst e1
      rw [if_pos rfl] at hb
      have hbg : g' = b := by simpa [Value.ownBlock] using hb
      subst hbg
      rw [if_neg (Ne.symm hne)]
      intro hk2
      rcases hat with h1 | h1
      · exact h.apart j k hj hk hne g' h1 hk2
      · have := ((h.own k hk).lt hk2).1
        omega
    · rw [if_neg e1] at hb
      by_cases e2 : k = i
      · subst e2
        rw [if_pos rfl]
        intro hk2
        have hbg : g' = b := by simpa [Value.ownBlock] using hk2
        subst hbg
        rcases hat with h1 | h1
        · exact h.apart j k hj hk hne g' hb h1
        · have := ((h.own j hj).lt hb).1
          omega
      · rw [if_neg e2]
        exact h.apart j k hj hk hne b hb
  · by_cases e : j = i
    · subst e
      rw [if_pos rfl]
      refine ⟨fun x hx => ?_, by have := (h.fit j hj).2; simp; omega⟩
      rcases List.mem_append.1 hx with h1 | h1
      · exact (h.fit j hj).1 x h1
      · simp at h1; subst h1; exact he
    · rw [if_neg e]
      exact ⟨(h.fit j hj).1, by have := (h.fit j hj).2; omega⟩
/-- what has grown so, as machines' entries in memory -/
theorem Fo.inF {W : World} {g n m : Nat} {vs : Nat → Value} {fs : Nat → List En} (h : Fo W g n m vs fs) (hn : n ≤ 100) : InF W g n ((List.range n).map fs) := by
  refine ⟨by simp, hn, fun i hi => ?_⟩
  have hin : i < n := by simpa using hi
  have e : ((List.range n).map fs)[i] = fs i := by simp
  have hO := h.own i hin
  obtain ⟨p, c, hv, hc⟩ := hO.form
  rw [e]
  refine ⟨p, c, by rw [← hv]; exact (h.row i hin).1, ?_⟩
  have hmx : (fs i).length ≤ c := hc
  by_cases h0 : 0 < (fs i).length
  · obtain ⟨g1, c1, e1, e2, e3, -⟩ := hO.at_ ecl_len h0
    rw [hv] at e1
    cases e1
    refine ⟨rfl, by omega, hc, fun _ => ⟨g1, 0, rfl⟩, fun x hx => ((h.fit i hin).1 x hx).1, fun b off e4 k hk j hj => ?_⟩
    cases e4
    obtain ⟨g2, c2, e5, -, -, e6⟩ := hO.at_ ecl_len hk
    rw [hv] at e5
    cases e5
    have := e6 j hj
    rw [Nat.zero_add, this]
  · have hz : fs i = [] := by
      cases hf : fs i with
      | nil => rfl
      | cons a b => rw [hf] at h0; simp at h0
    rw [hz]
    exact ⟨rfl, by unfold maxLen; simp, by simp, fun h => absurd h (by simp), by simp, fun b off _ k hk => by simp at hk⟩
theorem Fo.pos {W : World} {g n m : Nat} {vs : Nat → Value} {fs : Nat → List En} (h : Fo W g n m vs fs) : ∀ i (hi : i < ((List.range n).map fs).length), ∀ e ∈ ((List.range n).map fs)[i], 0 ≤ e.nx := fun i hi e he => by
  have hin : i < n := by simpa using hi
  rw [show ((List.range n).map fs)[i] = fs i by simp] at he
  exact ((h.fit i hin).1 e he).2
/-- none told yet -/
theorem Fo.new (w : World) (n : Nat) : Fo (w.alloc (.cells (Array.replicate n (.slice none 0 0)) 37)) w.heap.size n 0 (fun _ => .slice none 0 0) (fun _ => []) := by
  have hb := Blk.new w 37 (Array.replicate n (.slice none 0 0))
  refine ⟨fun i hi => ⟨?_, hb.free i⟩, fun i _ => Ol.nil _ _, (fun i j _ _ _ b hb => by cases hb), fun i _ => ⟨by simp, by simp⟩⟩
  rw [hb.at_ i]
  simp [hi]
end Go.Proofs.Ytdeiolpcppibgaa
