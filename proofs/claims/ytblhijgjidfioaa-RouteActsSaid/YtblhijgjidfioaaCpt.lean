/-
  slices.Compact at prefixes: what stands behind it.
-/
import Derived.Test.YtblhijgjidfioaaSrtR
import Derived.Laws.IdiomCopy
import Derived.Lib.SliceRun
namespace Go.Proofs.Ytblhijgjidfioaa
open Go.RowKit Go.Maps

instance : Inhabited Pk := ⟨⟨0, 0⟩⟩
/-- m prefixes lie in block g, one behind the other -/
structure PR (w : World) (g : Nat) (f : Nat → Pk) (m : Nat) : Prop where
  c0 : ∀ i, i < m → w.cell? ⟨g, i * 2, none⟩ = some (.int .u32 (f i).a)
  c1 : ∀ i, i < m → w.cell? ⟨g, i * 2 + 1, none⟩ = some (.int .i64 (f i).n)
  f0 : ∀ i, i < m → w.frozen? ⟨g, i * 2, none⟩ = false
  f1 : ∀ i, i < m → w.frozen? ⟨g, i * 2 + 1, none⟩ = false
theorem PR.held {w w' : World} {g m : Nat} {f : Nat → Pk} (h : PR w g f m) (hg : g < w.heap.size) (hb : Below w.heap.size w w') : PR w' g f m := by
  have e := hb.block g hg
  exact ⟨fun i hi => by rw [World.cell?_of_block e]; exact h.c0 i hi, fun i hi => by rw [World.cell?_of_block e]; exact h.c1 i hi,
    fun i hi => by have := h.f0 i hi; unfold World.frozen? at this ⊢; rw [e]; exact this, fun i hi => by have := h.f1 i hi; unfold World.frozen? at this ⊢; rw [e]; exact this⟩
theorem PR.drewN {w : World} {g m : Nat} {f : Nat → Pk} (h : PR w g f m) (n : Nat) : PR (w.drewN n) g f m := ⟨h.c0, h.c1, h.f0, h.f1⟩
def setF (f : Nat → Pk) (i : Nat) (x : Pk) : Nat → Pk := fun j => if j = i then x else f j
theorem PR.set {w : World} {g m : Nat} {f : Nat → Pk} (h : PR w g f m) {i : Nat} (hi : i < m) (x : Pk) : PR ((w.setCell ⟨g, i * 2, none⟩ (.int .u32 x.a)).setCell ⟨g, i * 2 + 1, none⟩ (.int .i64 x.n)) g (setF f i x) m := by
  refine ⟨fun j hj => ?_, fun j hj => ?_, fun j hj => ?_, fun j hj => ?_⟩
  · rw [World.cell?_setCell_other _ _ _ _ (by intro e; have h9 := congrArg Addr.off e; dsimp only at h9; omega)]
    unfold setF
    by_cases c : j = i
    · subst c
      rw [if_pos rfl]
      exact World.cell?_setCell_same _ _ _ (h.c0 j hj)
    · rw [if_neg c, World.cell?_setCell_other _ _ _ _ (by intro e; have h9 := congrArg Addr.off e; dsimp only at h9; omega)]
      exact h.c0 j hj
  · unfold setF
    by_cases c : j = i
    · subst c
      rw [if_pos rfl]
      exact World.cell?_setCell_same _ _ _ ((World.cell?_setCell_other _ _ _ _ (by intro e; have h9 := congrArg Addr.off e; dsimp only at h9; omega)).trans (h.c1 j hj))
    · rw [if_neg c, World.cell?_setCell_other _ _ _ _ (by intro e; have h9 := congrArg Addr.off e; dsimp only at h9; omega), World.cell?_setCell_other _ _ _ _ (by intro e; have h9 := congrArg Addr.off e; dsimp only at h9; omega)]
      exact h.c1 j hj
  · rw [World.frozen?_setCell, World.frozen?_setCell]; exact h.f0 j hj
  · rw [World.frozen?_setCell, World.frozen?_setCell]; exact h.f1 j hj
theorem PR.congr {w : World} {g m : Nat} {f f' : Nat → Pk} (h : PR w g f m) (he : ∀ i, i < m → f' i = f i) : PR w g f' m :=
  ⟨fun i hi => by rw [he i hi]; exact h.c0 i hi, fun i hi => by rw [he i hi]; exact h.c1 i hi, h.f0, h.f1⟩

/-- clearing what stands behind the first k -/
theorem run_clear_pre {w : World} {g m : Nat} {f : Nat → Pk} (h : PR w g f m) {k : Nat} (hk : k ≤ m) (c : Nat) (ty : TypeId) :
    ∃ w', (Builtin.clear_ #[60] ty #[.slice (some ⟨g, k * 2, none⟩) (m - k) c]).run Try.prog w = .ok (.tuple #[]) w' ∧ PR w' g f k ∧ Turn [g] w w' ∧ w'.heap.size = w.heap.size := by
  by_cases h0 : m - k = 0
  · rw [h0]
    refine ⟨w, ?_, ⟨fun i hi => h.c0 i (by omega), fun i hi => h.c1 i (by omega), fun i hi => h.f0 i (by omega), fun i hi => h.f1 i (by omega)⟩, .refl _ _, rfl⟩
    simp [Builtin.clear_, run_underlying Try.underlying60]
  · obtain ⟨q, hq⟩ : ∃ q, m - k = q + 1 := ⟨m - k - 1, by omega⟩
    have hzl : (Builtin.zeroCells #[.int .u32 0, .int .i64 0] (m - k)).toList.length = (m - k) * 2 := by simp [Builtin.zeroCells]
    have hat : ∀ j, j < (m - k) * 2 → (w.cell? ⟨g, k * 2 + 0 + j, none⟩).isSome = true ∧ w.frozen? ⟨g, k * 2 + 0 + j, none⟩ = false := fun j hj => by
      have hj2 : j % 2 = 0 ∨ j % 2 = 1 := by omega
      rcases hj2 with e | e
      · rw [show k * 2 + 0 + j = (k + j / 2) * 2 by omega]
        exact ⟨by rw [h.c0 _ (by omega)]; rfl, h.f0 _ (by omega)⟩
      · rw [show k * 2 + 0 + j = (k + j / 2) * 2 + 1 by omega]
        exact ⟨by rw [h.c1 _ (by omega)]; rfl, h.f1 _ (by omega)⟩
    have hst := run_storeCells_cells (P := Try.prog) g (k * 2) (Builtin.zeroCells #[.int .u32 0, .int .i64 0] (m - k)).toList 0 w (fun j hj => (hat j (by rw [hzl] at hj; exact hj)).1) (fun j hj => (hat j (by rw [hzl] at hj; exact hj)).2) (by
      intro v hv
      simp only [Builtin.zeroCells, Array.toList_map, List.mem_map] at hv
      obtain ⟨i, -, rfl⟩ := hv
      have : i % 2 = 0 ∨ i % 2 = 1 := by omega
      rcases this with e | e <;> simp [e] <;> rfl)
    simp only [Nat.add_zero] at hst
    have hz : ∀ w, (zeroValue 32).run Try.prog w = .ok (.agg #[.int .u32 0, .int .i64 0]) w := fun w => by kernel_rfl
    refine ⟨_, ?_, ?_, Turn.setCells w (b := g) (by simp) (k * 2) (Builtin.zeroCells #[.int .u32 0, .int .i64 0] (m - k)).toList, setCells_size _ _ _ _⟩
    · rw [hq] at hst ⊢
      simp [Builtin.clear_, run_underlying Try.underlying60, hz, Value.cells, hst]
    · refine ⟨fun i hi => ?_, fun i hi => ?_, fun i hi => ?_, fun i hi => ?_⟩
      · rw [World.cell?_setCells_out _ _ _ _ _ (fun _ _ => .inl (by show i * 2 < k * 2; omega))]; exact h.c0 i (by omega)
      · rw [World.cell?_setCells_out _ _ _ _ _ (fun _ _ => .inl (by show i * 2 + 1 < k * 2; omega))]; exact h.c1 i (by omega)
      · rw [World.frozen?_setCells]; exact h.f0 i (by omega)
      · rw [World.frozen?_setCells]; exact h.f1 i (by omega)

/-! ### of equal neighbours the first -/
def keep (f : Nat → Pk) (n : Nat) : List Pk := (List.range n).filterMap fun i => if i = 0 ∨ f i ≠ f (i - 1) then some (f i) else none
theorem keep_succ (f : Nat → Pk) (n : Nat) : keep f (n + 1) = keep f n ++ (if n = 0 ∨ f n ≠ f (n - 1) then [f n] else []) := by
  unfold keep
  rw [List.range_succ, List.filterMap_append]
  by_cases h : n = 0 ∨ f n ≠ f (n - 1)
  · rw [if_pos h]; simp [h]
  · rw [if_neg h]; simp [h]
theorem keep_len (f : Nat → Pk) (n : Nat) : (keep f n).length ≤ n := by
  unfold keep
  exact Nat.le_trans (List.length_filterMap_le _ _) (by simp)
theorem keep_new (f : Nat → Pk) : ∀ n, (∀ i, 0 < i → i < n → f i ≠ f (i - 1)) → keep f n = (List.range n).map f
  | 0, _ => rfl
  | n + 1, h => by
    rw [keep_succ, keep_new f n (fun i h1 h2 => h i h1 (by omega)), List.range_succ, List.map_append]
    rw [if_pos]
    · rfl
    · by_cases e : n = 0
      · exact .inl e
      · exact .inr (h n (by omega) (by omega))
/-- how far the second loop is: k kept of the first n -/
structure Cp (f : Nat → Pk) (cur : Nat → Pk) (k n : Nat) : Prop where
  len : (keep f n).length = k
  at_ : ∀ i (h : i < (keep f n).length), cur i = (keep f n)[i]
  rest : ∀ i, n - 1 ≤ i → cur i = f i
  kn : k < n
theorem Cp.start {f : Nat → Pk} {k : Nat} (hk : 0 < k) (hn : ∀ i, 0 < i → i < k → f i ≠ f (i - 1)) (he : f k = f (k - 1)) : Cp f f k (k + 1) := by
  have e : keep f (k + 1) = (List.range k).map f := by
    rw [keep_succ, if_neg, List.append_nil, keep_new f k hn]
    rintro (h | h)
    · omega
    · exact h he
  refine ⟨by rw [e]; simp, fun i h => ?_, fun _ _ => rfl, by omega⟩
  simp only [e]
  simp
theorem Cp.same {f cur : Nat → Pk} {k n : Nat} (h : Cp f cur k n) (he : f n = f (n - 1)) : Cp f cur k (n + 1) := by
  have e : keep f (n + 1) = keep f n := by
    rw [keep_succ, if_neg, List.append_nil]
    rintro (h2 | h2)
    · have := h.kn; omega
    · exact h2 he
  exact ⟨by rw [e]; exact h.len, fun i hi => by simp only [e]; exact h.at_ i (by rw [e] at hi; exact hi), fun i hi => h.rest i (by omega), by have := h.kn; omega⟩
theorem Cp.put {f cur : Nat → Pk} {k n : Nat} (h : Cp f cur k n) (he : f n ≠ f (n - 1)) : Cp f (setF cur k (f n)) (k + 1) (n + 1) := by
  have e : keep f (n + 1) = keep f n ++ [f n] := by rw [keep_succ, if_pos (.inr he)]
  have hl := h.len
  have hk := h.kn
  refine ⟨by rw [e]; simp [hl], fun i hi => ?_, fun i hi => ?_, by omega⟩
  · simp only [e]
    unfold setF
    by_cases c : i = k
    · subst c
      rw [if_pos rfl, List.getElem_append_right (by omega)]
      simp [hl]
    · have hi' : i < (keep f n).length := by rw [e] at hi; simp at hi; omega
      rw [if_neg c, List.getElem_append_left hi']
      exact h.at_ i hi'
  · unfold setF
    rw [if_neg (by omega)]
    exact h.rest i (by omega)
/-- in order, and of several that are the same one -/
theorem keep_sorted {f : Nat → Pk} {n : Nat} (hs : ∀ i j, i < j → j < n → ¬ ltP (f j) (f i)) : (keep f n).Pairwise ltP ∧ ∀ x, x ∈ keep f n ↔ ∃ i, i < n ∧ f i = x := by
  induction n with
  | zero => exact ⟨List.Pairwise.nil, fun x => by simp [keep]⟩
  | succ n ih =>
    obtain ⟨h1, h2⟩ := ih fun i j h1 h2 => hs i j h1 (by omega)
    rw [keep_succ]
    by_cases h : n = 0 ∨ f n ≠ f (n - 1)
    · rw [if_pos h]
      refine ⟨List.pairwise_append.2 ⟨h1, by simp, fun a ha b hb => ?_⟩, fun x => ?_⟩
      · simp at hb
        subst hb
        obtain ⟨i, hi, rfl⟩ := (h2 a).1 ha
        have h3 : f n ≠ f (n - 1) := by rcases h with h | h; omega; exact h
        have k1 : ¬ ltP (f n) (f (n - 1)) := hs (n - 1) n (by omega) (by omega)
        have k2 : i < n - 1 → ¬ ltP (f (n - 1)) (f i) := fun h => hs i (n - 1) h (by omega)
        have h4 : ¬ ((f n).a = (f (n - 1)).a ∧ (f n).n = (f (n - 1)).n) := fun e => h3 (by
          cases hx : f n
          cases hy : f (n - 1)
          rw [hx, hy] at e
          simp at e
          rw [e.1, e.2])
        unfold ltP at *
        by_cases c : i = n - 1
        · subst c; omega
        · have := k2 (by omega); omega
      · rw [List.mem_append, h2]
        constructor
        · rintro (⟨i, hi, e⟩ | hx)
          · exact ⟨i, by omega, e⟩
          · simp at hx; exact ⟨n, by omega, hx.symm⟩
        · rintro ⟨i, hi, rfl⟩
          by_cases c : i = n
          · subst c; exact .inr (by simp)
          · exact .inl ⟨i, by omega, rfl⟩
    · rw [if_neg h, List.append_nil]
      refine ⟨h1, fun x => ?_⟩
      rw [h2]
      have hn : n ≠ 0 ∧ f n = f (n - 1) := by
        constructor
        · exact fun e => h (.inl e)
        · by_cases e : f n = f (n - 1)
          · exact e
          · exact absurd (.inr e) h
      constructor
      · rintro ⟨i, hi, e⟩; exact ⟨i, by omega, e⟩
      · rintro ⟨i, hi, rfl⟩
        by_cases c : i = n
        · subst c; exact ⟨i - 1, by omega, hn.2.symm⟩
        · exact ⟨i, by omega, rfl⟩
end Go.Proofs.Ytblhijgjidfioaa
