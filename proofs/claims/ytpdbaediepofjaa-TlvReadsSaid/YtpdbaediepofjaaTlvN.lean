/-
  Plain mathematics of datagrams: what is told comes back; what is cut off is none. No program in sight.
-/
import Derived.Test.YtpdbaediepofjaaTlvM
namespace Go.Proofs.Ytpdbaediepofjaa.Tm

theorem pages_back : ∀ (l : List Up) (cur : List Nat) (id : Nat) (us : List Up), (∀ u ∈ l, u.Fits) → (∀ r, walk 0 (cur ++ r) = (walk id r).map (us ++ ·)) →
    ∃ L : List (List Up), (pages cur id l).map (walk 0) = L.map some ∧ L.flatten = us ++ l.filter (fun u => right u)
  | [], cur, id, us, _, hc => by
    have h0 := hc []
    rw [List.append_nil, walk_nil] at h0
    simp only [Option.map_some, List.append_nil] at h0
    unfold pages
    by_cases e : cur = []
    · subst e
      rw [walk_nil] at h0
      cases h0
      exact ⟨[], by simp, by simp⟩
    · rw [if_neg e]
      exact ⟨[us], by simp [h0], by simp⟩
  | u :: r, cur, id, us, hf, hc => by
    have hfu := hf u (List.mem_cons_self ..)
    have hfr : ∀ x ∈ r, x.Fits := fun x hx => hf x (List.mem_cons_of_mem _ hx)
    unfold pages
    by_cases hr : right u = true
    · rw [if_neg (by simp [hr])]
      by_cases hb : 1024 < cur.length + (parts u id).length + 4
      · rw [if_pos hb]
        obtain ⟨L, h1, h2⟩ := pages_back r (parts u 0) u.id [u] hfr (fun r' => by rw [walk_parts hr hfu]; rfl)
        have h0 := hc []
        rw [List.append_nil, walk_nil] at h0
        simp only [Option.map_some, List.append_nil] at h0
        refine ⟨us :: L, by simp [h0, h1], ?_⟩
        simp [h2, hr]
      · rw [if_neg hb]
        obtain ⟨L, h1, h2⟩ := pages_back r (cur ++ parts u id) u.id (us ++ [u]) hfr (fun r' => by
          rw [List.append_assoc, hc, walk_parts hr hfu]
          cases walk u.id r' <;> simp)
        exact ⟨L, h1, by simp [h2, hr]⟩
    · have hr' : right u = false := by simpa using hr
      rw [if_pos hr']
      obtain ⟨L, h1, h2⟩ := pages_back r cur id us hfr hc
      exact ⟨L, h1, by simp [h2, hr']⟩
theorem pages_fine : ∀ (l : List Up) (cur : List Nat) (id : Nat), cur.length + 4 ≤ 1024 → (∀ c ∈ cur, c < 256) → ∀ b ∈ pages cur id l, b ≠ [] ∧ b.length + 4 ≤ 1024 ∧ ∀ c ∈ b, c < 256
  | [], cur, id, h1, h2 => by
    intro b hb
    unfold pages at hb
    split at hb
    · cases hb
    · rename_i e
      rw [List.mem_singleton.1 hb]
      exact ⟨e, h1, h2⟩
  | u :: r, cur, id, h1, h2 => by
    intro b hb
    unfold pages at hb
    split at hb
    · exact pages_fine r cur id h1 h2 b hb
    · rename_i hr
      have hr' : right u = true := by simpa using hr
      have hp := parts_le hr' 0
      split at hb
      · rcases List.mem_cons.1 hb with rfl | hb
        · refine ⟨fun e => ?_, h1, h2⟩
          subst e
          have := parts_le hr' id
          rename_i hbig
          simp only [List.length_nil] at hbig
          omega
        · exact pages_fine r _ _ (by omega) (parts_lt hr' 0) b hb
      · exact pages_fine r _ _ (by simp; omega) (fun c hc => (List.mem_append.1 hc).elim (h2 c) (parts_lt hr' id c)) b hb
theorem page_length (b : List Nat) : (page b).length = b.length + 4 := by simp [page, two_length]; omega
theorem page_lt {b : List Nat} (h : ∀ c ∈ b, c < 256) : ∀ c ∈ page b, c < 256 := by
  intro c hc
  simp only [page, List.mem_cons, List.mem_append] at hc
  rcases hc with rfl | rfl | hc | hc
  · omega
  · omega
  · exact two_lt _ c hc
  · exact h c hc
theorem page_number {b : List Nat} (h : b.length + 4 ≤ 1024) : (page b).getD 2 0 * 256 + (page b).getD 3 0 = b.length := by
  simp only [page, two, List.cons_append, List.nil_append, List.getD_cons_succ, List.getD_cons_zero]
  omega
theorem decode_page {b : List Nat} (h : b.length + 4 ≤ 1024) : decode (page b) = walk 0 b := by
  have e : headed (page b) = true := by
    unfold headed
    rw [decide_eq_true_eq, page_number h, page_length]
    exact ⟨by omega, h, rfl, rfl, by omega⟩
  unfold decode
  rw [if_pos e]
  rfl
theorem encode_back (l : List Up) (hf : ∀ u ∈ l, u.Fits) : ∃ L : List (List Up), (encode l).map decode = L.map some ∧ L.flatten = l.filter (fun u => right u) := by
  obtain ⟨L, h1, h2⟩ := pages_back l [] 0 [] hf (fun r => by rw [List.nil_append]; cases walk 0 r <;> simp)
  refine ⟨L, ?_, by simpa using h2⟩
  rw [← h1, encode, List.map_map]
  apply List.map_congr_left
  intro b hb
  exact decode_page (pages_fine l [] 0 (by simp) (by simp) b hb).2.1
theorem encode_fine (l : List Up) : ∀ p ∈ encode l, 4 < p.length ∧ p.length ≤ 1024 ∧ (∀ c ∈ p, c < 256) ∧ ∃ b, p = page b ∧ b.length + 4 ≤ 1024 := by
  intro p hp
  obtain ⟨b, hb, rfl⟩ := List.mem_map.1 hp
  obtain ⟨h0, h1, h2⟩ := pages_fine l [] 0 (by simp) (by simp) b hb
  have : 0 < b.length := List.length_pos_iff.2 h0
  exact ⟨by rw [page_length]; omega, by rw [page_length]; omega, page_lt h2, b, rfl, h1⟩

/-! ### cut off, or with more behind -/
theorem headed_number {x : List Nat} (h : headed x = true) : x.getD 2 0 * 256 + x.getD 3 0 = x.length - 4 ∧ 4 ≤ x.length := by
  unfold headed at h
  rw [decide_eq_true_eq] at h
  exact ⟨h.2.2.2.2, h.1⟩
theorem cut_none {b : List Nat} (h : b.length + 4 ≤ 1024) {k : Nat} (hk : k < b.length + 4) : decode ((page b).take k) = none := by
  unfold decode
  by_cases e : headed ((page b).take k) = true
  · exfalso
    obtain ⟨h1, h2⟩ := headed_number e
    have hl : ((page b).take k).length = k := by rw [List.length_take, page_length]; omega
    have g : ∀ i, i < k → ((page b).take k).getD i 0 = (page b).getD i 0 := fun i hi => by simp [List.getD_eq_getElem?_getD, hi]
    rw [g 2 (by omega), g 3 (by omega), page_number h] at h1
    omega
  · rw [if_neg e]
theorem more_none {b m : List Nat} (h : b.length + 4 ≤ 1024) (hm : m ≠ []) : decode (page b ++ m) = none := by
  unfold decode
  by_cases e : headed (page b ++ m) = true
  · exfalso
    obtain ⟨h1, h2⟩ := headed_number e
    have : 0 < m.length := List.length_pos_iff.2 hm
    have g : ∀ i, i < 4 → (page b ++ m).getD i 0 = (page b).getD i 0 := fun i hi => by
      simp only [List.getD_eq_getElem?_getD]
      rw [List.getElem?_append_left (by rw [page_length]; omega)]
    rw [g 2 (by omega), g 3 (by omega), page_number h, List.length_append, page_length] at h1
    omega
  · rw [if_neg e]

/-! ### what is read can be told -/
theorem val_snoc (b : List Nat) (c : Nat) : val (b ++ [c]) = val b * 256 + c := by simp [val]
theorem val_lt : ∀ (k : Nat) (b : List Nat), b.length ≤ k → (∀ c ∈ b, c < 256) → val b < 256 ^ k
  | 0, b, h, _ => by rw [List.length_eq_zero_iff.1 (Nat.le_zero.1 h)]; simp [val]
  | k + 1, b, h, hb => by
    by_cases hne : b = []
    · subst hne
      exact Nat.pow_pos (by omega)
    · have e := (List.dropLast_concat_getLast hne).symm
      have ih := val_lt k b.dropLast (by simp; omega) (fun c hc => hb c ((List.dropLast_sublist b).mem hc))
      have hc := hb _ (List.getLast_mem hne)
      rw [e, val_snoc, Nat.pow_succ]
      omega
theorem getD_lt {b : List Nat} (h : ∀ c ∈ b, c < 256) (i : Nat) : b.getD i 0 < 256 := by
  rw [List.getD_eq_getElem?_getD]
  cases e : b[i]? with
  | none => simp
  | some c => simpa using h c (List.mem_of_getElem? e)
theorem told_fine {x : List Nat} {id : Nat} (hx : ∀ c ∈ x, c < 256) (hid : id < 4294967296) {u : Up} (h : told x id = some u) : right u = true ∧ u.Fits := by
  unfold told at h
  split at h
  · cases h
  · split at h
    · cases h
    · obtain ⟨id', hid', e⟩ : ∃ id', id' < 4294967296 ∧ (if val ((x.drop 5).take 2) = 65535 then 0 else id) = id' := ⟨_, by split <;> omega, rfl⟩
      rw [e] at h
      dsimp only at h
      by_cases hr : right ⟨val ((x.drop 7 ++ [0, 0, 0, 0]).take 4), x.getD 0 0, id', val ((x.drop 1).take 4), val ((x.drop 5).take 2)⟩ = true
      · rw [if_pos hr, Option.some.injEq] at h
        subst h
        refine ⟨hr, ?_⟩
        have g := getD_lt hx 0
        have l4 : ∀ y : List Nat, (∀ c ∈ y, c < 256) → val (y.take 4) < 4294967296 := fun y hy => val_lt 4 _ (by simp; omega) (fun c hc => hy c (List.mem_of_mem_take hc))
        have l2 : ∀ y : List Nat, (∀ c ∈ y, c < 256) → val (y.take 2) < 65536 := fun y hy => val_lt 2 _ (by simp; omega) (fun c hc => hy c (List.mem_of_mem_take hc))
        have hd : ∀ k, ∀ c ∈ x.drop k, c < 256 := fun k c hc => hx c (List.mem_of_mem_drop hc)
        refine ⟨l4 _ (fun c hc => ?_), by dsimp only; omega, by dsimp only; omega, hid', l4 _ (hd 1), l2 _ (hd 5)⟩
        · rcases List.mem_append.1 hc with hc | hc
          · exact hd 7 c hc
          · simp at hc; omega
      · rw [if_neg hr] at h; cases h
theorem walk_fine : ∀ (n : Nat) (b : List Nat) (id : Nat), b.length ≤ n → (∀ c ∈ b, c < 256) → id < 4294967296 → ∀ us, walk id b = some us → ∀ u ∈ us, right u = true ∧ u.Fits
  | n, [], id, _, _, _ => by
    intro us h u hu
    rw [walk_nil] at h
    cases h; cases hu
  | 0, k :: r, id, hl, _, _ => by simp at hl
  | n + 1, k :: r, id, hl, hb, hid => by
    intro us h u hu
    simp only [List.length_cons] at hl
    have hbr : ∀ c ∈ r, c < 256 := fun c hc => hb c (List.mem_cons_of_mem _ hc)
    rw [walk.eq_def] at h
    simp only at h
    split at h
    · exact walk_fine n r id (by omega) hbr hid us h u hu
    · cases r with
      | nil => cases h
      | cons m r =>
        simp only at h
        simp only [List.length_cons] at hl
        have hbr2 : ∀ c ∈ r, c < 256 := fun c hc => hbr c (List.mem_cons_of_mem _ hc)
        split at h
        · cases h
        · have hid' : (if k = 2 ∧ m = 4 then val (r.take m) else id) < 4294967296 := by
            split
            · rename_i e
              rw [e.2]
              exact val_lt 4 _ (by simp; omega) (fun c hc => hbr2 c (List.mem_of_mem_take hc))
            · exact hid
          generalize (if k = 2 ∧ m = 4 then val (r.take m) else id) = id' at h hid'
          cases e : walk id' (r.drop m) with
          | none => rw [e] at h; cases h
          | some l =>
            rw [e] at h
            simp only [Option.map_some, Option.some.injEq] at h
            subst h
            rcases List.mem_append.1 hu with hu | hu
            · split at hu
              · rw [Option.mem_toList] at hu
                exact told_fine (fun c hc => hbr2 c (List.mem_of_mem_take hc)) hid' hu
              · cases hu
            · exact walk_fine n _ id' (by simp; omega) (fun c hc => hbr2 c (List.mem_of_mem_drop hc)) hid' l e u hu
theorem decode_fine {b : List Nat} (hb : ∀ c ∈ b, c < 256) {us : List Up} (h : decode b = some us) : ∀ u ∈ us, right u = true ∧ u.Fits := by
  unfold decode at h
  split at h
  · exact walk_fine _ _ 0 (Nat.le_refl _) (fun c hc => hb c (List.mem_of_mem_drop hc)) (by omega) us h
  · cases h
theorem walk_count : ∀ (n : Nat) (b : List Nat) (id : Nat), b.length ≤ n → ∀ us, walk id b = some us → us.length ≤ b.length
  | n, [], id, _ => by
    intro us h
    rw [walk_nil] at h
    cases h; simp
  | 0, k :: r, id, hl => by simp at hl
  | n + 1, k :: r, id, hl => by
    intro us h
    simp only [List.length_cons] at hl
    rw [walk.eq_def] at h
    simp only at h
    split at h
    · have := walk_count n r id (by omega) us h
      simp only [List.length_cons]; omega
    · cases r with
      | nil => cases h
      | cons m r =>
        simp only at h
        simp only [List.length_cons] at hl
        split at h
        · cases h
        · generalize (if k = 2 ∧ m = 4 then val (r.take m) else id) = id' at h
          cases e : walk id' (r.drop m) with
          | none => rw [e] at h; cases h
          | some l =>
            rw [e] at h
            simp only [Option.map_some, Option.some.injEq] at h
            subst h
            have := walk_count n _ id' (by simp; omega) l e
            have h1 : (if k = 3 then (told (r.take m) id').toList else []).length ≤ 1 := by
              split
              · cases told (r.take m) id' <;> simp
              · simp
            simp only [List.length_append, List.length_cons, List.length_drop] at this ⊢
            omega
end Go.Proofs.Ytpdbaediepofjaa.Tm
