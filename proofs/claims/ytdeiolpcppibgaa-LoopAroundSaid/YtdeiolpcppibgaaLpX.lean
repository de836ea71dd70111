/-
  LoopAround, as mathematics: who leads on for ever is what is left when all that lead nowhere are struck, so many times.
-/
import Derived.Test.YtdeiolpcppibgaaLpE
namespace Go.Proofs.Ytdeiolpcppibgaa
open Fm

section
variable {pa : Nat} {pn : Int} {fss : List (List En)}
/-- where a machine leads, if to a machine -/
def capN (pa : Nat) (pn : Int) (fss : List (List En)) (k : Nat) : Int :=
  if h : k < fss.length then (if nextOf pa pn fss[k] < fss.length then nextOf pa pn fss[k] else -1) else -1
theorem nextOf_ge {es : List En} (hp : ∀ e ∈ es, 0 ≤ e.nx) : nextOf pa pn es = -1 ∨ 0 ≤ nextOf pa pn es := by
  unfold nextOf
  split
  · rename_i e he
    exact .inr (hp e (List.mem_of_find?_eq_some he))
  · exact .inl rfl
theorem nextOf_snoc {es : List En} (hp : ∀ e ∈ es, 0 ≤ e.nx) (e : En) : nextOf pa pn (es ++ [e]) = if 0 ≤ nextOf pa pn es then nextOf pa pn es else if own1 pa pn e = true then e.nx else -1 := by
  unfold nextOf
  rw [List.find?_append]
  cases h : es.find? (own1 pa pn) with
  | some x =>
    have := hp x (List.mem_of_find?_eq_some h)
    simp [this]
  | none =>
    by_cases h1 : own1 pa pn e = true
    · simp [h1]
    · simp [h1]
theorem capN_or (hp : ∀ i (hi : i < fss.length), ∀ e ∈ fss[i], 0 ≤ e.nx) (k : Nat) : capN pa pn fss k = -1 ∨ (0 ≤ capN pa pn fss k ∧ capN pa pn fss k < fss.length) := by
  unfold capN
  split
  · rename_i h
    split
    · rcases nextOf_ge (pa := pa) (pn := pn) (hp k h) with h1 | h1
      · exact .inl h1
      · exact .inr ⟨h1, by assumption⟩
    · exact .inl rfl
  · exact .inl rfl
theorem stepN_cap (hp : ∀ i (hi : i < fss.length), ∀ e ∈ fss[i], 0 ≤ e.nx) (k : Nat) : stepN pa pn fss k = if 0 ≤ capN pa pn fss k then some (capN pa pn fss k).toNat else none := by
  unfold stepN capN
  split
  · rename_i h
    rcases nextOf_ge (pa := pa) (pn := pn) (hp k h) with h1 | h1
    · rw [h1]
      simp
    · by_cases h2 : nextOf pa pn fss[k] < fss.length
      · rw [if_pos ⟨h1, h2⟩, if_pos h2, if_pos h1]
      · rw [if_neg (fun h => h2 h.2), if_neg h2]
        rfl
  · rfl
theorem goN_first : ∀ (t k : Nat), goN pa pn fss (t + 1) k = (stepN pa pn fss k).bind (goN pa pn fss t)
  | 0, k => by
    show stepN pa pn fss k = (stepN pa pn fss k).bind some
    cases stepN pa pn fss k <;> rfl
  | t + 1, k => by
    show (goN pa pn fss (t + 1) k).bind (stepN pa pn fss) = _
    rw [goN_first t k]
    cases stepN pa pn fss k <;> rfl
theorem goN_add : ∀ (t s k : Nat), goN pa pn fss (t + s) k = (goN pa pn fss t k).bind (goN pa pn fss s)
  | t, 0, k => by
    show goN pa pn fss t k = (goN pa pn fss t k).bind some
    cases goN pa pn fss t k <;> rfl
  | t, s + 1, k => by
    show (goN pa pn fss (t + s) k).bind (stepN pa pn fss) = _
    rw [goN_add t s k]
    cases goN pa pn fss t k <;> rfl
theorem goN_less {t s k : Nat} (h : (goN pa pn fss t k).isSome) (hs : s ≤ t) : (goN pa pn fss s k).isSome := by
  cases hg : goN pa pn fss s k with
  | some _ => rfl
  | none =>
    have := goN_none hg (t - s)
    rw [show s + (t - s) = t by omega] at this
    rw [this] at h
    cases h
/-- who goes so often comes to some machine again -/
theorem ever_of {k : Nat} (hk : k < fss.length) (h : (goN pa pn fss fss.length k).isSome) : ∃ m, m < fss.length ∧ ∀ t, (goN pa pn fss t m).isSome := by
  let s := fun t => (goN pa pn fss t k).getD 0
  have hs : ∀ t, t ≤ fss.length → goN pa pn fss t k = some (s t) ∧ s t < fss.length := fun t ht => by
    obtain ⟨m, hm⟩ := Option.isSome_iff_exists.1 (goN_less h ht)
    have e : s t = m := by show (goN pa pn fss t k).getD 0 = m; rw [hm]; rfl
    rw [e]
    exact ⟨hm, goN_lt hm hk⟩
  have hnd : ¬ ((List.range (fss.length + 1)).map s).Nodup := fun hnd => by
    have := List.Nodup.length_le_of_subset hnd (l₂ := List.range fss.length) (fun y hy => by
      obtain ⟨t, ht, rfl⟩ := List.mem_map.1 hy
      exact List.mem_range.2 (hs t (by have := List.mem_range.1 ht; omega)).2)
    simp at this
    omega
  have hex : ∃ i j, i < j ∧ j ≤ fss.length ∧ s i = s j := by
    refine Classical.byContradiction fun hno => hnd ?_
    refine List.pairwise_map.2 ?_
    have : (List.range (fss.length + 1)).Pairwise (fun a b => a < b ∧ b < fss.length + 1) := by
      refine List.Pairwise.imp_of_mem (R := fun a b => a < b) (fun {a b} _ hb hab => ⟨hab, List.mem_range.1 hb⟩) List.pairwise_lt_range
    exact this.imp fun {a b} hab e => hno ⟨a, b, hab.1, by omega, e⟩
  obtain ⟨i, j, hij, hj, he⟩ := hex
  obtain ⟨hi1, hi2⟩ := hs i (by omega)
  obtain ⟨hj1, -⟩ := hs j hj
  refine ⟨s i, hi2, fun t => ?_⟩
  have hd : goN pa pn fss (j - i) (s i) = some (s i) := by
    have := goN_add (pa := pa) (pn := pn) (fss := fss) i (j - i) k
    rw [show i + (j - i) = j by omega, hi1, hj1, ← he] at this
    exact this.symm
  have hq : ∀ q, goN pa pn fss (q * (j - i)) (s i) = some (s i) := fun q => by
    induction q with
    | zero => rw [Nat.zero_mul]; rfl
    | succ q ih =>
      rw [Nat.add_mul, Nat.one_mul, goN_add, ih]
      exact hd
  exact goN_less (t := t * (j - i)) (by rw [hq]; rfl) (Nat.le_mul_of_pos_right t (by omega))
/-- while those are struck that lead nowhere: behind r rounds, and i of the next -/
structure Al (pa : Nat) (pn : Int) (fss : List (List En)) (r i : Nat) (cur : Nat → Int) : Prop where
  val : ∀ k, k < fss.length → cur k = -1 ∨ (cur k = capN pa pn fss k ∧ 0 ≤ capN pa pn fss k ∧ capN pa pn fss k < fss.length)
  ever : ∀ k, k < fss.length → (∀ t, (goN pa pn fss t k).isSome) → 0 ≤ cur k
  all : ∀ k, k < fss.length → 0 ≤ cur k → (goN pa pn fss (r + 1) k).isSome
  done : ∀ k, k < i → k < fss.length → 0 ≤ cur k → (goN pa pn fss (r + 2) k).isSome
theorem Al.start (hp : ∀ i (hi : i < fss.length), ∀ e ∈ fss[i], 0 ≤ e.nx) {cur : Nat → Int} (h : ∀ k, k < fss.length → cur k = capN pa pn fss k) : Al pa pn fss 0 0 cur := by
  have h1 : ∀ k, goN pa pn fss 1 k = stepN pa pn fss k := fun k => by rw [show 1 = 0 + 1 from rfl, goN_first]; cases stepN pa pn fss k <;> rfl
  refine ⟨fun k hk => ?_, fun k hk he => ?_, fun k hk h0 => ?_, fun k hk => by omega⟩
  · rw [h k hk]
    rcases capN_or (pa := pa) (pn := pn) hp k with e | e
    · exact .inl e
    · exact .inr ⟨rfl, e⟩
  · rw [h k hk]
    have := he 1
    rw [h1, stepN_cap hp] at this
    refine Classical.byContradiction fun hn => ?_
    rw [if_neg hn] at this
    cases this
  · rw [Nat.zero_add, h1, stepN_cap hp, if_pos (by rw [← h k hk]; exact h0)]
    rfl
theorem Al.step_some (hp : ∀ i (hi : i < fss.length), ∀ e ∈ fss[i], 0 ≤ e.nx) {r i : Nat} {cur : Nat → Int} (h : Al pa pn fss r i cur) {k : Nat} (hk : k < fss.length) (h0 : 0 ≤ cur k) : cur k = capN pa pn fss k ∧ (cur k).toNat < fss.length ∧ stepN pa pn fss k = some (cur k).toNat := by
  rcases h.val k hk with e | ⟨e, h1, h2⟩
  · omega
  · refine ⟨e, by omega, ?_⟩
    rw [stepN_cap hp, if_pos h1, e]
theorem Al.keep (hp : ∀ i (hi : i < fss.length), ∀ e ∈ fss[i], 0 ≤ e.nx) {r i : Nat} {cur : Nat → Int} (h : Al pa pn fss r i cur) (hi : i < fss.length) (hc : cur i < 0 ∨ 0 ≤ cur (cur i).toNat) : Al pa pn fss r (i + 1) cur := by
  refine ⟨h.val, h.ever, h.all, fun k hk hkl h0 => ?_⟩
  by_cases e : k = i
  · subst e
    obtain ⟨-, h2, h3⟩ := h.step_some hp hkl h0
    rcases hc with hc | hc
    · omega
    · rw [show r + 2 = (r + 1) + 1 from rfl, goN_first, h3]
      exact h.all _ h2 hc
  · exact h.done k (by omega) hkl h0
theorem Al.strike (hp : ∀ i (hi : i < fss.length), ∀ e ∈ fss[i], 0 ≤ e.nx) {r i : Nat} {cur cur' : Nat → Int} (h : Al pa pn fss r i cur) (hi : i < fss.length) (h0 : 0 ≤ cur i) (hc : cur (cur i).toNat < 0) (hcur : ∀ k, k < fss.length → cur' k = if k = i then -1 else cur k) : Al pa pn fss r (i + 1) cur' := by
  refine ⟨fun k hk => ?_, fun k hk he => ?_, fun k hk h1 => ?_, fun k hk hkl h1 => ?_⟩
  · rw [hcur k hk]
    by_cases e : k = i
    · exact .inl (if_pos e)
    · rw [if_neg e]
      exact h.val k hk
  · rw [hcur k hk]
    by_cases e : k = i
    · subst e
      obtain ⟨-, h2, h3⟩ := h.step_some hp hk h0
      have : 0 ≤ cur (cur k).toNat := h.ever _ h2 fun t => by
        have := he (t + 1)
        rw [goN_first, h3] at this
        exact this
      omega
    · rw [if_neg e]
      exact h.ever k hk he
  · rw [hcur k hk] at h1
    by_cases e : k = i
    · rw [if_pos e] at h1; omega
    · rw [if_neg e] at h1; exact h.all k hk h1
  · rw [hcur k hkl] at h1
    by_cases e : k = i
    · rw [if_pos e] at h1; omega
    · rw [if_neg e] at h1; exact h.done k (by omega) hkl h1
theorem Al.round {r : Nat} {cur : Nat → Int} (h : Al pa pn fss r fss.length cur) : Al pa pn fss (r + 1) 0 cur := ⟨h.val, h.ever, fun k hk h0 => h.done k hk hk h0, fun k hk => by omega⟩
theorem Al.ring {cur : Nat → Int} (h : Al pa pn fss fss.length 0 cur) : aroundB pa pn fss = true ↔ ∃ k, k < fss.length ∧ 0 ≤ cur k := by
  unfold aroundB
  rw [List.any_eq_true]
  constructor
  · rintro ⟨k, hk, hs⟩
    obtain ⟨m, hm, he⟩ := ever_of (List.mem_range.1 hk) hs
    exact ⟨m, hm, h.ever m hm he⟩
  · rintro ⟨k, hk, h0⟩
    exact ⟨k, List.mem_range.2 hk, goN_less (h.all k hk h0) (by omega)⟩
end
end Go.Proofs.Ytdeiolpcppibgaa
