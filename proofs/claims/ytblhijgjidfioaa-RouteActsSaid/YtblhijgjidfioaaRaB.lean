/-
  The statement's own Pick: what it finds. No program in sight.
-/
import Derived.Test.YtblhijgjidfioaaRtP
namespace Go.Proofs.Ytblhijgjidfioaa
open Go.RowKit Go.Maps

def bst (f : Ways) (cs : List Int) (most a : Nat) (len : Int) : Nat → Option (Nat × Rh)
  | 0 => none
  | K + 1 => match reachF f cs most a len K with
    | none => bst f cs most a len K
    | some x => match bst f cs most a len K with
      | none => some (K, x)
      | some (b, y) => if x.2 < y.2 then some (K, x) else some (b, y)
theorem find_same {α : Type} {p q : α → Bool} : ∀ {xs : List α}, (∀ z ∈ xs, p z = q z) → xs.find? p = xs.find? q
  | [], _ => rfl
  | x :: r, h => by
    rw [List.find?_cons, List.find?_cons, h x (List.mem_cons_self ..), find_same (fun z hz => h z (List.mem_cons_of_mem _ hz))]
theorem nearest_iff {xs : List Rh} {x : Rh} : nearest xs x = true ↔ ∀ o ∈ xs, x.2 ≤ o.2 := by
  unfold nearest
  simp
theorem pickL_min {xs : List Rh} {y : Rh} (h : pickL xs = some y) : y ∈ xs ∧ ∀ o ∈ xs, y.2 ≤ o.2 :=
  ⟨List.mem_of_find?_eq_some h, nearest_iff.1 (List.find?_some h)⟩
theorem pickL_snoc (xs : List Rh) (x : Rh) : pickL (xs ++ [x]) = match pickL xs with
    | none => if xs = [] then some x else pickL (xs ++ [x])
    | some y => if x.2 < y.2 then some x else some y := by
  cases h : pickL xs with
  | none =>
    by_cases e : xs = []
    · subst e
      simp [pickL, nearest]
    · simp [e]
  | some y =>
    obtain ⟨hy, hmin⟩ := pickL_min h
    dsimp only
    unfold pickL
    rw [List.find?_append]
    by_cases hx : x.2 < y.2
    · rw [if_pos hx]
      have h1 : xs.find? (nearest (xs ++ [x])) = none := by
        rw [List.find?_eq_none]
        intro z hz hn
        have h2 := nearest_iff.1 hn x (by simp)
        have h3 := hmin z hz
        omega
      rw [h1]
      have h2 : nearest (xs ++ [x]) x = true := nearest_iff.2 fun o ho => by
        rcases List.mem_append.1 ho with ho | ho
        · have := hmin o ho; omega
        · simp at ho; subst ho; exact Int.le_refl _
      simp [h2]
    · rw [if_neg hx]
      have h1 : xs.find? (nearest (xs ++ [x])) = xs.find? (nearest xs) := find_same fun z hz => by
        rw [Bool.eq_iff_iff, nearest_iff, nearest_iff]
        constructor
        · exact fun h o ho => h o (List.mem_append_left _ ho)
        · intro h o ho
          rcases List.mem_append.1 ho with ho | ho
          · exact h o ho
          · simp at ho
            subst ho
            have := h y hy
            omega
      rw [h1]
      show (pickL xs).or _ = _
      rw [h]
      rfl
theorem bst_pick (f : Ways) (cs : List Int) (most a : Nat) (len : Int) : ∀ K, (bst f cs most a len K).map (·.2) = pickL (openL f cs most a len K) ∧ (pickL (openL f cs most a len K) = none → openL f cs most a len K = [])
  | 0 => ⟨rfl, fun _ => rfl⟩
  | K + 1 => by
    obtain ⟨h1, h2⟩ := bst_pick f cs most a len K
    rw [openL_succ]
    unfold bst
    cases hr : reachF f cs most a len K with
    | none =>
      rw [Option.toList_none, List.append_nil]
      exact ⟨h1, h2⟩
    | some x =>
      rw [Option.toList_some, pickL_snoc]
      cases hb : bst f cs most a len K with
      | none =>
        rw [hb] at h1
        rw [← h1]
        dsimp only [Option.map]
        rw [if_pos (h2 h1.symm)]
        exact ⟨rfl, fun h => by cases h⟩
      | some q =>
        obtain ⟨b, y⟩ := q
        rw [hb] at h1
        rw [← h1]
        by_cases hlt : x.2 < y.2
        · simp [hlt]
        · simp [hlt]
theorem bst_reach (f : Ways) (cs : List Int) (most a : Nat) (len : Int) : ∀ K {b : Nat} {x : Rh}, bst f cs most a len K = some (b, x) → b < K ∧ reachF f cs most a len b = some x
  | 0, _, _, h => by cases h
  | K + 1, b, x, h => by
    have ih := @bst_reach f cs most a len K
    unfold bst at h
    cases hr : reachF f cs most a len K with
    | none =>
      rw [hr] at h
      obtain ⟨h1, h2⟩ := ih h
      exact ⟨by omega, h2⟩
    | some z =>
      rw [hr] at h
      cases hb : bst f cs most a len K with
      | none =>
        rw [hb] at h
        cases h
        exact ⟨by omega, hr⟩
      | some q =>
        obtain ⟨b', y⟩ := q
        rw [hb] at h
        dsimp only at h
        split at h
        · cases h
          exact ⟨by omega, hr⟩
        · cases h
          obtain ⟨h1, h2⟩ := ih hb
          exact ⟨by omega, h2⟩
theorem reach_way {f : Ways} {cs : List Int} {most a : Nat} {len : Int} {k : Nat} {x : Rh} (h : reachF f cs most a len k = some x) : f ⟨a, len, k⟩ = some x.1 := by
  unfold reachF at h
  cases hf : f ⟨a, len, k⟩ with
  | none => rw [hf] at h; cases h
  | some r =>
    rw [hf] at h
    dsimp only at h
    split at h
    · cases h
    · cases h; rfl
/-- the statement's answer: below 0: none -/
def bestI (f : Ways) (cs : List Int) (most a : Nat) (len : Int) (K : Nat) : Int :=
  match bst f cs most a len K with
  | none => -1
  | some (b, _) => b
def bestM (f : Ways) (cs : List Int) (most a : Nat) (len : Int) (K : Nat) : Int :=
  match bst f cs most a len K with
  | none => 0
  | some (_, x) => x.2
theorem bst_skip {f : Ways} {cs : List Int} {most a : Nat} {len : Int} {K : Nat} (h : reachF f cs most a len K = none) : bst f cs most a len (K + 1) = bst f cs most a len K := by
  rw [bst, h]
theorem best_skip {f : Ways} {cs : List Int} {most a : Nat} {len : Int} {K : Nat} (h : reachF f cs most a len K = none) : bestI f cs most a len (K + 1) = bestI f cs most a len K ∧ bestM f cs most a len (K + 1) = bestM f cs most a len K := by
  unfold bestI bestM
  rw [bst_skip h]
  exact ⟨rfl, rfl⟩
theorem best_take {f : Ways} {cs : List Int} {most a : Nat} {len : Int} {K : Nat} {x : Rh} (h : reachF f cs most a len K = some x) (hb : bestI f cs most a len K < 0 ∨ x.2 < bestM f cs most a len K) : bestI f cs most a len (K + 1) = K ∧ bestM f cs most a len (K + 1) = x.2 := by
  have e : bst f cs most a len (K + 1) = some (K, x) := by
    rw [bst, h]
    cases hq : bst f cs most a len K with
    | none => rfl
    | some q =>
      obtain ⟨b, y⟩ := q
      unfold bestI bestM at hb
      rw [hq] at hb
      dsimp only at hb ⊢
      rw [if_pos (by omega)]
  unfold bestI bestM
  rw [e]
  exact ⟨rfl, rfl⟩
theorem best_leave {f : Ways} {cs : List Int} {most a : Nat} {len : Int} {K : Nat} {x : Rh} (h : reachF f cs most a len K = some x) (hb : ¬ (bestI f cs most a len K < 0 ∨ x.2 < bestM f cs most a len K)) : bestI f cs most a len (K + 1) = bestI f cs most a len K ∧ bestM f cs most a len (K + 1) = bestM f cs most a len K := by
  have e : bst f cs most a len (K + 1) = bst f cs most a len K := by
    rw [bst, h]
    cases hq : bst f cs most a len K with
    | none =>
      unfold bestI at hb
      rw [hq] at hb
      exact absurd (.inl (by decide)) hb
    | some q =>
      obtain ⟨b, y⟩ := q
      unfold bestI bestM at hb
      rw [hq] at hb
      dsimp only at hb ⊢
      rw [if_neg (by omega)]
  unfold bestI bestM
  rw [e]
  exact ⟨rfl, rfl⟩
end Go.Proofs.Ytblhijgjidfioaa
