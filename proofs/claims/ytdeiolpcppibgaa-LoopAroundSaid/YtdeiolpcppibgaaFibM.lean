/-
  Plain mathematics of entries: which one an address has. No program in sight.
-/
import Derived.Test.YtdeiolpcppibgaaAddrM
namespace Go.Proofs.Ytdeiolpcppibgaa
namespace Fm

/-- an entry: its prefix (address, length), what becomes of it, the next one -/
structure En where
  a : Nat
  n : Int
  how : Int
  nx : Int
deriving DecidableEq
def En.zero : En := ⟨0, 0, 0, 0⟩
instance : Inhabited En := ⟨En.zero⟩
structure En.Fits (e : En) : Prop where
  a : e.a < 4294967296
  n1 : -9223372036854775808 ≤ e.n
  n2 : e.n ≤ 9223372036854775807
  h1 : -9223372036854775808 ≤ e.how
  h2 : e.how ≤ 9223372036854775807
  x1 : -9223372036854775808 ≤ e.nx
  x2 : e.nx ≤ 9223372036854775807

/-- does an entry count for the address x? -/
def good (x : Nat) (e : En) : Bool := !(e.how == 0) && Am.has e.a e.n x
theorem good_how {x : Nat} {e : En} (h : good x e = true) : (e.how == 0) = false := by
  unfold good at h
  simp only [Bool.and_eq_true, Bool.not_eq_true'] at h
  exact h.1
theorem good_has {x : Nat} {e : En} (h : good x e = true) : Am.has e.a e.n x = true := by
  unfold good at h
  simp only [Bool.and_eq_true] at h
  exact h.2
theorem has_right {p : Nat} {len : Int} {x : Nat} (h : Am.has p len x = true) : Am.right p len = true := by
  unfold Am.has at h
  simp only [Bool.and_eq_true] at h
  exact h.1
theorem right_bounds {a : Nat} {len : Int} (h : Am.right a len = true) : 0 ≤ len ∧ len ≤ 32 := by
  unfold Am.right at h
  simp only [Bool.and_eq_true, decide_eq_true_eq] at h
  exact h.1
theorem good_len {x : Nat} {e : En} (h : good x e = true) : 0 ≤ e.n ∧ e.n ≤ 32 := right_bounds (has_right (good_has h))

/-- of the first k of l: the longest, of several the first; none: the zero one -/
def IsLook (x : Nat) (l : List En) (k : Nat) (r : En) : Prop :=
  ((∀ j (h : j < l.length), j < k → good x l[j] = false) ∧ r = En.zero) ∨
  ∃ i, ∃ h : i < l.length, i < k ∧ l[i] = r ∧ good x r = true ∧ ∀ j (h : j < l.length), j < k → good x l[j] = true → l[j].n < r.n ∨ (l[j].n = r.n ∧ i ≤ j)
theorem IsLook.none (x : Nat) (l : List En) : IsLook x l 0 En.zero := .inl ⟨fun j _ h => by omega, rfl⟩
theorem IsLook.how {x : Nat} {l : List En} {k : Nat} {r : En} (h : IsLook x l k r) : (r.how == 0) = true ∧ r = En.zero ∧ (∀ j (h : j < l.length), j < k → good x l[j] = false) ∨ (r.how == 0) = false := by
  rcases h with ⟨h, rfl⟩ | ⟨i, hi, hk, e, hg, -⟩
  · exact .inl ⟨rfl, rfl, h⟩
  · exact .inr (good_how hg)
theorem IsLook.skip {x : Nat} {l : List En} {k : Nat} {r : En} (h : IsLook x l k r) (hk : k < l.length) (hg : good x l[k] = false) : IsLook x l (k + 1) r := by
  rcases h with ⟨h, e⟩ | ⟨i, hi, hk', e, hg', h⟩
  · refine .inl ⟨fun j hj hjk => ?_, e⟩
    by_cases hjk' : j = k
    · subst hjk'; exact hg
    · exact h j hj (by omega)
  · refine .inr ⟨i, hi, by omega, e, hg', fun j hj hjk hgj => ?_⟩
    by_cases hjk' : j = k
    · subst hjk'; rw [hg] at hgj; cases hgj
    · exact h j hj (by omega) hgj
theorem IsLook.take {x : Nat} {l : List En} {k : Nat} {r : En} (h : IsLook x l k r) (hk : k < l.length) (hg : good x l[k] = true) (hb : (r.how == 0) = true ∨ l[k].n > r.n) : IsLook x l (k + 1) l[k] := by
  refine .inr ⟨k, hk, by omega, rfl, hg, fun j hj hjk hgj => ?_⟩
  by_cases hjk' : j = k
  · subst hjk'; exact .inr ⟨rfl, Nat.le_refl _⟩
  · rcases h with ⟨h, e⟩ | ⟨i, hi, hk', e, hg', h⟩
    · rw [h j hj (by omega)] at hgj; cases hgj
    · rcases hb with hb | hb
      · rw [good_how hg'] at hb; cases hb
      · have := h j hj (by omega) hgj
        omega
theorem IsLook.leave {x : Nat} {l : List En} {k : Nat} {r : En} (h : IsLook x l k r) (hk : k < l.length) (hh : (r.how == 0) = false) (hb : ¬ l[k].n > r.n) : IsLook x l (k + 1) r := by
  rcases h with ⟨h, e⟩ | ⟨i, hi, hk', e, hg', h⟩
  · subst e; cases hh
  · refine .inr ⟨i, hi, by omega, e, hg', fun j hj hjk hgj => ?_⟩
    by_cases hjk' : j = k
    · subst hjk'
      have : i ≤ j := by omega
      omega
    · exact h j hj (by omega) hgj
theorem IsLook.unique {x : Nat} {l : List En} {k : Nat} {r s : En} (h : IsLook x l k r) (h' : IsLook x l k s) : r = s := by
  rcases h with ⟨h, e⟩ | ⟨i, hi, hk, e, hg, h⟩
  · rcases h' with ⟨h', e'⟩ | ⟨i', hi', hk', e', hg', h'⟩
    · rw [e, e']
    · have := h i' hi' hk'
      rw [e', hg'] at this
      cases this
  · rcases h' with ⟨h', e'⟩ | ⟨i', hi', hk', e', hg', h'⟩
    · have := h' i hi hk
      rw [e, hg] at this
      cases this
    · have h1 := h i' hi' hk' (by rw [e']; exact hg')
      have h2 := h' i hi hk (by rw [e]; exact hg)
      rw [e'] at h1
      rw [e] at h2
      obtain rfl : i = i' := by omega
      rw [← e, ← e']

/-- as the statement looks: none of the longer ones, none of the first k of length n -/
def Below (x : Nat) (l : List En) (n : Int) (k : Nat) : Prop := ∀ j (h : j < l.length), good x l[j] = true → l[j].n < n ∨ (l[j].n = n ∧ k ≤ j)
theorem Below.start (x : Nat) (l : List En) : Below x l 32 0 := fun j hj hg => by have := good_len hg; omega
theorem Below.skip {x : Nat} {l : List En} {n : Int} {k : Nat} (h : Below x l n k) (hk : k < l.length) (hg : (l[k].n == n && good x l[k]) = false) : Below x l n (k + 1) := fun j hj hgj => by
  rcases h j hj hgj with h1 | ⟨h1, h2⟩
  · exact .inl h1
  · by_cases hjk : j = k
    · subst hjk
      rw [hgj, h1] at hg
      simp at hg
    · exact .inr ⟨h1, by omega⟩
theorem Below.down {x : Nat} {l : List En} {n : Int} (h : Below x l n l.length) : Below x l (n - 1) 0 := fun j hj hgj => by
  rcases h j hj hgj with h1 | ⟨h1, h2⟩
  · omega
  · omega
theorem Below.found {x : Nat} {l : List En} {n : Int} {k : Nat} (h : Below x l n k) (hk : k < l.length) (hn : l[k].n = n) (hg : good x l[k] = true) : IsLook x l l.length l[k] :=
  .inr ⟨k, hk, hk, rfl, hg, fun j hj _ hgj => by have := h j hj hgj; omega⟩
theorem Below.none {x : Nat} {l : List En} {n : Int} {k : Nat} (h : Below x l n k) (hn : n < 0) : IsLook x l l.length En.zero :=
  .inl ⟨fun j hj _ => by
    cases hg : good x l[j] with
    | false => rfl
    | true => have := h j hj hg; have := good_len hg; omega, rfl⟩

/-- the entry, by going through all -/
def stepL (x : Nat) (r e : En) : En := if good x e && ((r.how == 0) || decide (e.n > r.n)) then e else r
def lookB (x : Nat) (l : List En) : En := l.foldl (stepL x) En.zero
theorem lookB_upto (x : Nat) (l : List En) : ∀ k, k ≤ l.length → IsLook x l k ((l.take k).foldl (stepL x) En.zero)
  | 0, _ => by simpa using IsLook.none x l
  | k + 1, hk => by
    have hk' : k < l.length := hk
    have h := lookB_upto x l k (by omega)
    rw [List.take_succ_eq_append_getElem hk', List.foldl_append]
    generalize (l.take k).foldl (stepL x) En.zero = r at h
    show IsLook x l (k + 1) (stepL x r l[k])
    unfold stepL
    cases hg : good x l[k] with
    | false => simpa using h.skip hk' hg
    | true =>
      cases hr : (r.how == 0) with
      | true => simpa using h.take hk' hg (.inl hr)
      | false =>
        by_cases hn : l[k].n > r.n
        · simpa [hn] using h.take hk' hg (.inr hn)
        · simpa [hn] using h.leave hk' hr hn
theorem lookB_is (x : Nat) (l : List En) : IsLook x l l.length (lookB x l) := by
  have h := lookB_upto x l l.length (Nat.le_refl _)
  rw [List.take_length] at h
  exact h
theorem IsLook.eq {x : Nat} {l : List En} {r : En} (h : IsLook x l l.length r) : r = lookB x l := h.unique (lookB_is x l)
end Fm
end Go.Proofs.Ytdeiolpcppibgaa
