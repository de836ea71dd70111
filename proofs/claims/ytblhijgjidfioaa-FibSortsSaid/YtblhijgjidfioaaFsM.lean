/-
  Plain mathematics of the statement on sorting: which entry is the least that isn't taken; the entry of an address behind sorting. No program in sight.
-/
import Derived.Test.YtblhijgjidfioaaStbH
namespace Go.Proofs.Ytblhijgjidfioaa
open Go.RowKit Go.Lib Go.Sort Fm Sb

/-- is place k among the first i of ds? -/
def usedB (ds : List De) (i k : Nat) : Bool := (ds.take i).any fun x => x.i == k
theorem usedB_zero (ds : List De) (k : Nat) : usedB ds 0 k = false := rfl
theorem usedB_succ {ds : List De} {i : Nat} (h : i < ds.length) (k : Nat) : usedB ds (i + 1) k = (usedB ds i k || ds[i].i == k) := by
  unfold usedB
  rw [List.take_succ_eq_append_getElem h, List.any_append]
  simp
theorem usedB_iff {ds : List De} {i k : Nat} : usedB ds i k = true ↔ ∃ p, ∃ h : p < ds.length, p < i ∧ ds[p].i = k := by
  unfold usedB
  rw [List.any_eq_true]
  constructor
  · rintro ⟨x, hx, e⟩
    obtain ⟨p, hp, rfl⟩ := List.mem_iff_getElem.1 hx
    simp only [List.length_take] at hp
    exact ⟨p, by omega, by omega, by simpa using e⟩
  · rintro ⟨p, h, hpi, e⟩
    refine ⟨ds[p], ?_, by simpa using e⟩
    rw [List.mem_iff_getElem]
    exact ⟨p, by simp; omega, by simp⟩
/-- the bools of it -/
def Ub (ds : List De) (n i : Nat) : Array Value := ((List.range n).map fun k => Value.bool (usedB ds i k)).toArray
theorem Ub_get (ds : List De) {n i k : Nat} (h : k < n) : (Ub ds n i)[k]? = some (.bool (usedB ds i k)) := by simp [Ub, h]
theorem Ub_zero (ds : List De) (n : Nat) : Ub ds n 0 = madeCells #[.bool false] n := by
  apply Array.ext_getElem?
  intro k
  unfold Ub madeCells
  by_cases h : k < n
  · simp [h, usedB_zero, Nat.mod_one]
  · simp [h]
theorem Ub_set {ds : List De} {n i : Nat} (h : i < ds.length) (hn : ds[i].i < n) : (Ub ds n i).setIfInBounds ds[i].i (.bool true) = Ub ds n (i + 1) := by
  apply Array.ext_getElem?
  intro k
  rw [Array.getElem?_setIfInBounds]
  by_cases hk : ds[i].i = k
  · subst hk
    rw [if_pos rfl, if_pos (by simp [Ub, hn]), Ub_get ds hn, usedB_succ h]
    simp
  · rw [if_neg hk]
    by_cases hkn : k < n
    · rw [Ub_get ds hkn, Ub_get ds hkn, usedB_succ h, beq_eq_false_iff_ne.2 hk, Bool.or_false]
    · simp [Ub, hkn]

def dK (es : List En) (k : Nat) : De := ⟨es.getD k En.zero, k⟩
theorem dK_at {es : List En} {k : Nat} (h : k < es.length) : dK es k = ⟨es[k], k⟩ := by unfold dK; rw [List.getD_eq_getElem?_getD, List.getElem?_eq_getElem h]; rfl
theorem SortOf.dk {es : List En} {ds : List De} (h : SortOf es ds) {p : Nat} (hp : p < ds.length) : ds[p] = dK es ds[p].i ∧ ds[p].i < es.length := by
  obtain ⟨h1, h2⟩ := h.at_ p hp
  refine ⟨?_, h1⟩
  rw [dK_at h1, ← h2]
/-- where the search for the least stands: z: its place, or -1 -/
def LeastUp (es : List En) (ds : List De) (i k : Nat) (z : Int) : Prop :=
  (z = -1 ∧ ∀ j, j < k → usedB ds i j = true) ∨ ∃ b : Nat, z = b ∧ b < k ∧ usedB ds i b = false ∧ ∀ j, j < k → usedB ds i j = false → j = b ∨ Lx (dK es b) (dK es j)
theorem LeastUp.start (es : List En) (ds : List De) (i : Nat) : LeastUp es ds i 0 (-1) := .inl ⟨rfl, fun j h => by omega⟩
theorem LeastUp.skip {es : List En} {ds : List De} {i k : Nat} {z : Int} (h : LeastUp es ds i k z) (hu : usedB ds i k = true) : LeastUp es ds i (k + 1) z := by
  rcases h with ⟨e, h⟩ | ⟨b, e, hb, hub, h⟩
  · refine .inl ⟨e, fun j hj => ?_⟩
    by_cases c : j = k
    · rw [c]; exact hu
    · exact h j (by omega)
  · refine .inr ⟨b, e, by omega, hub, fun j hj hju => ?_⟩
    by_cases c : j = k
    · rw [c, hu] at hju; cases hju
    · exact h j (by omega) hju
theorem LeastUp.first {es : List En} {ds : List De} {i k : Nat} (h : LeastUp es ds i k (-1)) (hu : usedB ds i k = false) : LeastUp es ds i (k + 1) k := by
  rcases h with ⟨-, h⟩ | ⟨b, e, -⟩
  · refine .inr ⟨k, rfl, by omega, hu, fun j hj hju => ?_⟩
    by_cases c : j = k
    · exact .inl c
    · rw [h j (by omega)] at hju; cases hju
  · omega
theorem LeastUp.less {es : List En} {ds : List De} {i k b : Nat} (h : LeastUp es ds i k b) (hu : usedB ds i k = false) (hl : Kl (dK es k) (dK es b)) : LeastUp es ds i (k + 1) k := by
  rcases h with ⟨e, -⟩ | ⟨b', e, hb, hub, h⟩
  · omega
  · obtain rfl : b = b' := by omega
    refine .inr ⟨k, rfl, by omega, hu, fun j hj hju => ?_⟩
    by_cases c : j = k
    · exact .inl c
    · rcases h j (by omega) hju with rfl | h'
      · exact .inr (lx_of_kl hl)
      · exact .inr (lx_trans (lx_of_kl hl) h')
theorem LeastUp.leave {es : List En} {ds : List De} {i k b : Nat} (h : LeastUp es ds i k b) (hl : ¬ Kl (dK es k) (dK es b)) : LeastUp es ds i (k + 1) b := by
  rcases h with ⟨e, -⟩ | ⟨b', e, hb, hub, h⟩
  · omega
  · obtain rfl : b = b' := by omega
    refine .inr ⟨b, rfl, by omega, hub, fun j hj hju => ?_⟩
    by_cases c : j = k
    · rw [c]; exact .inr (lx_of_not hl hb)
    · exact h j (by omega) hju
theorem lx_irrefl (x : De) : ¬ Lx x x := by unfold Lx; omega
theorem lx_asymm {x y : De} (h : Lx x y) : ¬ Lx y x := by unfold Lx at *; omega
theorem LeastUp.done {es : List En} {ds : List De} (hS : SortOf es ds) {i : Nat} {z : Int} (hi : i < ds.length) (h : LeastUp es ds i es.length z) : z = ds[i].i ∧ ds[i].i < es.length ∧ usedB ds i ds[i].i = false ∧ es.getD ds[i].i En.zero = ds[i].e := by
  obtain ⟨e1, h1⟩ := hS.dk hi
  have hui : usedB ds i ds[i].i = false := by
    cases hu : usedB ds i ds[i].i with
    | false => rfl
    | true =>
      obtain ⟨p, hp, hpi, e⟩ := usedB_iff.1 hu
      have hl := hS.srt p i hpi hi
      rw [(hS.dk hp).1, e1, e] at hl
      exact absurd hl (lx_irrefl _)
  have h4 : es.getD ds[i].i En.zero = ds[i].e := by
    have := congrArg De.e e1
    exact this.symm
  rcases h with ⟨-, h⟩ | ⟨b, e, hb, hub, h⟩
  · rw [h _ h1] at hui; cases hui
  · refine ⟨?_, h1, hui, h4⟩
    rw [e]
    rcases h _ h1 hui with hb' | hl
    · omega
    · obtain ⟨p, hp, e2⟩ := hS.all b hb
      have hpi : ¬ p < i := fun c => by
        have := usedB_iff.2 ⟨p, hp, c, e2⟩
        rw [hub] at this; cases this
      by_cases c : p = i
      · subst c; omega
      · have hl2 := hS.srt i p (by omega) hp
        rw [(hS.dk hp).1, e1, e2] at hl2
        exact absurd hl2 (lx_asymm hl)

/-- an address's prefix of a length is one -/
theorem has_one {a b x : Nat} {n : Int} (h1 : Am.has a n x = true) (h2 : Am.has b n x = true) : a = b := by
  have r1 := has_right h1
  have r2 := has_right h2
  obtain ⟨m, hm, rfl, z1⟩ := right_len r1
  obtain ⟨m', hm', e, z2⟩ := right_len r2
  obtain rfl : m = m' := by omega
  rw [Am.has_in r1, decide_eq_true_eq] at h1
  rw [Am.has_in r2, decide_eq_true_eq] at h2
  have k1 := (Am.strip_iff a m x z1).2 h1
  have k2 := (Am.strip_iff b m x z2).2 h2
  omega
theorem look_sorted {es : List En} {ds : List De} (hS : SortOf es ds) (x : Nat) : lookB x (ds.map (·.e)) = lookB x es := by
  have h := lookB_is x es
  generalize lookB x es = r at h
  symm
  refine IsLook.eq (l := ds.map (·.e)) ?_
  have ge : ∀ k (hk : k < ds.length), (ds.map (·.e))[k]'(by simpa using hk) = ds[k].e := fun k hk => by simp
  rcases h with ⟨h, e⟩ | ⟨i, hi, hk, e, hg, h⟩
  · refine .inl ⟨fun j hj _ => ?_, e⟩
    have hj' : j < ds.length := by simpa using hj
    obtain ⟨h1, h2⟩ := hS.at_ j hj'
    rw [ge j hj', h2]
    exact h _ h1 h1
  · obtain ⟨p, hp, ep⟩ := hS.all i hi
    obtain ⟨h1, h2⟩ := hS.at_ p hp
    have hpe : ds[p].e = r := by rw [h2, ← e]; congr 1
    refine .inr ⟨p, by simpa using hp, by simpa using hp, by rw [ge p hp]; exact hpe, hg, fun j hj _ hgj => ?_⟩
    have hj' : j < ds.length := by simpa using hj
    rw [ge j hj'] at hgj ⊢
    obtain ⟨h3, h4⟩ := hS.at_ j hj'
    have h5 := h _ h3 h3 (by rw [← h4]; exact hgj)
    rw [← h4] at h5
    rcases h5 with h5 | ⟨h5, h6⟩
    · exact .inl h5
    · refine .inr ⟨h5, ?_⟩
      rcases Nat.lt_or_ge j p with c | c
      · exfalso
        have hl := hS.srt j p c hp
        have ha : ds[j].e.a = ds[p].e.a := has_one (n := ds[j].e.n) (good_has hgj) (by rw [hpe, h5]; exact good_has hg)
        have hn : ds[j].e.n = ds[p].e.n := by rw [hpe]; exact h5
        unfold Lx at hl
        omega
      · exact c
end Go.Proofs.Ytblhijgjidfioaa
