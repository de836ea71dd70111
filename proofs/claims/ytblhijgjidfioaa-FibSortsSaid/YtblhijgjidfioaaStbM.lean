/-
  Plain mathematics of a sort that keeps the order of equals: entries with their places; rotations; merging. No program in sight.
-/
import Derived.Test.YtblhijgjidfioaaFibM
import Derived.Test.YtblhijgjidfioaaAddrOrdM
import Derived.Sort.LotA
import Derived.Shelf.SlSortCmp.Insertion
namespace Go.Proofs.Ytblhijgjidfioaa
namespace Sb
open Go.Sort Fm

/-- an entry, and where it stood -/
structure De where
  e : En
  i : Nat
instance : Inhabited De := ⟨⟨En.zero, 0⟩⟩
def cf (x y : De) : Int := Om.pcmp x.e.a x.e.n y.e.a y.e.n
/-- the order of the keys -/
def Kl (x y : De) : Prop := x.e.a < y.e.a ∨ x.e.a = y.e.a ∧ x.e.n < y.e.n
/-- .. and of the places, where the keys are the same -/
def Lx (x y : De) : Prop := x.e.a < y.e.a ∨ x.e.a = y.e.a ∧ (x.e.n < y.e.n ∨ x.e.n = y.e.n ∧ x.i < y.i)
instance (x y : De) : Decidable (Lx x y) := by unfold Lx; infer_instance
instance (x y : De) : Decidable (Kl x y) := by unfold Kl; infer_instance
theorem cf_lt (x y : De) : cf x y < 0 ↔ Kl x y := by
  unfold cf Om.pcmp or2 cmpI Kl
  split <;> (try split) <;> (try split) <;> (try split) <;> omega
theorem cf_dec (x y : De) : ltOf cf x y = decide (Kl x y) := by
  unfold ltOf
  exact decide_eq_decide.2 (cf_lt x y)
def lxB (x y : De) : Bool := decide (Lx x y)
theorem swoLx : SWO lxB where
  irrefl x := decide_eq_false (by unfold Lx; omega)
  trans x y z h1 h2 := by simp only [lxB, decide_eq_true_eq] at *; unfold Lx at *; omega
  ntrans x y z h1 h2 := by simp only [lxB, decide_eq_false_iff_not] at *; unfold Lx at *; omega
theorem lx_of_kl {x y : De} (h : Kl x y) : Lx x y := by unfold Kl at h; unfold Lx; omega
theorem lx_of_not {x y : De} (h : ¬ Kl y x) (hi : x.i < y.i) : Lx x y := by unfold Kl at h; unfold Lx; omega
theorem lx_trans {x y z : De} (h1 : Lx x y) (h2 : Lx y z) : Lx x z := by unfold Lx at *; omega
theorem lx_not_kl {x y : De} (h : Lx x y) : ¬ Kl y x := by unfold Lx at h; unfold Kl; omega

/-- in order from a on, ahead of b -/
def Srt (a b : Nat) (d : Array De) : Prop := ∀ i j, a ≤ i → i < j → j < b → Lx d[i]! d[j]!
def Aft (a m b : Nat) (d : Array De) : Prop := ∀ i j, a ≤ i → i < m → m ≤ j → j < b → d[i]!.i < d[j]!.i
structure Mer (a m b : Nat) (d : Array De) : Prop where
  l : Srt a m d
  r : Srt m b d
  aft : Aft a m b d
/-- d' is d with [a, m) and [m, b) exchanged -/
structure Rot (a m b : Nat) (d d' : Array De) : Prop where
  perm : PermIn a b d d'
  fst : ∀ i, a ≤ i → i < a + (b - m) → d'[i]! = d[i + (m - a)]!
  snd : ∀ i, a + (b - m) ≤ i → i < b → d'[i]! = d[i - (b - m)]!
theorem Rot.none {a m b : Nat} {d : Array De} (hm : a ≤ m) (hb : m ≤ b) (h : a = m ∨ m = b) : Rot a m b d d :=
  ⟨permIn_refl _ _ _, fun i h1 h2 => by congr 1; omega, fun i h1 h2 => by congr 1; omega⟩

theorem Srt.sub {a b a' b' : Nat} {d : Array De} (h : Srt a b d) (ha : a ≤ a') (hb : b' ≤ b) : Srt a' b' d := fun i j h1 h2 h3 => h i j (by omega) h2 (by omega)
theorem Srt.same {a b : Nat} {d d' : Array De} (h : Srt a b d) (he : ∀ i, a ≤ i → i < b → d'[i]! = d[i]!) : Srt a b d' := fun i j h1 h2 h3 => by rw [he i h1 (by omega), he j (by omega) h3]; exact h i j h1 h2 h3
theorem Srt.glue {a m b : Nat} {d : Array De} (h1 : Srt a m d) (h2 : Srt m b d) (h : ∀ i j, a ≤ i → i < m → m ≤ j → j < b → Lx d[i]! d[j]!) : Srt a b d := fun i j hi hij hj => by
  by_cases c1 : j < m
  · exact h1 i j hi hij c1
  · by_cases c2 : m ≤ i
    · exact h2 i j c2 hij hj
    · exact h i j hi (by omega) (by omega) hj
/-- the step of a merge -/
structure Step (a s m t b mid : Nat) (d d' : Array De) : Prop where
  perm : PermIn a b d d'
  l : Mer a s mid d'
  r : Mer mid t b d'
  lt : ∀ i j, a ≤ i → i < mid → mid ≤ j → j < b → Lx d'[i]! d'[j]!
theorem merge_step {a s m t b mid : Nat} {d d' : Array De} (h : Mer a m b d) (hR : Rot s m t d d') (h1 : a ≤ s) (h2 : s ≤ m) (h3 : m ≤ t) (h4 : t ≤ b) (hb : b ≤ d.size) (hmid : s + t = mid + m)
    (hu : s = a ∨ t = b ∨ ¬ Kl d[t]! d[s - 1]!) (hv : s = m ∨ t = m ∨ Kl d[t - 1]! d[s]!) : Step a s m t b mid d d' := by
  have out : ∀ i, i < s ∨ t ≤ i → d'[i]! = d[i]! := hR.perm.2.1
  have f1 : ∀ i, s ≤ i → i < mid → d'[i]! = d[i + (m - s)]! := fun i h5 h6 => hR.fst i h5 (by omega)
  have f2 : ∀ i, mid ≤ i → i < t → d'[i]! = d[i - (mid - s)]! := fun i h5 h6 => by rw [hR.snd i (by omega) h6]; congr 1; omega
  -- u ≤ v
  have uv : ∀ i j, a ≤ i → i < s → t ≤ j → j < b → Lx d[i]! d[j]! := fun i j h5 h6 h7 h8 => by
    have hu' : ¬ Kl d[t]! d[s - 1]! := by rcases hu with hu | hu | hu <;> first | exact hu | omega
    have k1 : Lx d[s - 1]! d[t]! := lx_of_not hu' (h.aft (s - 1) t (by omega) (by omega) (by omega) (by omega))
    have k2 : Lx d[i]! d[t]! := by
      by_cases e : i = s - 1
      · rw [e]; exact k1
      · exact lx_trans (h.l i (s - 1) h5 (by omega) (by omega)) k1
    by_cases e : j = t
    · rw [e]; exact k2
    · exact lx_trans k2 (h.r t j (by omega) (by omega) h8)
  -- v' < u'
  have vu : ∀ i j, m ≤ i → i < t → s ≤ j → j < m → Lx d[i]! d[j]! := fun i j h5 h6 h7 h8 => by
    have hv' : Kl d[t - 1]! d[s]! := by rcases hv with hv | hv | hv <;> first | exact hv | omega
    have k1 : Lx d[t - 1]! d[s]! := lx_of_kl hv'
    have k2 : Lx d[i]! d[s]! := by
      by_cases e : i = t - 1
      · rw [e]; exact k1
      · exact lx_trans (h.r i (t - 1) h5 (by omega) (by omega)) k1
    by_cases e : j = s
    · rw [e]; exact k2
    · exact lx_trans k2 (h.l s j (by omega) (by omega) h8)
  refine ⟨permIn_mono _ _ _ _ _ _ h1 h4 hb hR.perm, ⟨?_, ?_, ?_⟩, ⟨?_, ?_, ?_⟩, ?_⟩
  · exact (h.l.sub (Nat.le_refl _) h2).same fun i h5 h6 => out i (.inl h6)
  · intro i j h5 h6 h7
    rw [f1 i h5 (by omega), f1 j (by omega) h7]
    exact h.r _ _ (by omega) (by omega) (by omega)
  · intro i j h5 h6 h7 h8
    rw [out i (.inl h6), f1 j h7 h8]
    exact h.aft _ _ h5 (by omega) (by omega) (by omega)
  · intro i j h5 h6 h7
    rw [f2 i h5 (by omega), f2 j (by omega) h7]
    exact h.l _ _ (by omega) (by omega) (by omega)
  · exact (h.r.sub h3 (Nat.le_refl _)).same fun i h5 h6 => out i (.inr h5)
  · intro i j h5 h6 h7 h8
    rw [f2 i h5 h6, out j (.inr h7)]
    exact h.aft _ _ (by omega) (by omega) (by omega) h8
  · intro i j h5 h6 h7 h8
    by_cases c1 : i < s
    · rw [out i (.inl c1)]
      by_cases c2 : j < t
      · rw [f2 j h7 c2]
        exact h.l _ _ h5 (by omega) (by omega)
      · rw [out j (.inr (by omega))]
        exact uv i j h5 c1 (by omega) h8
    · rw [f1 i (by omega) h6]
      by_cases c2 : j < t
      · rw [f2 j h7 c2]
        exact vu _ _ (by omega) (by omega) (by omega) (by omega)
      · rw [out j (.inr (by omega))]
        exact h.r _ _ (by omega) (by omega) h8
/-- a permutation of either part keeps what is so of each -/
theorem lt_perm {a mid b : Nat} {d d1 d2 : Array De} (hm : mid ≤ d.size) (hb : b ≤ d.size) (h : ∀ i j, a ≤ i → i < mid → mid ≤ j → j < b → Lx d[i]! d[j]!) (p1 : PermIn a mid d d1) (p2 : PermIn mid b d1 d2) :
    ∀ i j, a ≤ i → i < mid → mid ≤ j → j < b → Lx d2[i]! d2[j]! := by
  have s1 : d1.size = d.size := p1.1
  have k1 : ∀ i, a ≤ i → i < mid → ∀ j, mid ≤ j → j < b → Lx d1[i]! d1[j]! := by
    intro i h1 h2 j h3 h4
    rw [p1.2.1 j (.inr h3)]
    exact permIn_all d d1 a mid (fun x => Lx x d[j]!) hm p1 (fun i h1 h2 => h i j h1 h2 h3 h4) i h1 h2
  intro i j h1 h2 h3 h4
  rw [p2.2.1 i (.inl h2)]
  exact permIn_all d1 d2 mid b (fun y => Lx d1[i]! y) (by omega) p2 (fun j h3 h4 => k1 i h1 h2 j h3 h4) j h3 h4
/-- two parts that are in order already -/
theorem Mer.done {a m b : Nat} {d : Array De} (h : Mer a m b d) (hk : a = m ∨ m = b ∨ ¬ Kl d[m]! d[m - 1]!) : Srt a b d := by
  refine h.l.glue h.r fun i j h1 h2 h3 h4 => ?_
  have hk' : ¬ Kl d[m]! d[m - 1]! := by rcases hk with hk | hk | hk <;> first | exact hk | omega
  have k1 : Lx d[m - 1]! d[m]! := lx_of_not hk' (h.aft _ _ (by omega) (by omega) (by omega) (by omega))
  have k2 : Lx d[i]! d[m]! := by
    by_cases e : i = m - 1
    · rw [e]; exact k1
    · exact lx_trans (h.l i (m - 1) h1 (by omega) (by omega)) k1
  by_cases e : j = m
  · rw [e]; exact k2
  · exact lx_trans k2 (h.r m j (Nat.le_refl _) (by omega) h4)

/-! ### insertion: what comes later is put behind its equals -/
theorem inner_keep (lt : De → De → Bool) (a : Nat) : ∀ (j : Nat) (d : Array De), j < d.size → (insInner lt a j d).size = d.size ∧ (∀ p, j < p → (insInner lt a j d)[p]! = d[p]!) ∧
    ∀ Q : De → Prop, (∀ p, a ≤ p → p ≤ j → Q d[p]!) → ∀ p, a ≤ p → p ≤ j → Q (insInner lt a j d)[p]!
  | 0, d, _ => ⟨rfl, fun _ _ => rfl, fun _ h => h⟩
  | j + 1, d, hj => by
    unfold insInner
    split
    · rename_i hc
      have hja : j + 1 > a := by simp only [Bool.and_eq_true, decide_eq_true_eq] at hc; exact hc.1
      obtain ⟨k1, k2, k3⟩ := inner_keep lt a j (swp d (j + 1) j) (by rw [size_swp]; omega)
      refine ⟨by rw [k1, size_swp], fun p hp => by rw [k2 p (by omega), swp_other d _ _ p (by omega) (by omega)], fun Q hQ p h1 h2 => ?_⟩
      by_cases e : p = j + 1
      · rw [e, k2 (j + 1) (by omega), swp_left d _ _ (by omega) (by omega)]
        exact hQ j (by omega) (by omega)
      · refine k3 Q (fun q h3 h4 => ?_) p h1 (by omega)
        by_cases e2 : q = j
        · rw [e2, swp_right d _ _ (by omega)]; exact hQ _ (by omega) (by omega)
        · rw [swp_other d _ _ q (by omega) (by omega)]; exact hQ q h3 (by omega)
    · exact ⟨rfl, fun _ _ => rfl, fun _ h => h⟩
theorem inner_lex (a : Nat) : ∀ (j : Nat) (d : Array De), j < d.size → (∀ p, a ≤ p → p < j → d[p]!.i < d[j]!.i) → insInner (ltOf cf) a j d = insInner lxB a j d
  | 0, _, _, _ => rfl
  | j + 1, d, hj, h => by
    unfold insInner
    by_cases hja : j + 1 > a
    · have hi := h j (by omega) (by omega)
      have e : ltOf cf d[j + 1]! d[j]! = lxB d[j + 1]! d[j]! := by
        rw [cf_dec]
        exact decide_eq_decide.2 ⟨lx_of_kl, fun hl => by unfold Lx at hl; unfold Kl; omega⟩
      rw [e]
      rw [inner_lex a j (swp d (j + 1) j) (by rw [size_swp]; omega) fun p h1 h2 => by
        rw [swp_right d _ _ (by omega), swp_other d _ _ p (by omega) (by omega)]
        exact h p h1 (by omega)]
    · simp [hja]
theorem outer_lex (a b : Nat) : ∀ (n i : Nat) (d : Array De), b - i = n → a < i → b ≤ d.size → (∀ p q, a ≤ p → p < q → i ≤ q → q < b → d[p]!.i < d[q]!.i) → insOuter (ltOf cf) a b i d = insOuter lxB a b i d := by
  intro n
  induction n with
  | zero =>
    intro i d hn hi hb h
    rw [insOuter.eq_1 (ltOf cf), insOuter.eq_1 lxB, if_neg (by omega), if_neg (by omega)]
  | succ n ih =>
    intro i d hn hi hb h
    rw [insOuter.eq_1 (ltOf cf), insOuter.eq_1 lxB]
    rw [if_pos (by omega), if_pos (by omega)]
    rw [inner_lex a i d (by omega) fun p h1 h2 => h p i h1 h2 (Nat.le_refl _) (by omega)]
    obtain ⟨k1, k2, k3⟩ := inner_keep lxB a i d (by omega)
    refine ih (i + 1) _ (by omega) (by omega) (by rw [k1]; exact hb) fun p q h1 h2 h3 h4 => ?_
    rw [k2 q (by omega)]
    by_cases c : p ≤ i
    · exact k3 (fun x => x.i < d[q]!.i) (fun p h1 h2 => h p q h1 (by omega) (by omega) h4) p h1 c
    · rw [k2 p (by omega)]
      exact h p q h1 h2 (by omega) h4
/-- places that are all different stay so -/
theorem perm_ne {d d' : Array De} {a b : Nat} (hb : b ≤ d.size) (hp : PermIn a b d d') (h : ∀ p q, a ≤ p → p < q → q < b → d[p]!.i ≠ d[q]!.i) : ∀ p q, a ≤ p → p < q → q < b → d'[p]!.i ≠ d'[q]!.i := by
  have hb' : b ≤ d'.size := by rw [hp.1]; exact hb
  have h1 : (d.extract a b).toList.Pairwise fun x y => x.i ≠ y.i := by
    rw [extract_toList d a b hb, List.pairwise_iff_getElem]
    intro i j hi hj hij
    simp only [List.length_map, List.length_range'] at hi hj
    simp only [List.getElem_map, List.getElem_range', Nat.one_mul]
    exact h _ _ (by omega) (by omega) (by omega)
  have h2 : (d'.extract a b).toList.Pairwise fun x y => x.i ≠ y.i := hp.2.2.symm.pairwise h1 (fun {x y} e => Ne.symm e)
  rw [extract_toList d' a b hb', List.pairwise_iff_getElem] at h2
  intro p q h3 h4 h5
  have k := h2 (p - a) (q - a) (by simp; omega) (by simp; omega) (by omega)
  simp only [List.getElem_map, List.getElem_range', Nat.one_mul] at k
  rw [show a + (p - a) = p by omega, show a + (q - a) = q by omega] at k
  exact k
theorem ins_done {d : Array De} {a b : Nat} (hab : a ≤ b) (hb : b ≤ d.size) (h : ∀ p q, a ≤ p → p < q → q < b → d[p]!.i < d[q]!.i) :
    PermIn a b d (Sort.insertionSort (ltOf cf) d a b) ∧ Srt a b (Sort.insertionSort (ltOf cf) d a b) := by
  have e : Sort.insertionSort (ltOf cf) d a b = Sort.insertionSort lxB d a b := outer_lex a b _ (a + 1) d rfl (by omega) hb fun p q h1 h2 _ h4 => h p q h1 h2 h4
  rw [e]
  have hp := insertionSort_holds (lt := lxB) swoLx d a b hab hb
  refine ⟨hp.1, fun i j h1 h2 h3 => ?_⟩
  have k := hp.2 i j h1 h2 h3
  have hne : (Sort.insertionSort lxB d a b)[i]!.i ≠ (Sort.insertionSort lxB d a b)[j]!.i := perm_ne hb hp.1 (fun p q h1 h2 h3 => by have := h p q h1 h2 h3; omega) i j h1 h2 h3
  simp only [lxB, decide_eq_false_iff_not] at k
  unfold Lx at *
  omega
end Sb
end Go.Proofs.Ytblhijgjidfioaa
