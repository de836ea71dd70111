/-
  A row of structs that a sort has turned. No program's own text in sight.
-/
import Derived.Test.YtblhijgjidfioaaCmpQ
namespace Go.Proofs.Ytblhijgjidfioaa
open Go.RowKit Go.Sort

section
variable {α : Type} [Inhabited α] {cl : α → List Value} {k : Nat}

theorem flat_get (hk : ∀ x, (cl x).length = k) : ∀ (xs : List α) (j : Nat), j < xs.length * k → (xs.flatMap cl)[j]? = (cl xs[j / k]!)[j % k]?
  | [], j, h => by simp at h
  | x :: r, j, h => by
    have hk0 : 0 < k := by
      rcases Nat.eq_zero_or_pos k with h0 | h0
      · subst h0; simp at h
      · exact h0
    rw [List.flatMap_cons]
    by_cases hj : j < k
    · rw [List.getElem?_append_left (by rw [hk]; exact hj), Nat.div_eq_of_lt hj, Nat.mod_eq_of_lt hj]
      rfl
    · have hj' : k ≤ j := Nat.le_of_not_lt hj
      have h' : j - k < r.length * k := by rw [List.length_cons, Nat.add_mul, Nat.one_mul] at h; omega
      rw [List.getElem?_append_right (by rw [hk]; exact hj'), hk, flat_get hk r (j - k) h']
      have e1 : j / k = (j - k) / k + 1 := by
        have : j = (j - k) + k := by omega
        conv => lhs; rw [this]
        exact Nat.add_div_right _ hk0
      have e2 : j % k = (j - k) % k := by
        have : j = (j - k) + k := by omega
        conv => lhs; rw [this]
        exact Nat.add_mod_right _ _
      rw [e1, e2]
      simp

/-- a slice of structs: its elements lie one behind the other -/
def Row (cl : α → List Value) (k : Nat) (w : World) (v : Value) (xs : List α) : Prop :=
  (v = .slice none 0 0 ∧ xs = []) ∨ ∃ g cap, v = .slice (some ⟨g, 0, none⟩) xs.length cap ∧ xs.length ≤ cap ∧ cap ≤ maxLen ∧ ∀ i (h : i < xs.length) j, j < k → w.cell? ⟨g, i * k + j, none⟩ = (cl xs[i])[j]?
omit [Inhabited α] in
theorem Row.slice {w : World} {v : Value} {xs : List α} (h : Row cl k w v xs) : ∃ p n c, v = .slice p n c := by
  rcases h with ⟨rfl, -⟩ | ⟨g, cap, rfl, -⟩
  · exact ⟨_, _, _, rfl⟩
  · exact ⟨_, _, _, rfl⟩

theorem bnd_at {i j n k : Nat} (hi : i < n) (hj : j < k) : i * k + j < n * k := by
  have := Nat.mul_le_mul_right k (show i + 1 ≤ n from hi)
  rw [Nat.add_mul, Nat.one_mul] at this
  omega
theorem getB {l : List Value} {j : Nat} (h : j < l.length) : l[j]? = some (l[j]!) := by rw [List.getElem?_eq_getElem h]; simp [h]
theorem Row.of_owns {w : World} {base : Nat} {e : TypeId} {v : Value} {xs : List α} (hk : ∀ x, (cl x).length = k) (h : w.ownsRow base e k v xs.length (xs.flatMap cl)) : Row cl k w v xs := by
  rcases h.2 with ⟨rfl, h0⟩ | ⟨g, cap, cur, rfl, -, hb, h1, h2, h3, h4⟩
  · exact .inl ⟨rfl, List.eq_nil_of_length_eq_zero h0⟩
  · refine .inr ⟨g, cap, rfl, h1, h2, fun i hi j hj => ?_⟩
    have hj2 : i * k + j < xs.length * k := bnd_at hi hj
    have e1 : (xs.flatMap cl)[i * k + j]? = (cl xs[i])[j]? := by
      have hk0 : 0 < k := by omega
      rw [flat_get hk xs _ hj2, show (i * k + j) / k = i from by rw [Nat.mul_comm, Nat.mul_add_div hk0, Nat.div_eq_of_lt hj]; rfl, show (i * k + j) % k = j from by rw [Nat.mul_comm, Nat.mul_add_mod, Nat.mod_eq_of_lt hj]]
      simp [hi]
    rw [← e1, ← h4]
    simp only [World.cell?, hb]
    rw [List.getElem?_take_of_lt (by exact hj2)]
    simp

theorem holdsK_of_owns {w : World} {g : Nat} {cur : Array Value} {e : TypeId} {xs : List α} (hk : ∀ x, (cl x).length = k) (hb : w.heap[g]? = some (.cells cur e (0, 0))) (h4 : cur.toList.take (xs.length * k) = xs.flatMap cl) : HoldsK cl k w g 0 xs.toArray := by
  intro j hj
  have hj : j < xs.length * k := by simpa using hj
  have e1 : (xs.flatMap cl)[j]? = some ((flatK cl k xs.toArray)[j]!) := by
    rw [get_flatK _ _ _ _ (by simpa using hj), flat_get hk xs j hj]
    have hk0 : 0 < k := by
      rcases Nat.eq_zero_or_pos k with h0 | h0
      · subst h0; simp at hj
      · exact h0
    have hl : j % k < (cl xs[j / k]!).length := by rw [hk]; exact Nat.mod_lt _ hk0
    rw [getB hl]
    simp
  refine ⟨?_, by simp [World.frozen?, hb]⟩
  show w.cell? ⟨g, 0 + j, none⟩ = some _
  rw [Nat.zero_add]
  show _ = some ((flatK cl k xs.toArray)[j]!)
  rw [← e1, ← h4, List.getElem?_take_of_lt hj]
  simp [World.cell?, hb]

theorem grownBy_sortK {w : World} {g n : Nat} {os : Array Obj} (d : Array α) : w.grownBy (sortWorldK cl k w g 0 n d os) (some g) := by
  unfold sortWorldK
  refine ⟨rfl, rfl, rfl, by rw [size_grow, size_putRowK]; exact Nat.le_add_right _ _, fun i hi hne => ?_⟩
  rw [heap_grow_old _ _ (by rw [size_putRowK]; exact hi)]
  show (Array.modify _ g _)[i]? = _
  rw [Array.getElem?_modify, if_neg (fun e => hne (by rw [e]))]
  rfl

theorem Row.of_holds {w : World} {g cap : Nat} {d : Array α} (hk : ∀ x, (cl x).length = k) (h : HoldsK cl k w g 0 d) (h1 : d.size ≤ cap) (h2 : cap ≤ maxLen) : Row cl k w (.slice (some ⟨g, 0, none⟩) d.size cap) d.toList := by
  refine .inr ⟨g, cap, by simp, by simpa using h1, h2, fun i hi j hj => ?_⟩
  have hi' : i < d.size := by simpa using hi
  have := (h.cell hi' hj).1
  rw [Nat.zero_add] at this
  have hl : j < (cl d[i]!).length := by rw [hk]; exact hj
  rw [this, show d.toList[i] = d[i]! from by simp [hi'], getB hl]
omit [Inhabited α] in
theorem Row.keep {w w' : World} {v : Value} {xs : List α} {L : List Nat} (h : Row cl k w v xs) (hK : Keep L w w') (hL : ∀ b, v.ownBlock = some b → b ∈ L) : Row cl k w' v xs := by
  rcases h with ⟨rfl, rfl⟩ | ⟨g, cap, rfl, h1, h2, h3⟩
  · exact .inl ⟨rfl, rfl⟩
  · exact .inr ⟨g, cap, rfl, h1, h2, fun i hi j hj => by rw [World.cell?_of_block (hK g (hL g rfl))]; exact h3 i hi j hj⟩

theorem sorted_pairs {lt : α → α → Bool} {d : Array α} (h : SortedIn lt 0 d.size d) : d.toList.Pairwise fun x y => lt y x = false := by
  rw [List.pairwise_iff_getElem]
  intro i j hi hj hij
  have := h i j (Nat.zero_le _) hij (by simpa using hj)
  simp only [Array.length_toList] at hi hj
  simpa [hi, hj] using this
theorem perm_lists {d d' : Array α} (h : PermIn 0 d.size d d') : d'.toList.Perm d.toList := by
  have h3 := h.2.2
  rw [← h.1] at h3
  have e : d'.extract 0 d'.size = d' := by simp
  rw [e, h.1] at h3
  simpa using h3
end

/-- the blocks of an iterator over a map in order -/
def itL (B1 B2 : Nat) (v : Value) (o : Option Nat) : List Nat := B1 :: B2 :: (v.ownBlock.toList ++ o.toList)
theorem mem_itL {B1 B2 : Nat} {v : Value} {o : Option Nat} {b : Nat} : b ∈ itL B1 B2 v o ↔ b = B1 ∨ b = B2 ∨ v.ownBlock = some b ∨ o = some b := by
  unfold itL
  simp [eq_comm]
end Go.Proofs.Ytblhijgjidfioaa
