/-
  Plain mathematics of datagrams: what can be told, its bytes, and back. No program in sight.
-/
import Derived.Test.YtpdbaediepofjaaAddrM
namespace Go.Proofs.Ytpdbaediepofjaa.Tm

/-- what a router tells -/
structure Up where
  a : Nat
  len : Int
  id : Nat
  seq : Nat
  met : Nat
deriving DecidableEq
structure Up.Fits (u : Up) : Prop where
  a : u.a < 4294967296
  n1 : -9223372036854775808 ≤ u.len
  n2 : u.len ≤ 9223372036854775807
  id : u.id < 4294967296
  seq : u.seq < 4294967296
  met : u.met < 65536
/-- can it be told? -/
def right (u : Up) : Bool := Am.right u.a u.len && decide (u.seq ≤ 1073741824) && (if u.met = 65535 then u.id == 0 && u.seq == 0 else u.id != 0)

def four (n : Nat) : List Nat := [n / 16777216 % 256, n / 65536 % 256, n / 256 % 256, n % 256]
def two (n : Nat) : List Nat := [n / 256 % 256, n % 256]
/-- how many bytes n bits take -/
def nb (n : Nat) : Nat := (n + 7) / 8
def body (u : Up) : List Nat := u.len.toNat :: (four u.seq ++ two u.met ++ (four u.a).take (nb u.len.toNat))
def parts (u : Up) (id : Nat) : List Nat := (if u.id = id then [] else 2 :: 4 :: four u.id) ++ 3 :: (7 + nb u.len.toNat) :: body u
def page (b : List Nat) : List Nat := 87 :: 1 :: (two b.length ++ b)
/-- the datagrams without their heads, where cur is under way (none, if it is empty) and id was named last -/
def pages (cur : List Nat) (id : Nat) : List Up → List (List Nat)
  | [] => if cur = [] then [] else [cur]
  | u :: r =>
    if right u = false then pages cur id r
    else if 1024 < cur.length + (parts u id).length + 4 then cur :: pages (parts u 0) u.id r
    else pages (cur ++ parts u id) u.id r
def encode (l : List Up) : List (List Nat) := (pages [] 0 l).map page

def val (b : List Nat) : Nat := b.foldl (fun s c => s * 256 + c) 0
/-- what a distance's body tells -/
def told (x : List Nat) (id : Nat) : Option Up :=
  if x.length < 7 then none
  else if x.length ≠ 7 + nb (x.getD 0 0) then none
  else
    let u : Up := ⟨val ((x.drop 7 ++ [0, 0, 0, 0]).take 4), x.getD 0 0, if val ((x.drop 5).take 2) = 65535 then 0 else id, val ((x.drop 1).take 4), val ((x.drop 5).take 2)⟩
    if right u then some u else none
def walk (id : Nat) (b : List Nat) : Option (List Up) :=
  match b with
  | [] => some []
  | k :: r =>
    if k = 0 then walk id r
    else match r with
      | [] => none
      | n :: r => if r.length < n then none else
        let id' := if k = 2 ∧ n = 4 then val (r.take n) else id
        (walk id' (r.drop n)).map fun l => (if k = 3 then (told (r.take n) id').toList else []) ++ l
termination_by b.length
decreasing_by all_goals simp_all; try omega
def headed (b : List Nat) : Bool := decide (4 ≤ b.length ∧ b.length ≤ 1024 ∧ b.getD 0 0 = 87 ∧ b.getD 1 0 = 1 ∧ b.getD 2 0 * 256 + b.getD 3 0 = b.length - 4)
def decode (b : List Nat) : Option (List Up) := if headed b then walk 0 (b.drop 4) else none

/-! ### facts -/
theorem right_len {u : Up} (h : right u = true) : 0 ≤ u.len ∧ u.len ≤ 32 := by
  unfold right Am.right at h
  simp only [Bool.and_eq_true, decide_eq_true_eq] at h
  exact h.1.1.1
theorem right_seq {u : Up} (h : right u = true) : u.seq ≤ 1073741824 := by
  unfold right at h
  simp only [Bool.and_eq_true, decide_eq_true_eq] at h
  exact h.1.2
theorem right_am {u : Up} (h : right u = true) : Am.right u.a u.len = true := by
  unfold right at h
  simp only [Bool.and_eq_true] at h
  exact h.1.1
theorem right_id {u : Up} (h : right u = true) : (if u.met = 65535 then 0 else u.id) = u.id := by
  unfold right at h
  simp only [Bool.and_eq_true] at h
  have h2 := h.2
  split at h2
  · simp only [Bool.and_eq_true, beq_iff_eq] at h2
    rw [if_pos (by assumption), h2.1]
  · rw [if_neg (by assumption)]
theorem four_length (n : Nat) : (four n).length = 4 := rfl
theorem two_length (n : Nat) : (two n).length = 2 := rfl
theorem four_lt (n : Nat) : ∀ c ∈ four n, c < 256 := by
  intro c hc
  simp only [four, List.mem_cons, List.not_mem_nil, or_false] at hc
  omega
theorem two_lt (n : Nat) : ∀ c ∈ two n, c < 256 := by
  intro c hc
  simp only [two, List.mem_cons, List.not_mem_nil, or_false] at hc
  omega
theorem nb_le {n : Nat} (h : n ≤ 32) : nb n ≤ 4 := by unfold nb; omega
theorem body_length {u : Up} (h : right u = true) : (body u).length = 7 + nb u.len.toNat := by
  have := right_len h
  have := nb_le (n := u.len.toNat) (by omega)
  simp only [body, List.length_cons, List.length_append, four_length, two_length, List.length_take]
  omega
theorem body_lt {u : Up} (h : right u = true) : ∀ c ∈ body u, c < 256 := by
  intro c hc
  have := right_len h
  simp only [body, List.mem_cons, List.mem_append] at hc
  rcases hc with rfl | (hc | hc) | hc
  · omega
  · exact four_lt _ c hc
  · exact two_lt _ c hc
  · exact four_lt _ c (List.mem_of_mem_take hc)
theorem parts_lt {u : Up} (h : right u = true) (id : Nat) : ∀ c ∈ parts u id, c < 256 := by
  intro c hc
  have := right_len h
  have := nb_le (n := u.len.toNat) (by omega)
  simp only [parts, List.mem_append, List.mem_cons] at hc
  rcases hc with hc | rfl | rfl | hc
  · split at hc
    · simp at hc
    · simp only [List.mem_cons] at hc
      rcases hc with rfl | rfl | hc
      · omega
      · omega
      · exact four_lt _ c hc
  · omega
  · omega
  · exact body_lt h c hc
theorem parts_le {u : Up} (h : right u = true) (id : Nat) : (parts u id).length ≤ 19 := by
  have := right_len h
  have := nb_le (n := u.len.toNat) (by omega)
  have := body_length h
  unfold parts
  split <;> simp [four_length] <;> omega
theorem parts_ne (u : Up) (id : Nat) : parts u id ≠ [] := by unfold parts; split <;> simp

theorem val_four (n : Nat) (h : n < 4294967296) : val (four n) = n := by simp only [val, four, List.foldl]; omega
theorem val_two (n : Nat) (h : n < 65536) : val (two n) = n := by simp only [val, two, List.foldl]; omega
/-- the bytes that are left out are noughts -/
theorem pad_four {a n : Nat} (ha : a < 4294967296) (hn : n ≤ 32) (h : a % 2 ^ (32 - n) = 0) : val (((four a).take (nb n) ++ [0, 0, 0, 0]).take 4) = a := by
  have e : (four a).take (nb n) ++ (four a).drop (nb n) = four a := List.take_append_drop _ _
  have hd : ((four a).take (nb n) ++ [0, 0, 0, 0]).take 4 = four a := by
    have hk : nb n = 0 ∨ nb n = 1 ∨ nb n = 2 ∨ nb n = 3 ∨ nb n = 4 := by have := nb_le hn; omega
    have hdv : ∀ k, n ≤ k → k ≤ 32 → 2 ^ (32 - k) ∣ a := fun k h1 h2 => Nat.dvd_trans (Nat.pow_dvd_pow 2 (by omega)) (Nat.dvd_of_mod_eq_zero h)
    rcases hk with hk | hk | hk | hk | hk
    · have := hdv 0 (by unfold nb at hk; omega) (by omega)
      obtain ⟨q, hq⟩ := this
      rw [hk]; simp [four]; omega
    · have := hdv 8 (by unfold nb at hk; omega) (by omega)
      obtain ⟨q, hq⟩ := this
      rw [hk]; simp [four]; omega
    · have := hdv 16 (by unfold nb at hk; omega) (by omega)
      obtain ⟨q, hq⟩ := this
      rw [hk]; simp [four]; omega
    · have := hdv 24 (by unfold nb at hk; omega) (by omega)
      obtain ⟨q, hq⟩ := this
      rw [hk]; simp [four]; omega
    · rw [hk]; simp [four]
  rw [hd, val_four a ha]
theorem told_body {u : Up} (h : right u = true) (hf : u.Fits) : told (body u) u.id = some u := by
  have hl := right_len h
  have hb := body_length h
  have hid := right_id h
  have ha := right_am h
  have hseq := val_four u.seq hf.seq
  have hmet := val_two u.met hf.met
  obtain ⟨n, hn⟩ := Int.eq_ofNat_of_zero_le hl.1
  have hn32 : n ≤ 32 := by omega
  have h0 : (body u).getD 0 0 = u.len.toNat := by simp [body]
  have e1 : ((body u).drop 1).take 4 = four u.seq := rfl
  have e2 : ((body u).drop 5).take 2 = two u.met := rfl
  have e3 : (body u).drop 7 = (four u.a).take (nb u.len.toNat) := rfl
  unfold told
  rw [if_neg (by omega), h0, if_neg (by omega), e1, e2, e3, hseq, hmet, hid]
  have hm : u.a % 2 ^ (32 - n) = 0 := by
    rw [hn] at ha
    rw [Am.right_in hn32] at ha
    exact of_decide_eq_true ha
  have e4 : u.len.toNat = n := by omega
  rw [e4, pad_four hf.a hn32 hm]
  have e5 : (⟨u.a, (n : Int), u.id, u.seq, u.met⟩ : Up) = u := by
    cases u; simp_all
  simp only [e5, h, if_true]

theorem walk_nil (id : Nat) : walk id [] = some [] := by unfold walk; rfl
theorem walk_zero (id : Nat) (r : List Nat) : walk id (0 :: r) = walk id r := by rw [walk.eq_def]; simp
theorem walk_part (id k n : Nat) (x r : List Nat) (hk : k ≠ 0) (hn : x.length = n) :
    walk id (k :: n :: (x ++ r)) = (walk (if k = 2 ∧ n = 4 then val x else id) r).map fun l => (if k = 3 then (told x (if k = 2 ∧ n = 4 then val x else id)).toList else []) ++ l := by
  subst hn
  rw [walk.eq_def]
  simp only [if_neg hk]
  rw [if_neg (by simp)]
  simp only [List.take_left, List.drop_left]
theorem walk_parts {u : Up} (h : right u = true) (hf : u.Fits) (id : Nat) (r : List Nat) : walk id (parts u id ++ r) = (walk u.id r).map (u :: ·) := by
  have hb := body_length h
  have key : walk u.id ((3 :: (7 + nb u.len.toNat) :: body u) ++ r) = (walk u.id r).map (u :: ·) := by
    rw [List.cons_append, List.cons_append, walk_part u.id 3 _ (body u) r (by omega) hb]
    simp [told_body h hf]
  unfold parts
  split
  · rename_i e
    rw [List.nil_append, ← e]
    exact key
  · rw [List.append_assoc, List.cons_append, List.cons_append, walk_part id 2 4 (four u.id) _ (by omega) rfl]
    have e2 : (if (2 : Nat) = 2 ∧ (4 : Nat) = 4 then val (four u.id) else id) = u.id := by rw [if_pos ⟨rfl, rfl⟩, val_four u.id hf.id]
    rw [e2, key, if_neg (show ¬ (2 : Nat) = 3 by decide)]
    cases walk u.id r <;> rfl

/-! ### the datagrams of a list hold just what of it can be told -/
end Go.Proofs.Ytpdbaediepofjaa.Tm
