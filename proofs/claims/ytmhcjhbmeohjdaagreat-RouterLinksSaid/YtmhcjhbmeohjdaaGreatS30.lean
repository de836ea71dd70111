/-
  RouterLinks: several ways to the one prefix, and the nearest one, as mathematics.
  RouterLinks: which way is picked, as mathematics.
  RouterLinks: of several links the nearest way, the first of several.
  RouterLinks: whatever metrics, costs and link (each as the statement cuts them): of several ways the nearest is taken, the first of several as near, and none by a link that was cut. No condition.
-/
import Derived.Test.YtmhcjhbmeohjdaaGreatS29
import Derived.Test.YtmhcjhbmeohjdaaGreatS28
namespace Go.Proofs.YtmhcjhbmeohjdaaGreat
open Go.RowKit Go.Maps Rm Fm Sb

/-- the ways that the first i neighbours told -/
def lF (mf : Nat → Nat) (i : Nat) : Ways := fun k => if k = ⟨167772160, 8, (k.fr.toNat : Int)⟩ ∧ k.fr.toNat < i then some ⟨k.fr, 3, 5, mf k.fr.toNat, 3⟩ else none
/-- what links cost behind i of them -/
def lC (cf : Nat → Nat) (i : Nat) : Nat → Int := fun k => if k < i then (cf k : Int) else 0
/-- behind i neighbours -/
def lM (mf cf : Nat → Nat) (i : Nat) : Mr := ⟨9, sm0, lF mf i, lC cf i, 0, 0, 0⟩
/-- one link gone, and made anew -/
def lN (mf cf : Nat → Nat) (n cut : Nat) : Mr := ⟨9, sm0, fun k => if k.fr = cut then none else lF mf n k, fun k => if k = cut then 1 else lC cf n k, 0, 0, 0⟩
section
variable {mf cf : Nat → Nat} {i n cut : Nat}
theorem lF_some {k : Rk} {r : Rt} (h : lF mf i k = some r) : ∃ j : Nat, j < i ∧ k = ⟨167772160, 8, j⟩ ∧ r = ⟨j, 3, 5, mf j, 3⟩ := by
  unfold lF at h
  split at h
  · rename_i hc
    cases h
    have hfr := congrArg Rk.fr hc.1
    simp only at hfr
    exact ⟨k.fr.toNat, hc.2, hc.1, by rw [← hfr]⟩
  · cases h
theorem lF_at (j : Nat) : lF mf i ⟨167772160, 8, j⟩ = if j < i then some ⟨j, 3, 5, mf j, 3⟩ else none := by
  unfold lF
  simp
theorem lM_zero : lM mf cf 0 = Mnone 9 (fun _ => 0) (fun _ => none) 0 := by
  unfold lM Mnone
  congr 1
  · funext k; unfold lF; simp
theorem lM_link (h : 1 ≤ cf i) : (lM mf cf i).link i (cf i : Int) = ⟨9, sm0, lF mf i, lC cf (i + 1), 0, 0, 0⟩ := by
  unfold Mr.link
  rw [if_neg (by omega)]
  unfold Mr.setCost lM
  congr 1
  funext k
  show (if k = i then (cf i : Int) else lC cf i k) = lC cf (i + 1) k
  unfold lC
  by_cases e : k = i
  · subst e; simp
  · rw [if_neg e]
    by_cases h1 : k < i
    · rw [if_pos h1, if_pos (by omega)]
    · rw [if_neg h1, if_neg (by omega)]
theorem lM_hear (hm : mf i ≠ 65535) : (⟨9, sm0, lF mf i, lC cf (i + 1), 0, 0, 0⟩ : Mr).hear i 167772160 8 3 5 (mf i) = lM mf cf (i + 1) := by
  unfold Mr.hear
  rw [if_neg (by
    rintro (h | h)
    · cases h
    · exact absurd (show 3 = 9 from h) (by decide)), if_neg hm, if_pos (by show Go.Proofs.YtmhcjhbmeohjdaaGreat.fea none 5 (mf i) = true; simp [Go.Proofs.YtmhcjhbmeohjdaaGreat.fea, bet])]
  unfold lM
  congr 1
  funext k
  show (if k = ⟨167772160, 8, (i : Int)⟩ then some ⟨(i : Int), 3, 5, mf i, 0 + 3⟩ else lF mf i k) = lF mf (i + 1) k
  by_cases e : k = ⟨167772160, 8, (i : Int)⟩
  · subst e
    rw [if_pos rfl, lF_at, if_pos (by omega)]
    rfl
  · rw [if_neg e]
    unfold lF
    by_cases h1 : k = ⟨167772160, 8, (k.fr.toNat : Int)⟩ ∧ k.fr.toNat < i
    · rw [if_pos h1, if_pos ⟨h1.1, by omega⟩]
    · rw [if_neg h1, if_neg (fun h2 => h1 ⟨h2.1, by
        have : k.fr.toNat ≠ i := fun h3 => e (by rw [← h3]; exact h2.1)
        omega⟩)]
theorem lM_receive (hi : i < 8) (hm : mf i ≠ 65535) (hc : 1 ≤ cf i) {d : List Nat} (hd : T.Tm.decode d = some [⟨167772160, 8, 3, 5, mf i⟩]) : (⟨9, sm0, lF mf i, lC cf (i + 1), 0, 0, 0⟩ : Mr).receive i d = lM mf cf (i + 1) := by
  unfold Mr.receive
  rw [if_neg (by
    show ¬ cAt (lC cf (i + 1)) i = 0
    unfold cAt lC
    rw [if_neg (by omega)]
    simp
    omega), hd]
  exact lM_hear hm
theorem lM_cut : ((lM mf cf n).link cut 0).link cut 1 = lN mf cf n cut := by
  unfold Mr.link
  rw [if_pos rfl, if_neg (by decide)]
  unfold Mr.setCost lM lN
  congr 1
  · funext k
    show lessF (lF mf n) (fun z => decide (z.fr = cut)) k = _
    unfold lessF
    by_cases e : k.fr = (cut : Int)
    · simp [e]
    · cases h : lF mf n k <;> simp [e]
  · funext k
    by_cases e : k = cut
    · simp [e]
    · simp [e]
theorem lN_f (j : Nat) : (lN mf cf n cut).f ⟨167772160, 8, j⟩ = if j < n ∧ j ≠ cut then some ⟨j, 3, 5, mf j, 3⟩ else none := by
  show (if ((j : Int) = cut) then none else lF mf n ⟨167772160, 8, j⟩) = _
  rw [lF_at]
  by_cases e : j = cut
  · subst e; simp
  · have e2 : ¬ ((j : Int) = cut) := by omega
    rw [if_neg e2]
    simp [e]
theorem lN_few (hn : n ≤ 8) : Few (lN mf cf n cut) 0 8 := ⟨[], [], (List.range n).map fun (j : Nat) => (⟨167772160, 8, (j : Int)⟩ : Rk), by simp, by simpa using hn, (fun p h => by cases h), (fun k h => by cases h), fun k h => by
  obtain ⟨r, hr⟩ := Option.isSome_iff_exists.1 h
  have hr2 : (if k.fr = cut then none else lF mf n k) = some r := hr
  split at hr2
  · cases hr2
  · obtain ⟨j, hj, rfl, -⟩ := lF_some hr2
    exact List.mem_map.2 ⟨j, List.mem_range.2 hj, rfl⟩⟩
theorem lN_ways {p : Pk} (h : (lN mf cf n cut).ways p) : p = ⟨167772160, 8⟩ ∧ ∃ j, j < n ∧ j ≠ cut := by
  obtain ⟨fr, -, hs⟩ := h
  obtain ⟨r, hr⟩ := Option.isSome_iff_exists.1 hs
  have hr2 : (if fr = cut then none else lF mf n ⟨p.a, p.n, fr⟩) = some r := hr
  split at hr2
  · cases hr2
  · rename_i hne
    obtain ⟨j, hj, e, -⟩ := lF_some hr2
    injection e with e1 e2 e3
    cases p
    simp at e1 e2
    exact ⟨by rw [e1, e2], j, hj, fun h => hne (by rw [e3, h])⟩
theorem lN_subj (hn8 : n ≤ 8) {rs : List En} (h : Subj (lN mf cf n cut) rs) : (∀ j, j < n → j = cut) ∧ rs = [] ∨ (∃ j, j < n ∧ j ≠ cut) ∧ rs = [⟨167772160, 8, false⟩] := by
  have hno : ∀ p, ¬ (lN mf cf n cut).ans p := fun p ha => by
    rcases ha with ⟨_, h⟩ | ⟨_, _, h⟩ <;> cases h
  by_cases hex : ∃ j, j < n ∧ j ≠ cut
  · refine .inr ⟨hex, h.way hno (fun p => ⟨fun hw => (lN_ways hw).1, fun e => ?_⟩)⟩
    subst e
    obtain ⟨j, hj, hne⟩ := hex
    refine ⟨j, ⟨by show 167772160 < 4294967296; decide, (by show (-9223372036854775808 : Int) ≤ 8 ∧ (8 : Int) ≤ 9223372036854775807; decide), ?_⟩, ?_⟩
    · show (-9223372036854775808 : Int) ≤ (j : Int) ∧ (j : Int) ≤ 9223372036854775807
      omega
    · show ((lN mf cf n cut).f ⟨167772160, 8, j⟩).isSome = true
      rw [lN_f, if_pos ⟨hj, hne⟩]
      rfl
  · refine .inl ⟨fun j hj => ?_, h.none hno fun p hw => hex (lN_ways hw).2⟩
    by_cases e : j = cut
    · exact e
    · exact absurd ⟨j, hj, e⟩ hex
/-- which of the first i is the nearest, the first of several; below 0: none -/
def Best (mf cf : Nat → Nat) (cut i : Nat) (best far : Int) : Prop :=
  (best = -1 ∧ ∀ j, j < i → j = cut) ∨ ∃ b : Nat, best = b ∧ b < i ∧ b ≠ cut ∧ far = (mf b + cf b : Nat) ∧ ∀ j, j < i → j ≠ cut → mf b + cf b ≤ mf j + cf j ∧ (j < b → mf b + cf b < mf j + cf j)
theorem Best.zero (far : Int) : Best mf cf cut 0 (-1) far := .inl ⟨rfl, fun j h => by omega⟩
theorem Best.skip {best far : Int} (h : Best mf cf cut i best far) (hi : i = cut ∨ (0 ≤ best ∧ far ≤ (mf i + cf i : Nat))) : Best mf cf cut (i + 1) best far := by
  rcases h with ⟨h1, h2⟩ | ⟨b, rfl, h2, h3, h4, h5⟩
  · rcases hi with rfl | hi
    · exact .inl ⟨h1, fun j hj => by
        by_cases e : j = i
        · exact e
        · exact h2 j (by omega)⟩
    · omega
  · refine .inr ⟨b, rfl, by omega, h3, h4, fun j hj hne => ?_⟩
    by_cases e : j = i
    · subst e
      rcases hi with h | hi
      · exact absurd h hne
      · exact ⟨by omega, fun h => by omega⟩
    · exact h5 j (by omega) hne
theorem Best.take {best far : Int} (h : Best mf cf cut i best far) (hi : i ≠ cut) (hb : best < 0 ∨ ((mf i + cf i : Nat) : Int) < far) : Best mf cf cut (i + 1) i (mf i + cf i : Nat) := by
  refine .inr ⟨i, rfl, by omega, hi, rfl, fun j hj hne => ?_⟩
  rcases h with ⟨h1, h2⟩ | ⟨b, rfl, h2, h3, h4, h5⟩
  · by_cases e : j = i
    · subst e; exact ⟨by omega, fun h => by omega⟩
    · exact absurd (h2 j (by omega)) hne
  · by_cases e : j = i
    · subst e; exact ⟨by omega, fun h => by omega⟩
    · have := h5 j (by omega) hne
      exact ⟨by omega, fun h => by omega⟩
end
end Go.Proofs.YtmhcjhbmeohjdaaGreat

namespace Go.Proofs.YtmhcjhbmeohjdaaGreat
open Go.RowKit Go.Maps Rm Fm Sb

theorem find_filterMap_range {α : Type} {g : Nat → Option α} {p : α → Bool} {b : Nat} {x : α} (hg : g b = some x) (hp : p x = true) (hlt : ∀ k, k < b → ∀ y, g k = some y → p y = false) : ∀ N, b < N → ((List.range N).filterMap g).find? p = some x
  | 0, h => by omega
  | N + 1, h => by
    rw [List.range_succ, List.filterMap_append, List.find?_append]
    by_cases e : b = N
    · subst e
      have h1 : ((List.range b).filterMap g).find? p = none := by
        rw [List.find?_eq_none]
        intro y hy
        obtain ⟨k, hk, e⟩ := List.mem_filterMap.1 hy
        rw [hlt k (List.mem_range.1 hk) y e]
        decide
      rw [h1]
      simp [hg, hp]
    · rw [find_filterMap_range hg hp hlt N (by omega)]
      rfl
section
variable {mf cf : Nat → Nat} {i n cut : Nat}
/-- a way as it is picked of -/
def lR (mf cf : Nat → Nat) (k : Nat) : Rh := (⟨k, 3, 5, mf k, 3⟩, (mf k + cf k : Nat))
theorem lN_reach (hn : n ≤ 7) (hm : ∀ j, mf j ≤ 1023) (hc : ∀ j, 1 ≤ cf j ∧ cf j ≤ 128) (k : Nat) : (lN mf cf n cut).reachF 167772160 8 k = if k < n ∧ k ≠ cut then some (lR mf cf k) else none := by
  unfold Mr.reachF
  rw [lN_f]
  by_cases h : k < n ∧ k ≠ cut
  · rw [if_pos h, if_pos h]
    have hcost : cAt (lN mf cf n cut).c k = (cf k : Int) := by
      unfold cAt
      rw [if_neg (by omega)]
      show (if ((k : Int)).toNat = cut then 1 else lC cf n ((k : Int)).toNat) = _
      rw [show ((k : Int)).toNat = k by omega, if_neg h.2]
      unfold lC
      rw [if_pos h.1]
    have h1 := hm k
    have h2 := hc k
    have hfar : far (mf k) (cf k) = (mf k + cf k : Nat) := by
      unfold far clampCost
      rw [if_neg (by omega), if_neg (by omega), if_neg (by omega)]
      omega
    simp only
    rw [hcost, hfar, if_neg]
    · rfl
    · rintro (h3 | h3 | h3)
      · omega
      · exact h3 (by show Go.Proofs.YtmhcjhbmeohjdaaGreat.fea none 5 (mf k) = true; simp [Go.Proofs.YtmhcjhbmeohjdaaGreat.fea, bet])
      · omega
  · rw [if_neg h, if_neg h]
theorem lN_pick_none (hall : ∀ j, j < n → j = cut) : (lN mf cf n cut).pick 167772160 8 = none := by
  refine pick_no fun k => ?_
  rw [lN_f, if_neg (fun h => h.2 (hall k h.1))]
theorem lN_pick (hn : n ≤ 7) (hm : ∀ j, mf j ≤ 1023) (hc : ∀ j, 1 ≤ cf j ∧ cf j ≤ 128) {b : Nat} (hb : b < n) (hbc : b ≠ cut) (hbest : ∀ j, j < n → j ≠ cut → mf b + cf b ≤ mf j + cf j ∧ (j < b → mf b + cf b < mf j + cf j)) : (lN mf cf n cut).pick 167772160 8 = some ⟨b, 3, 5, mf b, 3⟩ := by
  unfold Mr.pick
  have hg : ∀ k : Nat, (lN mf cf n cut).reachF 167772160 8 k = if k < n ∧ k ≠ cut then some (lR mf cf k) else none := lN_reach hn hm hc
  have hmem : ∀ o, o ∈ (lN mf cf n cut).openL 167772160 8 9 ↔ ∃ k, k < n ∧ k ≠ cut ∧ o = lR mf cf k := fun o => by
    unfold Mr.openL
    rw [List.mem_filterMap]
    constructor
    · rintro ⟨k, -, e⟩
      rw [hg k] at e
      split at e
      · rename_i h
        cases e
        exact ⟨k, h.1, h.2, rfl⟩
      · cases e
    · rintro ⟨k, h1, h2, rfl⟩
      exact ⟨k, List.mem_range.2 (by omega), by rw [hg k, if_pos ⟨h1, h2⟩]⟩
  have hp : pickL ((lN mf cf n cut).openL 167772160 8 9) = some (lR mf cf b) := by
    unfold pickL
    refine find_filterMap_range (g := (lN mf cf n cut).reachF 167772160 8) (b := b) (by rw [hg b, if_pos ⟨hb, hbc⟩]) ?_ (fun k hk y hy => ?_) 9 (by omega)
    · show nearest ((lN mf cf n cut).openL 167772160 8 9) (lR mf cf b) = true
      unfold nearest
      rw [List.all_eq_true]
      intro o ho
      obtain ⟨k, h1, h2, rfl⟩ := (hmem o).1 ho
      have := (hbest k h1 h2).1
      unfold lR
      simp
      omega
    · rw [hg k] at hy
      split at hy
      · rename_i h
        cases hy
        show nearest ((lN mf cf n cut).openL 167772160 8 9) (lR mf cf k) = false
        unfold nearest
        rw [Bool.eq_false_iff]
        intro hall
        rw [List.all_eq_true] at hall
        have h1 := hall (lR mf cf b) ((hmem _).2 ⟨b, hb, hbc, rfl⟩)
        have h2 := (hbest k h.1 h.2).2 hk
        unfold lR at h1
        simp at h1
        omega
      · cases hy
  rw [hp]
  rfl
theorem lN_owns : (lN mf cf n cut).owns ⟨167772160, 8⟩ = false := rfl
theorem lN_dist_none (hall : ∀ j, j < n → j = cut) : (lN mf cf n cut).dist 167772160 8 = (0, false) := by
  unfold Mr.dist
  rw [if_neg (by rw [lN_owns]; decide), lN_pick_none hall]
theorem lN_dist (hn : n ≤ 7) (hm : ∀ j, mf j ≤ 1023) (hc : ∀ j, 1 ≤ cf j ∧ cf j ≤ 128) {b : Nat} (hb : b < n) (hbc : b ≠ cut) (hbest : ∀ j, j < n → j ≠ cut → mf b + cf b ≤ mf j + cf j ∧ (j < b → mf b + cf b < mf j + cf j)) : (lN mf cf n cut).dist 167772160 8 = (((mf b + cf b : Nat) : Int), true) := by
  unfold Mr.dist
  rw [if_neg (by rw [lN_owns]; decide), lN_pick hn hm hc hb hbc hbest]
  have h1 := hm b
  have h2 := hc b
  have hcost : cAt (lN mf cf n cut).c b = (cf b : Int) := by
    unfold cAt
    rw [if_neg (by omega)]
    show (if ((b : Int)).toNat = cut then 1 else lC cf n ((b : Int)).toNat) = _
    rw [show ((b : Int)).toNat = b by omega, if_neg hbc]
    unfold lC
    rw [if_pos hb]
  show (far (mf b) (cAt (lN mf cf n cut).c b), true) = _
  rw [hcost]
  congr 1
  unfold far clampCost
  rw [if_neg (by omega), if_neg (by omega), if_neg (by omega)]
  omega
theorem lN_entry (hn : n ≤ 7) (hm : ∀ j, mf j ≤ 1023) (hc : ∀ j, 1 ≤ cf j ∧ cf j ≤ 128) {b : Nat} (hb : b < n) (hbc : b ≠ cut) (hbest : ∀ j, j < n → j ≠ cut → mf b + cf b ≤ mf j + cf j ∧ (j < b → mf b + cf b < mf j + cf j)) : [(⟨167772160, 8, false⟩ : En)].flatMap (lN mf cf n cut).entry = [⟨167772160, 8, 2, b⟩] := by
  simp only [List.flatMap_cons, List.flatMap_nil, List.append_nil]
  exact Mr.entry_way (e := ⟨167772160, 8, false⟩) lN_owns (lN_pick hn hm hc hb hbc hbest)
end
end Go.Proofs.YtmhcjhbmeohjdaaGreat

namespace Go.Proofs.YtmhcjhbmeohjdaaGreat
open Go.RowKit Go.Maps Rm Fm Sb
attribute [local go_sem] Oper.semAt_some

theorem mask_i127 (z : Int) : ∃ c : Nat, c ≤ 127 ∧ bits .and .i64 z 127 = (c : Int) := by
  have h1 : (BitVec.ofInt 64 z &&& BitVec.ofInt 64 127).toNat ≤ 127 := by
    rw [BitVec.toNat_and]
    exact Nat.le_trans Nat.and_le_right (by decide)
  refine ⟨(BitVec.ofInt 64 z &&& BitVec.ofInt 64 127).toNat, h1, ?_⟩
  have e : bits .and .i64 z 127 = IntKind.i64.wrap ((BitVec.ofInt 64 z &&& BitVec.ofInt 64 127).toNat : Int) := rfl
  rw [e]
  generalize (BitVec.ofInt 64 z &&& BitVec.ofInt 64 127).toNat = n at *
  simp only [IntKind.wrap, IntKind.bits, IntKind.signed]
  simp
  omega
theorem cost_128 (z : Int) : ∃ c : Nat, (1 ≤ c ∧ c ≤ 128) ∧ wrap64 (1 + bits .and .i64 z 127) = (c : Int) := by
  obtain ⟨d, h1, h2⟩ := mask_i127 z
  refine ⟨1 + d, ⟨by omega, by omega⟩, ?_⟩
  rw [h2, IntWalk.wrap64_in _ (by omega)]
  omega
theorem mask_u1023 (z : Int) : ∃ c : Nat, c ≤ 1023 ∧ bits .and .u16 z 1023 = (c : Int) := by
  have h1 : (BitVec.ofInt 16 z &&& BitVec.ofInt 16 1023).toNat ≤ 1023 := by
    rw [BitVec.toNat_and]
    exact Nat.le_trans Nat.and_le_right (by decide)
  refine ⟨(BitVec.ofInt 16 z &&& BitVec.ofInt 16 1023).toNat, h1, ?_⟩
  have e : bits .and .u16 z 1023 = IntKind.u16.wrap ((BitVec.ofInt 16 z &&& BitVec.ofInt 16 1023).toNat : Int) := rfl
  rw [e]
  generalize (BitVec.ofInt 16 z &&& BitVec.ofInt 16 1023).toNat = n at *
  simp only [IntKind.wrap, IntKind.bits, IntKind.signed]
  simp
  omega
theorem cut_n (z : Int) {n : Nat} (h1 : 1 ≤ n) (h2 : n ≤ 7) : ∃ c : Nat, c < n ∧ wrap64 ((IntKind.u64.wrap z).tmod (n : Int)) = (c : Int) := by
  have h0 : 0 ≤ IntKind.u64.wrap z := by
    simp only [IntKind.wrap, IntKind.bits, IntKind.signed]
    simp
    omega
  obtain ⟨k, hk⟩ := Int.eq_ofNat_of_zero_le h0
  rw [hk]
  have hlt : k % n < n := Nat.mod_lt _ (by omega)
  have e : ((k : Nat) : Int).tmod (n : Int) = ((k % n : Nat) : Int) := by
    rw [Int.tmod_eq_emod_of_nonneg (by omega)]
    exact (Int.natCast_emod k n).symm
  refine ⟨k % n, hlt, ?_⟩
  rw [e, IntWalk.wrap64_in _ (by omega)]
/-- behind so many datagrams of a round -/
def lJ (mf cf : Nat → Nat) (k j : Nat) : Mr := if j = 0 then ⟨9, sm0, lF mf k, lC cf (k + 1), 0, 0, 0⟩ else lM mf cf (k + 1)
theorem lJ_receive {mf cf : Nat → Nat} {k : Nat} (hk : k < 8) (hm : mf k ≤ 1023) (hc : 1 ≤ cf k) {d : List Nat} (hd : T.Tm.decode d = some [⟨167772160, 8, 3, 5, mf k⟩]) : (lJ mf cf k 0).receive k d = lJ mf cf k 1 :=
  lM_receive hk (by omega) hc hd
/-- a list of numbers in memory -/
structure InZ (w : World) (kd : IntKind) (A : Option Addr) (len cap : Nat) (f : Nat → Int) : Prop where
  hm : len ≤ maxLen
  hc : len ≤ cap
  hA : 0 < len → ∃ b off, A = some ⟨b, off, none⟩
  hR : ∀ b off, A = some ⟨b, off, none⟩ → ∀ i, i < len → w.cell? ⟨b, off + i, none⟩ = some (.int kd (f i))

set_option maxRecDepth 100000 in
set_option maxHeartbeats 1000000 in
theorem links_walk (A1 A2 : Option Addr) (n c1 n2 c2 : Nat) (f1 f2 : Nat → Int) (cut0 : Int) (w : World) (h1 : InZ w .u16 A1 n c1 f1) (h2 : InZ w .i64 A2 n2 c2 f2) :
    Calls Tryz.prog 6 #[.slice A1 n c1, .slice A2 n2 c2, .int .i64 cut0] w fun e w' => e = .returned (.bool true) ∧ Below w.heap.size w w' := by
  obtain ⟨mf, hmf⟩ := Classical.axiomOfChoice fun j => mask_u1023 (f1 j)
  obtain ⟨df, hdf⟩ := Classical.axiomOfChoice fun j => mask_i127 (f2 j)
  obtain ⟨cf, hcf⟩ : ∃ cf : Nat → Nat, ∀ j, cf j = 1 + df j := ⟨_, fun _ => rfl⟩
  have M := Lib.hid (And.intro h1 (And.intro h2 (And.intro hmf (And.intro hdf hcf))))
  have hb1n := h1.hm
  have hb2n := h2.hm
  unfold maxLen at hb1n hb2n
  clear h1 h2 hmf hdf hcf
  go_enter Tryz.func6, Tryz.ntmps6
  by_cases hn : 1 ≤ n ∧ n ≤ 7 ∧ n ≤ n2
  case neg =>
    have hz : (((n : Int) == 0) = true) ∨ (((n : Int) == 0) = false ∧ decide ((7 : Int) < n) = true) ∨ (((n : Int) == 0) = false ∧ decide ((7 : Int) < n) = false ∧ decide (n2 < n) = true) := by
      simp only [beq_iff_eq, decide_eq_true_eq, decide_eq_false_iff_not, beq_eq_false_iff_ne, ne_eq]
      omega
    go_upto_region 3 with (go_at_call 7; refine (router_head w).mono ?_; rintro e w1 ⟨rfl, hb1⟩)
    rcases hz with z1 | ⟨z1, z2⟩ | ⟨z1, z2, z3⟩ <;> (go_wp2_with fail; go_ret; exact ⟨rfl, hb1⟩)
  case pos =>
  obtain ⟨hn1, hn7, hn2⟩ := hn
  have dz1 : ((n : Int) == 0) = false := by simp only [beq_eq_false_iff_ne, ne_eq]; omega
  have dz2 : decide ((7 : Int) < n) = false := decide_eq_false (by omega)
  have dz3 : decide (n2 < n) = false := decide_eq_false (by omega)
  obtain ⟨cut, hcut, hmc⟩ := cut_n cut0 hn1 hn7
  go_upto_region 5 with (go_at_call 7; refine (router_head w).mono ?_; rintro e w1 ⟨rfl, hb1⟩)
  clear dz1 dz2 dz3
  have HD := disk_new (n := 64) (by omega) (by omega) (z := 64) rfl w1
  have hs1 := hb1.size
  go_upto_region 9 with (first | (go_at_call 9; refine HD.mono ?_; rintro e w2 ⟨rfl, hD1, hb2⟩; have HN := rl_new (w0 := w) (hb1.trans (hb2.mono hs1)) ⟨by omega, by omega, by omega⟩ hD1 (id := 9) (by omega) (by omega) (by omega) (by omega) (z := 9) rfl; clear HD hD1 hb2) | (go_at_call 8; refine HN.mono ?_; rintro e w3 ⟨R, rfl, h2⟩; clear HN) | fail)
  rw [mr0_none, ← lM_zero (mf := mf) (cf := cf)] at h2
  rw [show 64 / 2 - 1 = 31 by omega] at h2
  go_upto_region 10 with fail
  rw [hmc]
  clear hmc
  generalize (IntKind.u64.wrap cut0).tmod (n : Int) = x1
  generalize IntKind.u64.wrap cut0 = x2
  have X := Lib.hid h2
  clear h2 hb1 hs1
  have hz0 : Best mf cf cut 0 (-1) 0 := .zero 0
  have hdn : (0 : Int) < n := by omega
  go_wp2_with fail
  go_loopw [10, 11, 54] (fun tb tf i wr => ∃ (k : Nat) (best far : Int), tb = .int .i64 best ∧ tf = .int .i64 far ∧ i = .int .i64 k ∧ k ≤ n ∧ Hid (Rl w wr R 31 (90000 - 1000 * k) (lM mf cf k) ∧ Best mf cf cut k best far)) (fun _ _ i _ => n - (intOf i).toNat)
  case atStart => exact ⟨0, -1, 0, rfl, rfl, rfl, Nat.zero_le _, X.out, hz0⟩
  case round =>
    clear X hz0
    obtain ⟨k, best, far, rfl, rfl, rfl, hk, S⟩ := hrel
    by_cases hkl : k < n
    · have hkz : (k : Int) < (n : Int) := by omega
      have hb0 := S.out.1.below
      obtain ⟨b1, o1, rfl⟩ := M.out.1.hA (by omega)
      obtain ⟨b2, o2, rfl⟩ := M.out.2.1.hA (by omega)
      have e1 := held hb0 (M.out.1.hR b1 o1 rfl k hkl)
      have e2 := held hb0 (M.out.2.1.hR b2 o2 rfl k (by omega))
      have hc1 := M.out.1.hc
      have hc2 := M.out.2.1.hc
      have hm1 := (M.out.2.2.1 k).2
      have hm2 := (M.out.2.2.2.1 k).2
      have hcf := M.out.2.2.2.2 k
      have hl1 := (M.out.2.2.1 k).1
      have hl2 := (M.out.2.2.2.1 k).1
      generalize f1 k = z1 at e1 hm1
      generalize f2 k = z2 at e2 hm2
      clear hb0
      have hz : ∃ q : Int, q = (df k : Int) ∧ (cf k : Int) = 1 + q ∧ 0 ≤ q ∧ q ≤ 127 := ⟨_, rfl, by omega, by omega, by omega⟩
      obtain ⟨q, hq, hcq, hq1, hq2⟩ := hz
      rw [← hq] at hm2
      clear hq hcf hl2
      go_upto_region 17 with fail
      rw [← hcq]
      have hl2 : 1 ≤ cf k ∧ cf k ≤ 128 := by omega
      clear e1 e2 hm1 hm2 hc1 hc2
      clear hcq hq1 hq2
      have HL := rl_link S.out.1 (k := k) (by omega) (c := (cf k : Int)) (by omega) (by omega) (z := k) rfl
      rw [lM_link hl2.1] at HL
      have B0 := Lib.hid S.out.2
      clear S
      go_upto_region 18 with (go_at_call 10; refine HL.mono ?_; rintro e w4 ⟨rfl, h4⟩; clear HL)
      have hu := two_right (i := 3) (s := 5) (m := mf k) (by omega) (by omega) (by omega)
      have huf := two_fits (i := 3) (s := 5) (m := mf k) (by omega) (by omega) (by omega)
      obtain ⟨d, hd⟩ : ∃ d, T.Tm.page (T.Tm.parts ⟨167772160, 8, 3, 5, mf k⟩ 0) = d := ⟨_, rfl⟩
      have henc := encode_one hu
      have hdec := decode_one hu huf
      have hfine := T.Tm.encode_fine [⟨167772160, 8, 3, 5, mf k⟩] d (by rw [henc, hd]; simp)
      rw [hd] at henc hdec
      have Q := Lib.hid (And.intro huf (And.intro henc (And.intro hdec (And.intro hfine h4))))
      clear hu huf hd henc hdec hfine h4
      clear M
      go_wp2_with (first | (go_at_call 12; refine (ten_any w4).mono ?_; rintro e w5 ⟨rfl, hb5⟩; have hb6 := next hb5 (below_new w5 (.cells #[.int .u32 167772160, .int .i64 8, .int .u32 3, .int .u32 5, .int .u16 (mf k)] 41)); have HE := T.encode_any (ul_blk (u := ⟨167772160, 8, 3, 5, mf k⟩) (Blk.new w5 41 #[.int .u32 167772160, .int .i64 8, .int .u32 3, .int .u32 5, .int .u16 (mf k)]) Q.out.1); rw [Q.out.2.1] at HE; clear hb5) | (go_at_call 11; refine HE.mono ?_; rintro e w7 ⟨v, rfl, hLas, hb7⟩; obtain ⟨pa, ca, rfl, hca⟩ := hLas.form; obtain ⟨F, hRc, hF, hBw⟩ := (Q.out.2.2.2.2.held hb6).rcv hb7; have Y := Lib.hid (And.intro hLas (And.intro hF (And.intro hBw hRc))); clear HE hLas hb7 hb6 hF hBw hRc) | fail)
      simp only [List.length_cons, List.length_nil, Nat.zero_add] at hca ⊢
      go_loopw [79] (fun i wr2 => ∃ j : Nat, i = .int .i64 j ∧ j ≤ 1 ∧ Hid (Rcv F w7 R 31 (90000 - 1000 * k - 1000 * j) (lJ mf cf k j) wr2)) (fun i _ => 1 - (intOf i).toNat)
      case atStart => exact ⟨0, rfl, Nat.zero_le _, Y.out.2.2.2⟩
      case round =>
        obtain ⟨j, rfl, hj, S⟩ := hrel
        by_cases hjl : j < 1
        · obtain rfl : j = 0 := by omega
          obtain ⟨F', hz, hT, hn⟩ := S.out.ex
          have hLr := Las_turn Y.out.1 hT (fun y hy => (Y.out.2.1 y hy).2)
          clear hz hT hn F'
          obtain ⟨gb, cp, gi, ci, e, hcell, hOb, -, -⟩ := hLr.inplace (i := 0) (by simp)
          simp only [List.length_cons, List.length_nil, Nat.zero_add, List.getD_cons_zero] at e hcell hOb
          cases e
          have hfine := Q.out.2.2.2.1
          have hSl : T.Sl _ (some ⟨gi, 0, none⟩) d.length ci d := ⟨hOb.bytes hfine.2.2.1 (by omega), by obtain ⟨cur, q1, q2, q3, q4, q5⟩ := hOb; exact q3, fun _ => ⟨_, _, rfl⟩⟩
          have hS := S.out
          rw [show 90000 - 1000 * k - 1000 * 0 = (90000 - 1000 * k - 1000 * 1) + 1000 by omega] at hS
          have HR := rcv_receive hS hSl Q.out.2.2.1 (by simp) (k : Int)
          rw [lJ_receive (by omega) hl1 hl2.1 Q.out.2.2.1] at HR
          obtain ⟨bl, hbl⟩ : ∃ bl, d.length = bl := ⟨_, rfl⟩
          rw [hbl] at hcell HR
          clear S hLr hOb hfine hSl hS hbl
          go_wp2_with (go_at_call 13; refine HR.mono ?_; rintro e w8 ⟨rfl, h8⟩; have H8 := Lib.hid h8; clear HR h8)
          go_roundw
          case rel => exact ⟨1, rfl, Nat.le_refl _, H8.out⟩
          case measure => simp [intOf]
        · have hj1 : j = 1 := by omega
          have hS1 := S.out
          rw [hj1] at hS1
          have hRl := hS1.rl (fun y hy => (Y.out.2.1 y hy).1) Y.out.2.2.1
          have X := Lib.hid (show Rl w _ R 31 (90000 - 1000 * (k + 1)) (lM mf cf (k + 1)) from by rw [show 90000 - 1000 * (k + 1) = 90000 - 1000 * k - 1000 * 1 by omega]; exact hRl)
          have djz : decide ((j : Int) < 1) = false := decide_eq_false (by omega)
          clear S hRl Y hj hjl hj1 hS1 Q
          have S1 := fun (b f : Int) (h : Best mf cf cut (k + 1) b f) => Lib.hid (And.intro X.out h)
          have hB := B0.out
          by_cases hkc : k = cut
          · have e1 : ((k : Int) == (cut : Int)) = true := beq_iff_eq.2 (by omega)
            have e2 : ((k : Int) != (cut : Int)) = false := by rw [bne, e1]; rfl
            have S2 := S1 _ _ (hB.skip (.inl hkc))
            clear S1 hB X B0
            go_wp2_with fail
            go_roundw
            case rel => exact ⟨k + 1, best, far, rfl, rfl, by go_num, by omega, S2⟩
            case measure => simp [intOf]; omega
          · have e1 : ((k : Int) == (cut : Int)) = false := beq_eq_false_iff_ne.2 (by omega)
            have e2 : ((k : Int) != (cut : Int)) = true := by rw [bne, e1]; rfl
            by_cases hbe : best < 0
            · have e3 : decide (best < 0) = true := decide_eq_true hbe
              have S2 := S1 _ _ (hB.take hkc (.inl hbe))
              rw [Int.natCast_add] at S2
              clear S1 hB X B0
              go_wp2_with fail
              go_roundw
              case rel => exact ⟨k + 1, k, (mf k : Int) + (cf k : Int), rfl, rfl, by go_num, by omega, S2⟩
              case measure => simp [intOf]; omega
            · have e3 : decide (best < 0) = false := decide_eq_false hbe
              by_cases hfa : (mf k : Int) + (cf k : Int) < far
              · have e4 : decide ((mf k : Int) + (cf k : Int) < far) = true := decide_eq_true hfa
                have S2 := S1 _ _ (hB.take hkc (.inr (by rw [Int.natCast_add]; exact hfa)))
                rw [Int.natCast_add] at S2
                clear S1 hB X B0
                go_wp2_with fail
                go_roundw
                case rel => exact ⟨k + 1, k, (mf k : Int) + (cf k : Int), rfl, rfl, by go_num, by omega, S2⟩
                case measure => simp [intOf]; omega
              · have e4 : decide ((mf k : Int) + (cf k : Int) < far) = false := decide_eq_false hfa
                have S2 := S1 _ _ (hB.skip (.inr (by rw [Int.natCast_add]; omega)))
                clear S1 hB X B0
                go_wp2_with fail
                go_roundw
                case rel => exact ⟨k + 1, best, far, rfl, rfl, by go_num, by omega, S2⟩
                case measure => simp [intOf]; omega
    · obtain rfl : k = n := by omega
      have hdk : decide ((k : Int) < (k : Int)) = false := decide_eq_false (by omega)
      have hZ := S.out.1
      have HL := rl_link hZ (k := cut) (by omega) (c := 0) (by omega) (by omega) (z := cut) rfl
      have hm := fun j => (M.out.2.2.1 j).1
      have hc := fun j => show 1 ≤ cf j ∧ cf j ≤ 128 from by have h1 := (M.out.2.2.2.1 j).1; have h2 := M.out.2.2.2.2 j; omega
      have B := Lib.hid (And.intro hm (And.intro hc S.out.2))
      clear S hZ hm hc M
      go_upto_region 28 with (go_at_call 10; refine HL.mono ?_; rintro e w4 ⟨rfl, h4⟩; clear HL)
      have HL := rl_link h4 (k := cut) (by omega) (c := 1) (by omega) (by omega) (z := cut) rfl
      rw [lM_cut] at HL
      clear h4
      go_upto_region 29 with (go_at_call 10; refine HL.mono ?_; rintro e w5 ⟨rfl, h5⟩; clear HL)
      have HFb := rl_fib h5 (lN_few (by omega)) (by omega)
      have X := Lib.hid h5
      clear h5
      go_upto_region 30 with (go_at_call 15; refine HFb.mono ?_; rintro e w9 ⟨fv, rs, rfl, hSu, hLf, hb9⟩; clear HFb)
      rcases lN_subj (by omega) hSu with ⟨hall, rfl⟩ | ⟨hex, rfl⟩
      · obtain rfl : best = -1 := by
          rcases B.out.2.2 with ⟨h, -⟩ | ⟨b, -, h2, h3, -⟩
          · exact h
          · exact absurd (hall b h2) h3
        have hdi := lN_dist_none (mf := mf) (cf := cf) hall
        have hO : Ol 54 fcl 4 w5.heap.size fv [] w9 := hLf.1
        obtain ⟨fp, fc, rfl, -⟩ := hO.form
        have X9 := Lib.hid (X.out.held hb9)
        have HDi := Lib.hid hdi
        simp only [List.length_nil]
        clear hLf hdi hO hall hSu X hb9 B
        go_wp2_with (first | (go_at_call 12; refine (ten_any w9).mono ?_; rintro e wa ⟨rfl, hba⟩; have HDs := rl_dist (X9.out.held hba) HDi.out; have XA := Lib.hid (X9.out.held hba); clear hba X9) | (go_at_call 16; refine HDs.mono ?_; rintro e wb ⟨rfl, hbb⟩; have XB := Lib.hid (XA.out.held hbb).below; clear XA HDs hbb) | fail)
        go_ret
        exact ⟨rfl, XB.out⟩
      · obtain ⟨b, rfl, hb, hbc, rfl, hbest⟩ : ∃ b : Nat, best = b ∧ b < k ∧ b ≠ cut ∧ far = (mf b + cf b : Nat) ∧ ∀ j, j < k → j ≠ cut → mf b + cf b ≤ mf j + cf j ∧ (j < b → mf b + cf b < mf j + cf j) := by
          rcases B.out.2.2 with ⟨-, h⟩ | h
          · obtain ⟨j, h1, h2⟩ := hex
            exact absurd (h j h1) h2
          · exact h
        have hdi := lN_dist (by omega) B.out.1 B.out.2.1 hb hbc hbest
        have hen := lN_entry (by omega) B.out.1 B.out.2.1 hb hbc hbest
        rw [hen] at hLf
        have X9 := Lib.hid (X.out.held hb9)
        obtain ⟨fg, fc, rfl, e0, e1, e2, e3⟩ := lf_one hLf
        replace e0 : w9.cell? ⟨fg, 0, none⟩ = some (.int .u32 167772160) := e0
        dsimp only at e1 e2 e3
        obtain ⟨zN, hzN⟩ : ∃ zN, mf b + cf b = zN := ⟨_, rfl⟩
        rw [hzN] at hdi ⊢
        have db : decide ((b : Int) < 0) = false := decide_eq_false (by omega)
        have HDi := Lib.hid hdi
        clear hLf hdi hzN hen hbest hex hSu X hb9 B
        go_upto_region 33 with (first | (go_at_call 12; refine (ten_any w9).mono ?_; rintro e wa ⟨rfl, hba⟩; have HDs := rl_dist (X9.out.held hba) HDi.out; replace e0 := held hba e0; replace e1 := held hba e1; replace e2 := held hba e2; replace e3 := held hba e3; have XA := Lib.hid (X9.out.held hba); clear hba X9) | (go_at_call 16; refine HDs.mono ?_; rintro e wb ⟨rfl, hbb⟩) | fail)
        replace e0 := held hbb e0
        replace e1 := held hbb e1
        replace e2 := held hbb e2
        replace e3 := held hbb e3
        have XB := Lib.hid (XA.out.held hbb).below
        have hTn : ∀ (d : Nat) (os : Array Obj), Calls Tryz.prog 12 #[] (Sort.grow (redrawn wb d) os) fun e w' => e = .returned (.agg #[.int .u32 167772160, .int .i64 8]) ∧ Below (Sort.grow (redrawn wb d) os).heap.size (Sort.grow (redrawn wb d) os) w' := fun d os => ten_any _
        have u0 := fun d os => cell_regrown e0 d os
        have u1 := fun d os => cell_regrown e1 d os
        have u2 := fun d os => cell_regrown e2 d os
        have u3 := fun d os => cell_regrown e3 d os
        clear e0 e1 e2 e3 hbb XA HDs
        refine wp_region_quiet_below (by kernel_rfl) (by kernel_rfl) ?_
        repeat (go_big_quiet_step (first | (go_at_call 12; exact Calls.regrown_of (hTn _ _))))
        refine wpQuiet_nil ?_
        intro _ hw'
        obtain ⟨⟨dq, osq⟩, hw''⟩ := hw'
        subst hw''
        have hbr := XB.out.trans ((below_regrown wb dq osq).mono XB.out.size)
        clear hTn u0 u1 u2 u3
        go_wp2_with fail
        go_ret
        exact ⟨rfl, hbr⟩
end Go.Proofs.YtmhcjhbmeohjdaaGreat

namespace Go.Proofs.YtmhcjhbmeohjdaaGreat
open Go.ChangeShapes Go.WideShapes Go.ChangeAt Go.RowKit Go.Joins T

theorem open_inz {H : Type} {enc : TypeId × Value → H} {w : World} {base : Nat} {hld : Bool} {t e : TypeId} {kd : IntKind} (ht : Tryz.prog.underlying t = some (.slice e)) (he : Tryz.prog.underlying e = some (.int kd)) (hc1 : Tryz.prog.cellsOf e = 1) {fuel : Nat} {A : Option Addr} {len cap : Nat} {x : DataW H × List MemPlace} (hf : DataW.trod enc Tryz.prog w base (fun _ => true) hld fuel t (Value.slice A len cap).cells.toList = some x) :
    ∃ f, InZ w kd A len cap f := by
  rcases open_ints ht he hc1 hf with ⟨hcs, hx⟩ | ⟨a, len', cap', zs, hcs, _, hl, hm, hz, hx, hcell, hwz⟩
  · simp [Value.cells] at hcs
    obtain ⟨rfl, rfl, rfl⟩ := hcs
    exact ⟨fun _ => 0, ⟨by unfold maxLen; omega, by omega, fun h => absurd h (by omega), fun b off e => by cases e⟩⟩
  · simp [Value.cells] at hcs
    obtain ⟨rfl, rfl, rfl⟩ := hcs
    simp only [if_true] at hz
    refine ⟨fun i => zs.getD i 0, ⟨by omega, hl, fun h0 => ?_, fun b off e i hi => ?_⟩⟩
    · obtain ⟨b, off, spot⟩ := a
      have h1 := hcell 0 (by omega)
      have hspot : spot = none := by simpa [Addr.add] using World.cell?_spot h1
      exact ⟨b, off, by rw [hspot]⟩
    · cases e
      rw [← hcell i (by omega), show (⟨b, off, none⟩ : Addr).add i = ⟨b, off + i, none⟩ by
        by_cases hq : i = 0
        · subst hq; rfl
        · simp [Addr.add, hq]]
set_option maxRecDepth 100000 in
theorem links_lifted (os : Os) (started : os.Started) (H : Type) (enc : TypeId × Value → H) :
    ReturnsInHanded {} Tryz.checked os 6 .any (Rows.routerLinksSpec.pre6 enc Tryz.prog Tryz.f6 Rows.routerLinksRow.domain false) (Rows.routerLinksSpec.post enc Tryz.prog Tryz.f6 false true false false) := by
  refine returnsInHanded_of_change (C := Tryz.checked) row_own started (by kernel_rfl) Tryz.func6
    (ChangeSpec.witness6 (enc := enc) (C := Tryz.checked) false ⟨#[], #[.slice none 0 0, .slice none 0 0, .int .i64 0], []⟩ 8 (by kernel_rfl) (by kernel_rfl) (by kernel_rfl) (by kernel_rfl)) ?_
  intro W base args ds gs before hval0 hW hcnd _
  have hval : ∀ (j : Nat) t v, Tryz.f6.params[j]? = some t → args[j]? = some v → Value.okWide Tryz.prog W .any base t v := hval0
  obtain ⟨p, q, hA0, hV, rfl, hfz, hnd⟩ := id hW
  have hA : DataW.TrodAll enc Tryz.prog W 0 (fun _ => true) true Tryz.f6.params.toList args.toList ds p := hA0
  rw [Tryz.params6] at hA hval
  obtain ⟨v0, vs0, d0, ds0, p0, q0, hargs, rfl, rfl, h0, r0⟩ := trodAll_cons hA
  obtain ⟨v1, vs1, d1, ds1, p1, q1, rfl, rfl, rfl, h1, r1⟩ := trodAll_cons r0
  obtain ⟨v2, vs2, d2, ds2, p2, q2, rfl, rfl, rfl, h2, r2⟩ := trodAll_cons r1
  obtain ⟨rfl, rfl, rfl⟩ := trodAll_nil r2
  obtain rfl : args = #[v0, v1, v2] := by cases args; simp_all
  obtain ⟨a0, len0, cap0, rfl⟩ := okWide_slice Tryz.underlying67 (hval 0 67 v0 rfl rfl)
  obtain ⟨a1, len1, cap1, rfl⟩ := okWide_slice Tryz.underlying68 (hval 1 68 v1 rfl rfl)
  obtain ⟨z, rfl, -, -, -⟩ := open_int Tryz.underlying3 (hval 2 3 v2 rfl rfl) h2
  obtain ⟨fuel0, hf0⟩ := h0
  obtain ⟨fuel1, hf1⟩ := h1
  obtain ⟨g0, hg0⟩ := open_inz Tryz.underlying67 Tryz.underlying23 cells_u16 hf0
  obtain ⟨g1, hg1⟩ := open_inz Tryz.underlying68 Tryz.underlying3 cells_int hf1
  refine (links_walk a0 a1 len0 cap0 len1 cap1 g0 g1 z W hg0 hg1).mono fun e W' ⟨he, hb⟩ => ?_
  subst he
  exact ⟨_, rfl, law_post row_laidOut (by rw [Tryz.params6]; decide +kernel) rfl Tryz.underlying4 rfl rfl hW hb⟩

theorem routerLinks_holds : Rows.RouterLinksSaid :=
  OpenClaim.holds_of_wide 6 Tryz.f6 rfl rfl rfl rfl rfl rfl rfl ⟨rfl, rfl, rfl, rfl, rfl⟩ rfl rfl rfl rfl rfl (by kernel_rfl) Tryz.func6 (by kernel_rfl)
    (of_decide_eq_true (by kernel_rfl)) (by unfold Func.isWrapper; first | (rw [if_pos (by decide +kernel)]; kernel_rfl) | (rw [if_neg (by decide +kernel)]; exact ⟨rfl, rfl⟩))
    (fun os started H enc _ => links_lifted os started H enc)
#print axioms routerLinks_holds
end Go.Proofs.YtmhcjhbmeohjdaaGreat

