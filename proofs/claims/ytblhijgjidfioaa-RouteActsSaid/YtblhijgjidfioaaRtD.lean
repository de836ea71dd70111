/-
  Distances over links; what links cost; which ways may be.
-/
import Derived.Test.YtblhijgjidfioaaRtT
import Derived.Test.YtblhijgjidfioaaItems
namespace Go.Proofs.Ytblhijgjidfioaa
open Go.RowKit Go.Maps

/-- a distance over a link besides -/
def clampCost (c : Int) : Int := if c < 1 then 1 else if 1000 < c then 1000 else c
def far (m c : Int) : Int := if 65535 < m + clampCost c then 65535 else m + clampCost c
theorem far_range {m c : Int} (hm : 0 ≤ m) : 0 ≤ far m c ∧ far m c ≤ 65535 := by unfold far clampCost; (repeat' split) <;> omega
theorem lost_any (s m : Int) (w : World) : Calls Try.prog 40 #[.agg #[.int .u32 s, .int .u16 m]] w fun e w' => e = .returned (.bool (m == 65535)) ∧ Below w.heap.size w w' := by
  go_enter Try.func40, Try.ntmps40
  go_wp2
  go_ret
  exact ⟨rfl, below_new _ _⟩
set_option maxHeartbeats 400000 in
theorem beyond_any (s m c : Int) (hm : 0 ≤ m) (hm2 : m ≤ 65535) (w : World) :
    Calls Try.prog 39 #[.agg #[.int .u32 s, .int .u16 m], .int .i64 c] w fun e w' => e = .returned (.agg #[.int .u32 s, .int .u16 (far m c)]) ∧ Below w.heap.size w w' := by
  go_enter Try.func39, Try.ntmps39
  go_wp2
  all_goals
    refine bodyPost_ret (v := .agg #[.int .u32 s, .int .u16 (far m c)]) ?_ rfl ⟨rfl, ((Below.refl _ _).alloc (Nat.le_refl _) _).alloc (by simp) _⟩
    simp [results, Try.results39, go_sem]
    unfold far clampCost
    (repeat' split) <;> omega
set_option maxHeartbeats 400000 in
theorem refBeyond_any (s m c : Int) (hm : 0 ≤ m) (hm2 : m ≤ 65535) (w : World) :
    Calls Try.prog 28 #[.agg #[.int .u32 s, .int .u16 m], .int .i64 c] w fun e w' => e = .returned (.agg #[.int .u32 s, .int .u16 (far m c)]) ∧ Below w.heap.size w w' := by
  go_enter Try.func28, Try.ntmps28
  go_wp2
  all_goals
    refine bodyPost_ret (v := .agg #[.int .u32 s, .int .u16 (far m c)]) ?_ rfl ⟨rfl, ((Below.refl _ _).alloc (Nat.le_refl _) _).alloc (by simp) _⟩
    simp [results, Try.results28, go_sem]
    unfold far clampCost
    (repeat' split) <;> omega

/-- a list of ints in memory -/
structure InI (w : World) (A : Option Addr) (len cap : Nat) (cs : List Int) : Prop where
  hl : cs.length = len
  hm : len ≤ maxLen
  hc : len ≤ cap
  hA : 0 < len → ∃ b off, A = some ⟨b, off, none⟩
  hF : ∀ c ∈ cs, -9223372036854775808 ≤ c ∧ c ≤ 9223372036854775807
  hR : ∀ b off, A = some ⟨b, off, none⟩ → ∀ i (h : i < cs.length), w.cell? ⟨b, off + i, none⟩ = some (.int .i64 cs[i])
theorem InI.held {w w' : World} {A : Option Addr} {len cap : Nat} {cs : List Int} (h : InI w A len cap cs) (hb : Below w.heap.size w w') : InI w' A len cap cs :=
  ⟨h.hl, h.hm, h.hc, h.hA, h.hF, fun b off e i hi => Go.Proofs.Ytblhijgjidfioaa.held hb (h.hR b off e i hi)⟩
theorem InI.turn {w w' : World} {A : Option Addr} {len cap : Nat} {cs : List Int} {L : List Nat} (h : InI w A len cap cs) (ht : Turn L w w') (hL : ∀ b off, A = some ⟨b, off, none⟩ → 0 < len → b ∉ L) : InI w' A len cap cs :=
  ⟨h.hl, h.hm, h.hc, h.hA, h.hF, fun b off e i hi => ht.cell (h.hR b off e i hi) (hL b off e (by have := h.hl; omega))⟩
/-- what the link to a neighbour costs -/
def costAt (cs : List Int) (fr : Int) : Int := if fr < 0 ∨ (cs.length : Int) ≤ fr then 0 else cs.getD fr.toNat 0
def cosV (A : Option Addr) (len cap most : Nat) : Value := .agg #[.slice A len cap, .int .u32 most]

set_option maxHeartbeats 400000 in
theorem cost_any {w : World} {A : Option Addr} {len cap : Nat} {cs : List Int} (h : InI w A len cap cs) (most : Nat) (fr : Int) :
    Calls Try.prog 17 #[cosV A len cap most, .int .i64 fr] w fun e w' => e = .returned (.int .i64 (costAt cs fr)) ∧ Below w.heap.size w w' := by
  have hl := h.hl
  have hm := h.hm
  unfold maxLen at hm
  unfold cosV
  by_cases h1 : fr < 0
  · have E := Lib.hid (show costAt cs fr = 0 by unfold costAt; rw [if_pos (.inl h1)])
    have d1 : decide (fr < 0) = true := decide_eq_true h1
    go_enter Try.func17, Try.ntmps17
    go_wp2
    go_ret
    exact ⟨ret_int E.out.symm, below_new _ _⟩
  · have d1 : decide (fr < 0) = false := decide_eq_false h1
    by_cases h2 : (len : Int) ≤ fr
    · have E := Lib.hid (show costAt cs fr = 0 by unfold costAt; rw [if_pos (.inr (by omega))])
      have d2 : decide ((len : Int) ≤ fr) = true := decide_eq_true h2
      go_enter Try.func17, Try.ntmps17
      go_wp2
      go_ret
      exact ⟨ret_int E.out.symm, below_new _ _⟩
    · obtain ⟨k, rfl⟩ := Int.eq_ofNat_of_zero_le (show 0 ≤ fr by omega)
      have d2 : decide ((len : Int) ≤ (k : Int)) = false := decide_eq_false h2
      have hk : k < cs.length := by omega
      obtain ⟨b, off, rfl⟩ := h.hA (by omega)
      obtain ⟨c, hc⟩ : ∃ c, cs[k] = c := ⟨_, rfl⟩
      have hcell := h.hR b off rfl k hk
      rw [hc] at hcell
      have E := Lib.hid (show costAt cs k = c by unfold costAt; rw [if_neg (by omega), ← hc]; simp [hk])
      have c2 := held (below_new w (.cells #[.slice (some ⟨b, off, none⟩) len cap, .int .u32 most] 30)) hcell
      have hkl : (k : Int) < (len : Int) := by omega
      clear h hc
      go_enter Try.func17, Try.ntmps17
      go_wp2
      go_ret
      exact ⟨ret_int E.out.symm, below_new _ _⟩

set_option maxHeartbeats 400000 in
theorem may_any (A : Option Addr) (len cap most : Nat) (r : Rt) (w : World) :
    Calls Try.prog 18 #[cosV A len cap most, rV r] w fun e w' => e = .returned (.bool (decide (r.id ≤ most))) ∧ Below w.heap.size w w' := by
  obtain ⟨fr, id, seq, met, exp⟩ := r
  have E := Lib.hid (show decide ((id : Int) ≤ (most : Int)) = decide (id ≤ most) from decide_eq_decide.2 (by omega))
  unfold cosV rV
  go_enter Try.func18, Try.ntmps18
  go_wp2
  go_ret
  exact ⟨ret_bool (by first | exact E.out | (have := E.out; simp at this ⊢)), next (below_new _ _) (below_new _ _)⟩
theorem may_eq {A : Option Addr} {len cap most : Nat} {r : Rt} {q : Bool} (h : decide (r.id ≤ most) = q) (w : World) :
    Calls Try.prog 18 #[cosV A len cap most, rV r] w fun e w' => e = .returned (.bool q) ∧ Below w.heap.size w w' := h ▸ may_any A len cap most r w
theorem lost_eq {s m : Int} {r : Bool} (h : (m == 65535) = r) (w : World) :
    Calls Try.prog 40 #[.agg #[.int .u32 s, .int .u16 m]] w fun e w' => e = .returned (.bool r) ∧ Below w.heap.size w w' := h ▸ lost_any s m w
end Go.Proofs.Ytblhijgjidfioaa
