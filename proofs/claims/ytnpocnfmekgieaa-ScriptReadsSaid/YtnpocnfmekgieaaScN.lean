/-
  Package script: scripted, wrong, and what of a list can be written; Encode.
-/
import Derived.Test.YtnpocnfmekgieaaScRd
import Derived.Test.YtnpocnfmekgieaaScW
namespace Go.Proofs.Ytnpocnfmekgieaa
open Go.RowKit Go.Maps Sc

def Sc.scripted (n s : Int) : Bool := decide (1 ≤ n) && decide (n ≤ 8) && decide (1 ≤ s) && decide (s ≤ 512)
theorem scripted_any (n s : Int) (w : World) : Calls Try.prog 21 #[.int .i64 n, .int .i64 s] w fun e w' => e = .returned (.bool (Sc.scripted n s)) ∧ w = w' := by
  unfold Sc.scripted
  cases h1 : decide (1 ≤ n)
  · go_enter Try.func21, Try.ntmps21
    go_wp2_with fail
    go_ret
    exact ⟨rfl, rfl⟩
  cases h2 : decide (n ≤ 8)
  · go_enter Try.func21, Try.ntmps21
    go_wp2_with fail
    go_ret
    exact ⟨rfl, rfl⟩
  cases h3 : decide (1 ≤ s)
  · go_enter Try.func21, Try.ntmps21
    go_wp2_with fail
    go_ret
    exact ⟨rfl, rfl⟩
  · go_enter Try.func21, Try.ntmps21
    go_wp2_with fail
    go_ret
    exact ⟨ret_bool (by simp), rfl⟩
theorem scripted_eq {n s : Int} {r : Bool} (h : Sc.scripted n s = r) (w : World) : Calls Try.prog 21 #[.int .i64 n, .int .i64 s] w fun e w' => e = .returned (.bool r) ∧ w = w' := h ▸ scripted_any n s w

set_option maxHeartbeats 1000000 in
theorem wrong_any (e : Ev) (ha : e.a < 4294967296) (w : World) : Calls Try.prog 23 #[.agg (ecs e)] w fun x w' => x = .returned (.bool (!right e)) ∧ Below w.heap.size w w' := by
  obtain ⟨r, hr⟩ : ∃ r, right e = r := ⟨_, rfl⟩
  have HR : ∀ u : World, Calls Try.prog 9 #[.agg (ecs e)] u fun x w' => x = .returned (.bool r) ∧ Below u.heap.size u w' := fun u => eright_eq ha hr u
  rw [hr]
  obtain ⟨kind, i, k, n, a, len, p⟩ := e
  unfold ecs at HR ⊢
  simp only at HR ⊢
  generalize (⟨p.toArray⟩ : ByteArray) = s at *
  clear hr ha
  have hb := below_new w (.cells #[.int .i64 kind, .int .i64 i, .int .i64 k, .int .i64 n, .int .u32 (a : Nat), .int .i64 len, .string s] 30)
  have HB := Lib.hid hb
  clear hb
  go_enter Try.func23, Try.ntmps23
  go_wp2_with (go_at_call 9; refine (HR _).mono ?_; rintro e w5 ⟨rfl, hb5⟩)
  go_ret
  exact ⟨rfl, next HB.out hb5⟩

/-- all of a list can be written -/
def Sc.allRight (l : List Ev) : Bool := l.all fun e => right e
set_option maxHeartbeats 2000000 in
theorem index_any {A : Option Addr} {n cap : Nat} {es : List Ev} {w : World} (h : El w A n cap es) :
    Calls Try.prog 30 #[.slice A n cap, Value.func (.func 23) #[] #[]] w fun x w' => ∃ z : Int, x = .returned (.int .i64 z) ∧ decide (0 ≤ z) = !Sc.allRight es ∧ Below w.heap.size w w' := by
  have hn := h.len
  have hmx := h.max
  have hmx' : n ≤ 9223372036854775807 := by unfold maxLen at hmx; omega
  have H := Lib.hid h
  clear h hmx
  go_enter Try.func30, Try.ntmps30
  go_wp2_with fail
  go_loopw [8] (fun v wr => ∃ k : Nat, v = .int .i64 (k : Nat) ∧ k ≤ n ∧ Hid ((∀ (j : Nat) (hj : j < es.length), j < k → right es[j] = true) ∧ Below w.heap.size w wr)) (fun v _ => n - (intOf v).toNat)
  case atStart => exact ⟨0, rfl, Nat.zero_le _, Lib.hid ⟨fun j hj h => absurd h (by omega), .refl _ _⟩⟩
  case round =>
    obtain ⟨k, rfl, hkn, R⟩ := hrel
    by_cases hlt : k < n
    · have d1 : decide ((k : Int) < (n : Int)) = true := decide_eq_true (by omega)
      have hk : k < es.length := by omega
      obtain ⟨e, he⟩ : ∃ e, es[k] = e := ⟨_, rfl⟩
      obtain ⟨b, off, rfl⟩ := H.out.plain (by omega)
      have hfit := (H.out.good e (by rw [← he]; exact List.getElem_mem hk)).fits
      obtain ⟨c0, c1, c2, c3, c4, c5, c6⟩ := (H.out.held R.out.2).at_ hk he
      have HW0 := fun u => wrong_any e hfit.a u
      obtain ⟨r, hr⟩ : ∃ r, right e = r := ⟨_, rfl⟩
      rw [hr] at HW0
      have HW : ∀ u, Calls Try.prog 23 #[.agg #[.int .i64 e.kind, .int .i64 e.i, .int .i64 e.k, .int .i64 e.n, .int .u32 (e.a : Nat), .int .i64 e.len, .string ⟨e.p.toArray⟩]] u fun x w' => x = .returned (.bool (!r)) ∧ Below u.heap.size u w' := HW0
      have EH := Lib.hid (And.intro hk (And.intro he hr))
      clear HW0 hr he hfit
      generalize e.kind = y0 at *
      generalize e.i = y1 at *
      generalize e.k = y2 at *
      generalize e.n = y3 at *
      generalize e.a = y4 at *
      generalize e.len = y5 at *
      generalize (⟨e.p.toArray⟩ : ByteArray) = s at *
      have i1 : (k : Int) < (n : Int) := by omega
      cases r with
      | true =>
        go_wp2_with (go_at_call 23; refine (HW _).mono ?_; rintro e5 w5 ⟨rfl, hb5⟩)
        have R2 := Lib.hid (And.intro (show ∀ (j : Nat) (hj : j < es.length), j < k + 1 → right es[j] = true from fun j hj hjk => by
          by_cases e1 : j = k
          · subst e1; rw [EH.out.2.1, EH.out.2.2]
          · exact R.out.1 j hj (by omega)) (R.out.2.trans (hb5.mono R.out.2.size)))
        go_roundw
        case rel => exact ⟨k + 1, by go_num, by omega, R2⟩
        case measure => simp [intOf]; omega
      | false =>
        go_wp2_with (go_at_call 23; refine (HW _).mono ?_; rintro e5 w5 ⟨rfl, hb5⟩)
        go_ret
        refine ⟨_, rfl, ?_, R.out.2.trans (hb5.mono R.out.2.size)⟩
        rw [decide_eq_true (by omega)]
        symm
        rw [Bool.not_eq_true', allRight, List.all_eq_false]
        exact ⟨e, by rw [← EH.out.2.1]; exact List.getElem_mem _, by rw [EH.out.2.2]; simp⟩
    · obtain rfl : k = n := by omega
      have d1 : decide ((k : Int) < (k : Int)) = false := decide_eq_false (by omega)
      go_wp2_with fail
      go_ret
      refine ⟨_, rfl, ?_, R.out.2⟩
      rw [decide_eq_false (by omega)]
      symm
      rw [Bool.not_eq_false', allRight, List.all_eq_true]
      intro x hx
      obtain ⟨j, hj, rfl⟩ := List.getElem_of_mem hx
      exact R.out.1 j hj (by omega)
theorem contains_any {A : Option Addr} {n cap : Nat} {es : List Ev} {w : World} (h : El w A n cap es) :
    Calls Try.prog 22 #[.slice A n cap, Value.func (.func 23) #[] #[]] w fun x w' => x = .returned (.bool (!Sc.allRight es)) ∧ Below w.heap.size w w' := by
  have HI := index_any h
  clear h
  go_enter Try.func22, Try.ntmps22
  go_wp2_with (go_at_call 30; refine HI.mono ?_; rintro e5 w5 ⟨z, rfl, hz, hb5⟩)
  go_ret
  exact ⟨by first | rfl | exact ret_bool hz, hb5⟩
end Go.Proofs.Ytnpocnfmekgieaa
