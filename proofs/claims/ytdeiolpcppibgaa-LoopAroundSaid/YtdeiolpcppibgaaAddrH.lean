/-
  The contracts of package addr's Has, and of the statement's own.
-/
import Derived.Test.YtdeiolpcppibgaaAddrW
import Derived.Lib.QuietBelow
namespace Go.Proofs.Ytdeiolpcppibgaa
open Go.RowKit

theorem right_eq {a : Nat} {len : Int} {r : Bool} (ha : a < 4294967296) (h : Am.right a len = r) (w : World) :
    Calls Try.prog 24 #[.agg #[.int .u32 a, .int .i64 len]] w fun e w' => e = .returned (.bool r) ∧ Below w.heap.size w w' := h ▸ right_any a len ha w
theorem refRight_eq {a : Nat} {len : Int} {r : Bool} (ha : a < 4294967296) (h : Am.right a len = r) (w : World) :
    Calls Try.prog 11 #[.agg #[.int .u32 a, .int .i64 len]] w fun e w' => e = .returned (.bool r) ∧ Below w.heap.size w w' := h ▸ refRight_any a len ha w
theorem right_len {a : Nat} {len : Int} (h : Am.right a len = true) : ∃ n : Nat, n ≤ 32 ∧ len = n ∧ a % 2 ^ (32 - n) = 0 := by
  by_cases h1 : len < 0
  · rw [Am.right_neg h1] at h; cases h
  · by_cases h2 : 32 < len
    · rw [Am.right_big h2] at h; cases h
    · refine ⟨len.toNat, by omega, by omega, ?_⟩
      rw [show len = (len.toNat : Int) from by omega, Am.right_in (by omega)] at h
      exact of_decide_eq_true h
theorem andNot_test (x a n : Nat) (hx : x < 4294967296) (hn : n ≤ 32) (hz : a % 2 ^ (32 - n) = 0) : (bits .andNot .u32 (x : Int) (4294967295 / 2 ^ n) == (a : Int)) = decide (x / 2 ^ (32 - n) = a / 2 ^ (32 - n)) := by
  rw [behind_int, u32_andNot_nat x _ hx (behind_lt n), Am.andNot_behind x n hx hn, Bool.eq_iff_iff]
  simp only [beq_iff_eq, decide_eq_true_eq]
  rw [← Am.strip_iff a n x hz]
  omega
theorem behind_below (n : Nat) (hn : n ≤ 32) (w : World) : Calls Try.prog 27 #[.int .i64 n] w fun e w' => e = .returned (.int .u32 (4294967295 / 2 ^ n : Nat)) ∧ Below w.heap.size w w' := (behind_any n hn w).mono fun _ _ h => ⟨h.1, h.2 ▸ Below.refl _ _⟩
theorem keep2 {w w' w'' : World} {p0 p1 : Addr} {v0 v1 : Value} (h : w'.cell? p0 = some v0 ∧ w'.cell? p1 = some v1 ∧ Below w.heap.size w w') (hb : Below w'.heap.size w' w'') :
    w''.cell? p0 = some v0 ∧ w''.cell? p1 = some v1 ∧ Below w.heap.size w w'' := ⟨held hb h.1, held hb h.2.1, next h.2.2 hb⟩

set_option maxHeartbeats 400000 in
theorem has_any (a : Nat) (len : Int) (x : Nat) (ha : a < 4294967296) (hx : x < 4294967296) (w : World) :
    Calls Try.prog 21 #[.agg #[.int .u32 a, .int .i64 len], .int .u32 x] w fun e w' => e = .returned (.bool (Am.has a len x)) ∧ Below w.heap.size w w' := by
  cases hr : Am.right a len
  · have R := Lib.hid hr
    have F := Lib.hid (Am.has_no (a := x) hr)
    clear hr
    go_enter Try.func21, Try.ntmps21
    go_wp2_with fail
    obtain ⟨c0, c1⟩ := pre_new w 34 a len
    have hb := below_new w (.cells #[.int .u32 a, .int .i64 len] 34)
    generalize w.alloc (.cells #[.int .u32 a, .int .i64 len] 34) = w2 at *
    have HB := Lib.hid hb
    clear hb
    have k0 := fun d os => cell_regrown c0 d os
    have k1 := fun d os => cell_regrown c1 d os
    refine wp_region_quiet_below (by kernel_rfl) (by kernel_rfl) ?_
    repeat (go_big_quiet_step ((go_at_call 24; exact Calls.regrown_of (right_eq ha R.out _))))
    refine wpQuiet_nil ?_
    intro _ hw'
    obtain ⟨⟨dq, osq⟩, hw''⟩ := hw'
    subst hw''
    go_wp2
    go_ret
    exact ⟨ret_bool F.out.symm, next HB.out (below_regrown _ _ _)⟩
  · obtain ⟨n, hn, rfl, hz⟩ := right_len hr
    have R := Lib.hid hr
    have F := Lib.hid ((Am.has_in (a := x) hr).trans (andNot_test x a n hx hn hz).symm)
    clear hr
    have Z := Lib.hid hz
    clear hz
    go_enter Try.func21, Try.ntmps21
    go_wp2_with fail
    obtain ⟨c0, c1⟩ := pre_new w 34 a n
    have hb := below_new w (.cells #[.int .u32 a, .int .i64 n] 34)
    generalize w.alloc (.cells #[.int .u32 a, .int .i64 n] 34) = w2 at *
    have HB := Lib.hid hb
    clear hb
    have k0 := fun d os => cell_regrown c0 d os
    have k1 := fun d os => cell_regrown c1 d os
    refine wp_region_quiet_below (by kernel_rfl) (by kernel_rfl) ?_
    repeat (go_big_quiet_step (first | (go_at_call 24; exact Calls.regrown_of (right_eq ha R.out _)) | (go_at_call 27; exact Calls.regrown_of (behind_below _ hn _))))
    refine wpQuiet_nil ?_
    intro _ hw'
    obtain ⟨⟨dq, osq⟩, hw''⟩ := hw'
    subst hw''
    go_wp2
    go_ret
    exact ⟨ret_bool F.out.symm, next HB.out (below_regrown _ _ _)⟩

/-! ### the statement's own Has -/
theorem bit_left (a i : Nat) (ha : a < 4294967296) (hi : i < 32) (w : World) : Calls Try.prog 18 #[.int .u32 a, .int .i64 i] w fun e w' => e = .returned (.bool (Am.bit a i)) ∧ w' = w := (bit_any a i ha hi w).mono fun _ _ h => ⟨h.1, h.2.symm⟩
set_option maxHeartbeats 400000 in
theorem refHas_any (a : Nat) (len : Int) (x : Nat) (ha : a < 4294967296) (hx : x < 4294967296) (w : World) :
    Calls Try.prog 22 #[.agg #[.int .u32 a, .int .i64 len], .int .u32 x] w fun e w' => e = .returned (.bool (Am.has a len x)) ∧ Below w.heap.size w w' := by
  cases hr : Am.right a len
  · have R := Lib.hid hr
    have F := Lib.hid (Am.has_no (a := x) hr)
    clear hr
    go_enter Try.func22, Try.ntmps22
    go_wp2_with fail
    refine (refRight_eq ha R.out _).mono ?_
    rintro e w1 ⟨rfl, hb⟩
    have HB := Lib.hid (next (below_new w (.cells #[.int .u32 a, .int .i64 len] 34)) hb)
    clear hb
    go_wp2_with fail
    go_ret
    exact ⟨ret_bool F.out.symm, HB.out⟩
  · obtain ⟨n, hn, rfl, -⟩ := right_len hr
    have R := Lib.hid hr
    have F := Lib.hid (Am.has_in (a := x) hr)
    clear hr
    go_enter Try.func22, Try.ntmps22
    go_wp2_with fail
    obtain ⟨c0, c1⟩ := pre_new w 34 a n
    have hb := below_new w (.cells #[.int .u32 a, .int .i64 n] 34)
    generalize w.alloc (.cells #[.int .u32 a, .int .i64 n] 34) = w2 at *
    have HB := Lib.hid hb
    clear hb
    refine (refRight_eq ha R.out _).mono ?_
    rintro e w1 ⟨rfl, hb⟩
    replace c0 := held hb c0; replace c1 := held hb c1
    replace HB := Lib.hid (next HB.out hb); clear hb
    go_wp2_with fail
    have K := Lib.hid (And.intro c0 c1)
    clear c0 c1
    go_loopw [5] (fun i wr => ∃ k : Nat, k ≤ n ∧ i = .int .i64 k ∧ x / 2 ^ (32 - k) = a / 2 ^ (32 - k) ∧ (wr.cell? ⟨w.heap.size, 0, none⟩ = some (.int .u32 a) ∧ wr.cell? ⟨w.heap.size, 1, none⟩ = some (.int .i64 n)) ∧ Below w.heap.size w wr) (fun i _ => n - (intOf i).toNat)
    case atStart => exact ⟨0, by omega, rfl, Am.top_none a x ha hx, K.out, HB.out⟩
    case round =>
      clear K HB
      obtain ⟨k, hk, rfl, hz, ⟨c0, c1⟩, hb⟩ := hrel
      have HB := Lib.hid hb
      have Z := Lib.hid hz
      clear hz hb
      by_cases hlt : k < n
      · have E := Lib.hid (Am.top_succ a x k (by omega))
        have hc0 := fun n => (show (wr.drewN n).cell? ⟨w.heap.size, 0, none⟩ = some (.int .u32 a) from c0)
        go_wp2_with fail
        go_quiet ((go_at_call 18; exact Calls.quiet_of_same (bit_left _ _ (by assumption) (by omega) _)))
        go_wp2
        · have hne : (!Am.bit x k == Am.bit a k) = true := by assumption
          go_ret
          refine ⟨ret_bool ?_, drewN_below HB.out _⟩
          rw [F.out]
          symm
          rw [decide_eq_false_iff_not]
          intro h
          have h2 := (E.out.1 (Am.top_down (j := k + 1) hlt hn h)).2
          rw [h2] at hne
          simp at hne
        · have heq : (!Am.bit x k == Am.bit a k) = false := by assumption
          go_roundw
          case rel => exact ⟨k + 1, by omega, by go_num, E.out.2 ⟨Z.out, by revert heq; cases Am.bit x k <;> cases Am.bit a k <;> simp⟩, ⟨c0, c1⟩, drewN_below HB.out _⟩
          case measure => simp [intOf]; omega
      · obtain rfl : k = n := by omega
        go_wp2
        go_ret
        exact ⟨ret_bool (by rw [F.out]; symm; rw [decide_eq_true_eq]; exact Z.out), HB.out⟩
end Go.Proofs.Ytdeiolpcppibgaa
