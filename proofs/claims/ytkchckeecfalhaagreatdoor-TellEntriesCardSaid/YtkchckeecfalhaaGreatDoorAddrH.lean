/-
  The contracts of package addr's Has, and of the statement's own.
-/
import Derived.Test.YtkchckeecfalhaaGreatDoorAddrW
import Derived.Lib.QuietBelow
namespace Go.Proofs.YtkchckeecfalhaaGreatDoor
open Go.RowKit

theorem right_eq {a : Nat} {len : Int} {r : Bool} (ha : a < 4294967296) (h : Am.right a len = r) (w : World) :
    Calls Tryz.prog 32 #[.agg #[.int .u32 a, .int .i64 len]] w fun e w' => e = .returned (.bool r) ∧ Below w.heap.size w w' := h ▸ right_any a len ha w
theorem right_len {a : Nat} {len : Int} (h : Am.right a len = true) : ∃ n : Nat, n ≤ 32 ∧ len = n ∧ a % 2 ^ (32 - n) = 0 := by
  by_cases h1 : len < 0
  · rw [Am.right_neg h1] at h; cases h
  · by_cases h2 : 32 < len
    · rw [Am.right_big h2] at h; cases h
    · refine ⟨len.toNat, by omega, by omega, ?_⟩
      rw [show len = (len.toNat : Int) from by omega, Am.right_in (by omega)] at h
      exact of_decide_eq_true h
theorem andNot_test (x a n : Nat) (hx : x < 4294967296) (hn : n ≤ 32) (hz : a % 2 ^ (32 - n) = 0) : (bits .andNot .u32 (x : Int) (4294967295 / 2 ^ n) == (a : Int)) = decide (x / 2 ^ (32 - n) = a / 2 ^ (32 - n)) := by
  rw [behind_int, u32_andNot_nat x _ hx (behind_lt n), Am.andNot_behind x n hx hn, Bool.eq_iff_iff]
  simp only [beq_iff_eq, decide_eq_true_eq]
  rw [← Am.strip_iff a n x hz]
  omega
theorem behind_below (n : Nat) (hn : n ≤ 32) (w : World) : Calls Tryz.prog 48 #[.int .i64 n] w fun e w' => e = .returned (.int .u32 (4294967295 / 2 ^ n : Nat)) ∧ Below w.heap.size w w' := (behind_any n hn w).mono fun _ _ h => ⟨h.1, h.2 ▸ Below.refl _ _⟩
theorem keep2 {w w' w'' : World} {p0 p1 : Addr} {v0 v1 : Value} (h : w'.cell? p0 = some v0 ∧ w'.cell? p1 = some v1 ∧ Below w.heap.size w w') (hb : Below w'.heap.size w' w'') :
    w''.cell? p0 = some v0 ∧ w''.cell? p1 = some v1 ∧ Below w.heap.size w w'' := ⟨held hb h.1, held hb h.2.1, next h.2.2 hb⟩

set_option maxHeartbeats 400000 in
theorem has_any (a : Nat) (len : Int) (x : Nat) (ha : a < 4294967296) (hx : x < 4294967296) (w : World) :
    Calls Tryz.prog 130 #[.agg #[.int .u32 a, .int .i64 len], .int .u32 x] w fun e w' => e = .returned (.bool (Am.has a len x)) ∧ Below w.heap.size w w' := by
  cases hr : Am.right a len
  · have R := Lib.hid hr
    have F := Lib.hid (Am.has_no (a := x) hr)
    clear hr
    go_enter Tryz.func130, Tryz.ntmps130
    go_wp2_with fail
    obtain ⟨c0, c1⟩ := pre_new w 24 a len
    have hb := below_new w (.cells #[.int .u32 a, .int .i64 len] 24)
    generalize w.alloc (.cells #[.int .u32 a, .int .i64 len] 24) = w2 at *
    have HB := Lib.hid hb
    clear hb
    have k0 := fun d os => cell_regrown c0 d os
    have k1 := fun d os => cell_regrown c1 d os
    refine wp_region_quiet_below (by kernel_rfl) (by kernel_rfl) ?_
    repeat (go_big_quiet_step ((go_at_call 32; exact Calls.regrown_of (right_eq ha R.out _))))
    refine wpQuiet_nil ?_
    intro _ hw'
    obtain ⟨⟨dq, osq⟩, hw''⟩ := hw'
    subst hw''
    go_wp2
    go_ret
    exact ⟨ret_bool F.out.symm, next HB.out (below_regrown _ _ _)⟩
  · obtain ⟨n, hn, rfl, hz⟩ := right_len hr
    have R := Lib.hid hr
    have F := Lib.hid ((Am.has_in (a := x) hr).trans (andNot_test x a n hx hn hz).symm)
    clear hr
    have Z := Lib.hid hz
    clear hz
    go_enter Tryz.func130, Tryz.ntmps130
    go_wp2_with fail
    obtain ⟨c0, c1⟩ := pre_new w 24 a n
    have hb := below_new w (.cells #[.int .u32 a, .int .i64 n] 24)
    generalize w.alloc (.cells #[.int .u32 a, .int .i64 n] 24) = w2 at *
    have HB := Lib.hid hb
    clear hb
    have k0 := fun d os => cell_regrown c0 d os
    have k1 := fun d os => cell_regrown c1 d os
    refine wp_region_quiet_below (by kernel_rfl) (by kernel_rfl) ?_
    repeat (go_big_quiet_step (first | (go_at_call 32; exact Calls.regrown_of (right_eq ha R.out _)) | (go_at_call 48; exact Calls.regrown_of (behind_below _ hn _))))
    refine wpQuiet_nil ?_
    intro _ hw'
    obtain ⟨⟨dq, osq⟩, hw''⟩ := hw'
    subst hw''
    go_wp2
    go_ret
    exact ⟨ret_bool F.out.symm, next HB.out (below_regrown _ _ _)⟩

/-! ### the statement's own Has -/
end Go.Proofs.YtkchckeecfalhaaGreatDoor
