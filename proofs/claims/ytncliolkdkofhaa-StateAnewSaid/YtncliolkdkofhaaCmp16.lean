/-
  cmp.Compare at uint16.
-/
import Derived.Test.YtncliolkdkofhaaCmp
namespace Go.Proofs.Ytncliolkdkofhaa
open Go.RowKit

theorem nan16 (x : Int) (w : World) : Calls Try.prog 50 #[.int .u16 x] w fun e w' => e = .returned (.bool false) ∧ w = w' := by
  go_enter Try.func50, Try.ntmps50
  go_wp2
  go_ret
  exact ⟨by simp, rfl⟩
theorem cmp16 (x y : Int) (w : World) : Calls Try.prog 41 #[.int .u16 x, .int .u16 y] w fun e w' => e = .returned (.int .i64 (cmpI x y)) ∧ w = w' := by
  rcases Int.lt_trichotomy x y with h | h | h
  · have F := Lib.hid (cmpI_lt h)
    go_enter Try.func41, Try.ntmps41
    go_wp2_with (go_at_call 50; refine (nan16 _ _).mono ?_; rintro e w' ⟨rfl, rfl⟩)
    go_ret
    exact ⟨ret_int F.out.symm, rfl⟩
  · subst h
    have F := Lib.hid (cmpI_self x)
    go_enter Try.func41, Try.ntmps41
    go_wp2_with (go_at_call 50; refine (nan16 _ _).mono ?_; rintro e w' ⟨rfl, rfl⟩)
    go_ret
    exact ⟨ret_int F.out.symm, rfl⟩
  · have F := Lib.hid (cmpI_gt h)
    go_enter Try.func41, Try.ntmps41
    go_wp2_with (go_at_call 50; refine (nan16 _ _).mono ?_; rintro e w' ⟨rfl, rfl⟩)
    go_ret
    exact ⟨ret_int F.out.symm, rfl⟩
end Go.Proofs.Ytncliolkdkofhaa
