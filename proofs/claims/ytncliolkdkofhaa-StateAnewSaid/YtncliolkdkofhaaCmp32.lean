/-
  cmp.Compare at uint32.
-/
import Derived.Test.YtncliolkdkofhaaCmp
namespace Go.Proofs.Ytncliolkdkofhaa
open Go.RowKit

theorem nan32 (x : Int) (w : World) : Calls Try.prog 49 #[.int .u32 x] w fun e w' => e = .returned (.bool false) ∧ w = w' := by
  go_enter Try.func49, Try.ntmps49
  go_wp2
  go_ret
  exact ⟨by simp, rfl⟩
theorem cmp32 (x y : Int) (w : World) : Calls Try.prog 40 #[.int .u32 x, .int .u32 y] w fun e w' => e = .returned (.int .i64 (cmpI x y)) ∧ w = w' := by
  rcases Int.lt_trichotomy x y with h | h | h
  · have F := Lib.hid (cmpI_lt h)
    go_enter Try.func40, Try.ntmps40
    go_wp2_with (go_at_call 49; refine (nan32 _ _).mono ?_; rintro e w' ⟨rfl, rfl⟩)
    go_ret
    exact ⟨ret_int F.out.symm, rfl⟩
  · subst h
    have F := Lib.hid (cmpI_self x)
    go_enter Try.func40, Try.ntmps40
    go_wp2_with (go_at_call 49; refine (nan32 _ _).mono ?_; rintro e w' ⟨rfl, rfl⟩)
    go_ret
    exact ⟨ret_int F.out.symm, rfl⟩
  · have F := Lib.hid (cmpI_gt h)
    go_enter Try.func40, Try.ntmps40
    go_wp2_with (go_at_call 49; refine (nan32 _ _).mono ?_; rintro e w' ⟨rfl, rfl⟩)
    go_ret
    exact ⟨ret_int F.out.symm, rfl⟩
end Go.Proofs.Ytncliolkdkofhaa
