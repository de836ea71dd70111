/-
  cmp.Compare at uint32.
-/
import Derived.Test.YtblhijgjidfioaaCmp
namespace Go.Proofs.Ytblhijgjidfioaa
open Go.RowKit

theorem nan32 (x : Int) (w : World) : Calls Try.prog 61 #[.int .u32 x] w fun e w' => e = .returned (.bool false) ∧ w = w' := by
  go_enter Try.func61, Try.ntmps61
  go_wp2
  go_ret
  exact ⟨by simp, rfl⟩
theorem cmp32 (x y : Int) (w : World) : Calls Try.prog 44 #[.int .u32 x, .int .u32 y] w fun e w' => e = .returned (.int .i64 (cmpI x y)) ∧ w = w' := by
  rcases Int.lt_trichotomy x y with h | h | h
  · have F := Lib.hid (cmpI_lt h)
    go_enter Try.func44, Try.ntmps44
    go_wp2_with (go_at_call 61; refine (nan32 _ _).mono ?_; rintro e w' ⟨rfl, rfl⟩)
    go_ret
    exact ⟨ret_int F.out.symm, rfl⟩
  · subst h
    have F := Lib.hid (cmpI_self x)
    go_enter Try.func44, Try.ntmps44
    go_wp2_with (go_at_call 61; refine (nan32 _ _).mono ?_; rintro e w' ⟨rfl, rfl⟩)
    go_ret
    exact ⟨ret_int F.out.symm, rfl⟩
  · have F := Lib.hid (cmpI_gt h)
    go_enter Try.func44, Try.ntmps44
    go_wp2_with (go_at_call 61; refine (nan32 _ _).mono ?_; rintro e w' ⟨rfl, rfl⟩)
    go_ret
    exact ⟨ret_int F.out.symm, rfl⟩
end Go.Proofs.Ytblhijgjidfioaa
