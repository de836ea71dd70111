/-
  AddrHas: the walk.
-/
import Derived.Test.YtclfchdgagpahaaDoorAddrHd
namespace Go.Proofs.YtclfchdgagpahaaDoor
open Go.RowKit

theorem refHas_eq {a : Nat} {len : Int} {x : Nat} {r : Bool} (ha : a < 4294967296) (hx : x < 4294967296) (h : Am.has a len x = r) (w : World) :
    Calls Tryd.prog 11 #[.agg #[.int .u32 a, .int .i64 len], .int .u32 x] w fun e w' => e = .returned (.bool r) ∧ Below w.heap.size w w' := h ▸ refHas_any a len x ha hx w

set_option maxHeartbeats 1000000 in
theorem addrHas_walk (a : Nat) (len : Int) (x : Nat) (ha : a < 4294967296) (hx : x < 4294967296) (w : World) (ht : Tab w) :
    Calls Tryd.prog 3 #[.agg #[.int .u32 a, .int .i64 len], .int .u32 x] w fun e w' => e = .returned (.bool true) ∧ Below w.heap.size w w' := by
  obtain ⟨r, hr⟩ : ∃ r, Am.right a len = r := ⟨_, rfl⟩
  obtain ⟨s, hs⟩ : ∃ r, Am.has a len x = r := ⟨_, rfl⟩
  have R := Lib.hid hr
  have S := Lib.hid hs
  have HT := Lib.hid ht
  clear ht hr hs
  cases r <;> cases s
  all_goals
    go_enter Tryd.func3, Tryd.ntmps3
    go_wp2_with fail
    obtain ⟨c0, c1⟩ := pre_new w 24 a len
    have hb := below_new w (.cells #[.int .u32 a, .int .i64 len] 24)
    generalize w.alloc (.cells #[.int .u32 a, .int .i64 len] 24) = w2 at *
    have HB := Lib.hid hb
    clear hb
    refine (addr_head _ (HT.out.held HB.out)).mono ?_
    rintro e w3 ⟨rfl, hb⟩
    replace c0 := held hb c0; replace c1 := held hb c1
    replace HB := Lib.hid (next HB.out hb); clear hb
    go_wp2_with fail
    have k0 := fun d os => cell_regrown c0 d os
    have k1 := fun d os => cell_regrown c1 d os
    refine wp_region_quiet_below (by kernel_rfl) (by kernel_rfl) ?_
    repeat (go_big_quiet_step (first | (go_at_call 8; exact Calls.regrown_of (right_eq ha R.out _)) | (go_at_call 9; exact Calls.regrown_of (refRight_eq ha R.out _)) | (go_at_call 10; exact Calls.regrown_of (has_eq ha hx S.out _)) | (go_at_call 11; exact Calls.regrown_of (refHas_eq ha hx S.out _))))
    refine wpQuiet_nil ?_
    intro _ hw'
    obtain ⟨⟨dq, osq⟩, hw''⟩ := hw'
    subst hw''
    go_wp2
    go_ret
    exact ⟨rfl, next HB.out (below_regrown _ _ _)⟩
end Go.Proofs.YtclfchdgagpahaaDoor
