/-
  The document's example of package dist, as the statements ask it.
-/
import Derived.Test.YtclfchdgagpahaaDistW
namespace Go.Proofs.Ytclfchdgagpahaa
open Go.RowKit

theorem dist_field1 (s m : Int) (w : World) : (Instr.field 29 (.agg #[.int .u32 s, .int .u16 m]) 1).run Try.prog w = .ok (.int .u16 m) w := by kernel_rfl

set_option maxHeartbeats 400000 in
theorem dist_head (w : World) : Calls Try.prog 10 #[] w fun e w' => e = .returned (.bool true) ∧ Below w.heap.size w w' := by
  have hfd := dist_field1
  go_enter Try.func10, Try.ntmps10
  go_wp2_with fail
  obtain ⟨⟨a0, a1⟩, ⟨b0, b1⟩, ⟨c0, c1⟩, hB⟩ := three_new w 29 29 29 (.int .u32 2) (.int .u16 9) (.int .u32 1) (.int .u16 3) (.int .u32 2) (.int .u16 3)
  generalize ((w.alloc (.cells #[.int .u32 2, .int .u16 9] 29)).alloc (.cells #[.int .u32 1, .int .u16 3] 29)).alloc (.cells #[.int .u32 2, .int .u16 3] 29) = v at *
  have HB := Lib.hid hB
  clear hB
  refine (dist_cmp_eq (r := 1) (by decide) _).mono ?_
  rintro e w1 ⟨rfl, hb⟩
  replace a0 := held hb a0; replace a1 := held hb a1; replace b0 := held hb b0; replace b1 := held hb b1; replace c0 := held hb c0; replace c1 := held hb c1
  replace HB := Lib.hid (next HB.out hb); clear hb
  go_wp2_with fail
  refine (dist_cmp_eq (r := 1) (by decide) _).mono ?_
  rintro e w2 ⟨rfl, hb⟩
  replace a0 := held hb a0; replace a1 := held hb a1; replace b0 := held hb b0; replace b1 := held hb b1; replace c0 := held hb c0; replace c1 := held hb c1
  replace HB := Lib.hid (next HB.out hb); clear hb
  go_wp2_with fail
  refine (dist_cmp_eq (r := -1) (by decide) _).mono ?_
  rintro e w3 ⟨rfl, hb⟩
  replace a0 := held hb a0; replace a1 := held hb a1; replace b0 := held hb b0; replace b1 := held hb b1; replace c0 := held hb c0; replace c1 := held hb c1
  replace HB := Lib.hid (next HB.out hb); clear hb
  go_wp2_with fail
  refine (beyond_any 2 9 2 (by omega) (by omega) _).mono ?_
  rw [show far 9 2 = 11 from by decide]
  rintro e w4 ⟨rfl, hb⟩
  replace HB := Lib.hid (next HB.out hb); clear hb
  go_wp2_with fail
  go_ret
  exact ⟨rfl, HB.out⟩
end Go.Proofs.Ytclfchdgagpahaa
