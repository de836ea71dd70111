/-
  The document's example: head.
-/
import Derived.Test.YtncliolkdkofhaaStO
import Derived.Lib.QuietBelow
import Derived.BigRegion
namespace Go.Proofs.Ytncliolkdkofhaa
open Go.RowKit Rm

theorem at_any (s m : Int) (w : World) : Calls Try.prog 16 #[.int .u32 s, .int .u16 m] w fun e w' => e = .returned (.agg #[.int .u32 s, .int .u16 m]) ∧ Below w.heap.size w w' := by
  go_enter Try.func16, Try.ntmps16
  go_wp2
  refine bodyPost_ret (v := .agg #[.int .u32 s, .int .u16 m]) ?_ rfl ⟨rfl, below_new _ _⟩
  simp [results, Try.results16, go_sem]

def exk : Ky := ⟨0, 0, 3⟩
theorem exk_ok : exk.ok := ⟨by decide, ⟨by decide, by decide⟩, by decide⟩
def ex1 : Sm := app sm0 ⟨4, 0, 0, 3, 0, 0, false, 2, 9⟩
theorem ex_floor : ex1.floor exk = some (2, 9) := rfl
/-- what the example asks of the state -/
structure Exs (w : World) (d : Nat) : Prop where
  f28 : Calls Try.prog 17 #[.pointer (some ⟨d, 0, none⟩), .agg #[.int .u32 0, .int .i64 0, .int .u32 3], .agg #[.int .u32 2, .int .u16 8]] w fun e w' => e = .returned (.bool true) ∧ Below w.heap.size w w'
  f350 : Calls Try.prog 17 #[.pointer (some ⟨d, 0, none⟩), .agg #[.int .u32 0, .int .i64 0, .int .u32 3], .agg #[.int .u32 3, .int .u16 50]] w fun e w' => e = .returned (.bool true) ∧ Below w.heap.size w w'
  f29 : Calls Try.prog 17 #[.pointer (some ⟨d, 0, none⟩), .agg #[.int .u32 0, .int .i64 0, .int .u32 3], .agg #[.int .u32 2, .int .u16 9]] w fun e w' => e = .returned (.bool false) ∧ Below w.heap.size w w'
  c29 : Calls Try.prog 18 #[.pointer (some ⟨d, 0, none⟩), .agg #[.int .u32 0, .int .i64 0, .int .u32 3], .agg #[.int .u32 2, .int .u16 9]] w fun e w' => e = .returned (.bool true) ∧ Below w.heap.size w w'
  c11 : Calls Try.prog 18 #[.pointer (some ⟨d, 0, none⟩), .agg #[.int .u32 0, .int .i64 0, .int .u32 3], .agg #[.int .u32 1, .int .u16 1]] w fun e w' => e = .returned (.bool true) ∧ Below w.heap.size w w'
  c28 : Calls Try.prog 18 #[.pointer (some ⟨d, 0, none⟩), .agg #[.int .u32 0, .int .i64 0, .int .u32 3], .agg #[.int .u32 2, .int .u16 8]] w fun e w' => e = .returned (.bool false) ∧ Below w.heap.size w w'
theorem exs {w : World} {d : Nat} {o fl : Option Nat} {id N : Nat} (h : Notes w d o fl id N ex1) : Exs w d := by
  obtain ⟨n, m, -, hS⟩ := h
  exact ⟨feasible_any hS exk exk_ok 2 8, feasible_any hS exk exk_ok 3 50, feasible_any hS exk exk_ok 2 9, covers_any hS exk exk_ok 2 9, covers_any hS exk exk_ok 1 1, covers_any hS exk exk_ok 2 8⟩
theorem Notes.held {w w' : World} {d : Nat} {o fl : Option Nat} {id N : Nat} {S : Sm} (h : Notes w d o fl id N S) (hb : Below w.heap.size w w') : Notes w' d o fl id N S := by
  obtain ⟨n, m, h1, hS⟩ := h
  exact ⟨n, m, h1, hS.held hb⟩

set_option maxHeartbeats 2000000 in
theorem head_any (w : World) : Calls Try.prog 5 #[] w fun e w' => e = .returned (.bool true) ∧ Below w.heap.size w w' := by
  go_enter Try.func5, Try.ntmps5
  go_wp2_with fail
  refine (new_any 1 w).mono ?_
  rintro e w1 ⟨rfl, hS, hb⟩
  have hN : Notes w1 w.heap.size none none 1 0 sm0 := ⟨0, 0, by omega, hS⟩
  clear hS
  go_wp2_with fail
  refine (apply_floor hN (by omega) 0 0 3 0 0 false 2 9 (by omega) (by omega) exk_ok).mono ?_
  rintro e w2 ⟨rfl, o2, f2, hN2, hT, -⟩
  have hB2 : Below w.heap.size w w2 := hb.trans (hT.below (by simp [fp]) hb.size)
  clear hN hT hb
  go_wp2_with fail
  have KB := Blk.new w2 45 #[.int .u32 0, .int .i64 0, .int .u32 3]
  have hb3 := next hB2 (below_new w2 (.cells #[.int .u32 0, .int .i64 0, .int .u32 3] 45))
  have hN3 := hN2.held (below_new w2 (.cells #[.int .u32 0, .int .i64 0, .int .u32 3] 45))
  generalize w2.alloc (.cells #[.int .u32 0, .int .i64 0, .int .u32 3] 45) = w3 at *
  have k0 := fun d os => cell_regrown (KB.at_ 0) d os
  have k1 := fun d os => cell_regrown (KB.at_ 1) d os
  have k2 := fun d os => cell_regrown (KB.at_ 2) d os
  have X := Lib.hid (fun (d : Nat) os => exs (hN3.held (below_regrown w3 d os)))
  have HB := Lib.hid hb3
  clear hb3 hN2 hB2 hN3 KB
  refine wp_region_quiet_below (by kernel_rfl) (by kernel_rfl) ?_
  repeat (go_big_quiet_step (first
    | (go_at_call 16; exact Calls.regrown_of (at_any _ _ _))
    | (go_at_call 17; first | with_reducible exact Calls.regrown_of (X.out _ _).f28 | with_reducible exact Calls.regrown_of (X.out _ _).f350 | with_reducible exact Calls.regrown_of (X.out _ _).f29)
    | (go_at_call 18; first | with_reducible exact Calls.regrown_of (X.out _ _).c29 | with_reducible exact Calls.regrown_of (X.out _ _).c11 | with_reducible exact Calls.regrown_of (X.out _ _).c28)))
  refine wpQuiet_nil ?_
  intro _ hw'
  obtain ⟨⟨dq, osq⟩, hw''⟩ := hw'
  subst hw''
  have HB2 := next HB.out (below_regrown w3 dq osq)
  clear X HB k0 k1 k2
  go_wp2_with fail
  go_ret
  exact ⟨rfl, HB2⟩
end Go.Proofs.Ytncliolkdkofhaa
