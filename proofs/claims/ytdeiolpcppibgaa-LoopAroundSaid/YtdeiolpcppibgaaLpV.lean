/-
  Package loop: Find, of two machines.
-/
import Derived.Test.YtdeiolpcppibgaaLpU
namespace Go.Proofs.Ytdeiolpcppibgaa
open Go.RowKit Go.Maps Fm

theorem walks_two : Walks twoF 167772160 [] 0 [0, 1] 2 false :=
  .go (k := 0) (a := 167772160) (n := 8) (nx := 1) rfl (by decide) (by simp) (by decide +kernel) (.go (k := 1) (a := 167772160) (n := 8) (nx := 0) rfl (by decide) (by simp) (by decide +kernel) (.ring ⟨by omega, by decide⟩ (by simp)))
set_option maxRecDepth 100000 in
set_option maxHeartbeats 2000000 in
theorem find_two {w : World} {g cap : Nat} (h : InF w g cap twoF) :
    Calls Try.prog 12 #[.slice (some ⟨g, 0, none⟩) 2 cap] w fun e w' => e = .returned (.tuple #[.int .i64 0, .int .u32 167772160, .bool true]) ∧ Below w.heap.size w w' := by
  have HA := addresses_two h
  have H := Lib.hid h
  clear h
  go_enter Try.func12, Try.ntmps12
  go_wp2_with (go_at_call 19; refine HA.mono ?_; rintro e w1 ⟨g1, c1, rfl, hc1, q0, q1, hb1⟩; clear HA)
  go_loopw [14] (fun i wr => i = .int .i64 0 ∧ wr = w1) (fun _ _ => 1)
  case atStart => exact ⟨rfl, rfl⟩
  case round =>
    obtain ⟨rfl, rfl⟩ := hrel
    go_wp2_with fail
    go_loopw [20] (fun i wr2 => i = .int .i64 0 ∧ wr2 = wr) (fun _ _ => 1)
    case atStart => exact ⟨rfl, rfl⟩
    case round =>
      obtain ⟨rfl, rfl⟩ := hrel
      have HW : Calls Try.prog 8 #[.slice (some ⟨g, 0, none⟩) 2 cap, .int .i64 0, .int .u32 167772160] wr _ := walk_any (H.out.held hb1) (x := 167772160) (by omega) 0
      go_wp2_with (go_at_call 8; refine HW.mono ?_; rintro e w2 ⟨v, p, how, ok, rfl, hw2, -, -, hb2⟩; obtain ⟨rfl, rfl, rfl⟩ := hw2.unique walks_two)
      go_ret3
      exact ⟨rfl, next hb1 hb2⟩
end Go.Proofs.Ytdeiolpcppibgaa
