/-
  slices.Sort at uint32 itself, of at most twelve.
-/
import Derived.Test.YtdeiolpcppibgaaLpP
namespace Go.Proofs.Ytdeiolpcppibgaa
open Go.RowKit Go.Sort

set_option maxRecDepth 100000 in
theorem len64 (n : Nat) (hn : n ≤ 12) (w : World) : Calls Try.prog 40 #[.int .u64 n] w fun e w' => (∃ q : Int, e = .returned (.int .i64 q)) ∧ w' = w := by
  obtain rfl | rfl | rfl | rfl | rfl | rfl | rfl | rfl | rfl | rfl | rfl | rfl | rfl : n = 0 ∨ n = 1 ∨ n = 2 ∨ n = 3 ∨ n = 4 ∨ n = 5 ∨ n = 6 ∨ n = 7 ∨ n = 8 ∨ n = 9 ∨ n = 10 ∨ n = 11 ∨ n = 12 := by omega
  all_goals (go_enter Try.func40, Try.ntmps40; go_wp2; go_ret; exact ⟨⟨_, rfl⟩, rfl⟩)
theorem len_any (n : Nat) (hn : n ≤ 12) (w : World) : Calls Try.prog 29 #[.int .u64 n] w fun e w' => (∃ q : Int, e = .returned (.int .i64 q)) ∧ w' = w := by
  go_enter Try.func29, Try.ntmps29
  go_wp2_with (go_at_call 40; refine (len64 n hn w).mono ?_; rintro e w2 ⟨⟨q, rfl⟩, rfl⟩)
  go_ret
  exact ⟨⟨_, rfl⟩, rfl⟩
theorem pdq32 (blk cap : Nat) (d : Array Int) (l : Int) (w : World) (hH : Holds (Value.int .u32) w blk 0 d) (hsz : d.size ≤ 12) :
    Calls Try.prog 28 #[.slice (some ⟨blk, 0, none⟩) d.size cap, .int .i64 0, .int .i64 d.size, .int .i64 l] w fun e w' =>
      e = .returned (.tuple #[]) ∧ ∃ n, w' = putRow (Value.int .u32) (Sort.ahead w n) blk 0 (Sort.insertionSort ltInt d 0 d.size) := by
  have HI := insertionSort32 blk 0 cap 0 d.size d w hH (by omega) (by omega) (by omega)
  obtain ⟨m, hm⟩ : ∃ m, d.size = m := ⟨_, rfl⟩
  rw [hm] at hsz HI ⊢
  clear hm hH
  have hmz : (m : Int) ≤ 12 := by omega
  go_enter Try.func28, Try.ntmps28
  go_wp2_with fail
  go_loopw [1, 2] (fun a b wr => a = .int .i64 0 ∧ b = .int .i64 m ∧ wr = w) (fun _ _ _ => 1)
  case atStart => exact ⟨rfl, rfl, rfl⟩
  case round =>
    obtain ⟨rfl, rfl, rfl⟩ := hrel
    go_wp2_with (go_at_call 30; refine HI.mono ?_; rintro e w2 ⟨rfl, n, hw2⟩)
    refine bodyPost_ret (results_none rfl _ _ _) rfl ?_
    exact ⟨rfl, n, rfl⟩
theorem sort32 (blk cap : Nat) (d : Array Int) (w : World) (hH : Holds (Value.int .u32) w blk 0 d) (hsz : d.size ≤ 12) :
    Calls Try.prog 25 #[.slice (some ⟨blk, 0, none⟩) d.size cap] w fun e w' =>
      e = .returned (.tuple #[]) ∧ ∃ n, w' = putRow (Value.int .u32) (Sort.ahead w n) blk 0 (Sort.insertionSort ltInt d 0 d.size) := by
  have HP := fun l => pdq32 blk cap d l w hH hsz
  obtain ⟨m, hm⟩ : ∃ m, d.size = m := ⟨_, rfl⟩
  rw [hm] at hsz HP ⊢
  clear hm hH
  have hmz : (m : Int) ≤ 12 := by omega
  go_enter Try.func25, Try.ntmps25
  go_wp2_with (first | (go_at_call 29; refine (len_any m hsz w).mono ?_; rintro e w2 ⟨⟨q, rfl⟩, rfl⟩) | (go_at_call 28; refine (HP _).mono ?_; rintro e w3 ⟨rfl, n, hw3⟩) | fail)
  go_end0
  exact ⟨rfl, n, rfl⟩
end Go.Proofs.Ytdeiolpcppibgaa
