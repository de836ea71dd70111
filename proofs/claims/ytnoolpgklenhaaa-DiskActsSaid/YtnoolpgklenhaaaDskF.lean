/-
  The statement's own full: a sector of one byte.
-/
import Derived.Test.YtnoolpgklenhaaaDskB
import Derived.Laws.MakeOwn
namespace Go.Proofs.Ytnoolpgklenhaaa
open Go.RowKit

/-- k bytes c, noughts behind -/
def part (c : UInt8) (k : Nat) : Array Value := (List.replicate k (Value.int .u8 (c.toNat : Int)) ++ List.replicate (48 - k) (Value.int .u8 0)).toArray
theorem part_next {c : UInt8} {k : Nat} (h : k < 48) : (part c k)[k]? = some (.int .u8 0) ∧ (part c k).setIfInBounds k (.int .u8 (c.toNat : Int)) = part c (k + 1) := by
  unfold part
  constructor
  · simp only [List.getElem?_toArray]
    rw [List.getElem?_append_right (by simp), List.length_replicate, Nat.sub_self, List.getElem?_replicate, if_pos (by omega)]
  · have e : 48 - k = (48 - (k + 1)) + 1 := by omega
    rw [e, List.replicate_succ]
    simp only [List.setIfInBounds_toArray]
    congr 1
    rw [List.set_append_right _ _ (by simp)]
    simp [List.replicate_succ']
theorem part_all (c : UInt8) : part c 48 = (sec (List.replicate 48 c)).toArray := by
  unfold part sec
  simp
theorem run_make48 (w : World) : (Instr.makeSlice 28 (.int .i64 48) (.int .i64 48)).run Try.prog w = .ok (.slice (some ⟨w.heap.size, 0, none⟩) 48 48) (w.alloc (.cells (part 0 0) 5)) := by
  kernel_rfl

set_option maxHeartbeats 400000 in
theorem full_any (c : UInt8) (w : World) : Calls Try.prog 7 #[.int .u8 (c.toNat : Int)] w fun e w' =>
    e = .returned (.slice (some ⟨w.heap.size, 0, none⟩) 48 48) ∧ Blk 5 w' w.heap.size (sec (List.replicate 48 c)).toArray ∧ Below w.heap.size w w' ∧ w'.heap.size = w.heap.size + 1 := by
  have hmk := run_make48
  have hc : (c.toNat : Int) ≤ 255 := by have := c.toNat_lt; omega
  go_enter Try.func7, Try.ntmps7
  go_wp2_with fail
  have hX := Blk.new w 5 (part 0 0)
  have hb := below_new w (.cells (part 0 0) 5)
  have hs := size_new w (.cells (part 0 0) 5)
  generalize w.alloc (.cells (part 0 0) 5) = w1 at *
  rw [show part 0 0 = part c 0 from rfl] at hX
  have K := Lib.hid (And.intro hX (And.intro hb hs))
  clear hX hb hs
  generalize hg : w.heap.size = g at *
  have G := Lib.hid hg
  clear hg
  go_loopw [8] (fun i wr => ∃ k : Nat, k ≤ 48 ∧ i = .int .i64 k ∧ (Blk 5 wr g (part c k) ∧ Below g w wr ∧ wr.heap.size = g + 1)) (fun i _ => 48 - (intOf i).toNat)
  case atStart => exact ⟨0, by omega, rfl, K.out⟩
  case round =>
    clear K
    obtain ⟨k, hk, rfl, hX, hb, hs⟩ := hrel
    by_cases hlt : k < 48
    · have c0 := (hX.at_ k).trans (part_next (c := c) hlt).1
      have f0 := hX.free k
      have X2 := Lib.hid (hX.store k (.int .u8 (c.toNat : Int)))
      have E := Lib.hid (part_next (c := c) hlt).2
      have HB := Lib.hid hb
      have HS := Lib.hid hs
      clear hX hb hs
      go_wp2_with fail
      go_roundw
      case rel => exact ⟨k + 1, by omega, by go_num, by rw [← E.out]; exact X2.out, HB.out.setCell (by simp) _, by simp [World.setCell]; exact HS.out⟩
      case measure => simp [intOf]; omega
    · obtain rfl : k = 48 := by omega
      rw [part_all] at hX
      have X2 := Lib.hid (And.intro hX (And.intro hb hs))
      clear hX hb hs
      go_wp2_with fail
      go_ret
      obtain rfl := G.out
      exact ⟨rfl, X2.out⟩
end Go.Proofs.Ytnoolpgklenhaaa
