/-
  The statements' head: Find and Around of two machines; few.
-/
import Derived.Test.YtdeiolpcppibgaaLpO
namespace Go.Proofs.Ytdeiolpcppibgaa
open Go.RowKit Go.Maps Fm
attribute [local go_sem] Oper.semAt_some

theorem twoF_in {w : World} {g b0 b1 : Nat} (h0 : Blk 39 w b0 #[.int .u32 167772160, .int .i64 8, .int .i64 2, .int .i64 1]) (h1 : Blk 39 w b1 #[.int .u32 167772160, .int .i64 8, .int .i64 2, .int .i64 0])
    (hg : Blk 37 w g #[.slice (some ⟨b0, 0, none⟩) 1 1, .slice (some ⟨b1, 0, none⟩) 1 1]) : InF w g 2 twoF := by
  have key : ∀ (b : Nat) (e : En), e.Fits → Blk 39 w b (ecl e).toArray → InE w (some ⟨b, 0, none⟩) 1 1 [e] := fun b e hf hb => ⟨rfl, by unfold maxLen; omega, Nat.le_refl _, fun _ => ⟨_, _, rfl⟩, (fun x hx => by simp at hx; subst hx; exact hf), fun b' off e' i hi j hj => by
    cases e'
    obtain rfl : i = 0 := by simpa using hi
    have := hb.at_ j
    simpa using this⟩
  refine ⟨Nat.le_refl _, by omega, fun i hi => ?_⟩
  have h2 : i = 0 ∨ i = 1 := by have : i < 2 := hi; omega
  rcases h2 with rfl | rfl
  · exact ⟨_, _, hg.at_ 0, key b0 ⟨167772160, 8, 2, 1⟩ ⟨by decide, by decide, by decide, by decide, by decide, by decide, by decide⟩ h0⟩
  · exact ⟨_, _, hg.at_ 1, key b1 ⟨167772160, 8, 2, 0⟩ ⟨by decide, by decide, by decide, by decide, by decide, by decide, by decide⟩ h1⟩
theorem few_any (W : World) (A : Option Addr) (n cap : Nat) {q : Bool} (hq : decide ((n : Int) ≤ 40) = q) :
    Calls Try.prog 6 #[.slice A n cap] W fun e w' => e = .returned (.bool q) ∧ w' = W := by
  go_enter Try.func6, Try.ntmps6
  go_wp2_with fail
  go_ret
  exact ⟨by first | rfl | exact ret_bool hq | (rw [← hq]; simp), rfl⟩
set_option maxRecDepth 100000 in
set_option maxHeartbeats 2000000 in
theorem loop_head (W : World) : Calls Try.prog 5 #[] W fun e w' => e = .returned (.bool true) ∧ Below W.heap.size W w' := by
  go_enter Try.func5, Try.ntmps5
  go_upto_region 3 with fail
  generalize hw1 : W.alloc (.cells #[.int .u32 167772160, .int .i64 8] 34) = w1
  have s1 : w1.heap.size = W.heap.size + 1 := by rw [← hw1]; exact size_new _ _
  have b1 : Blk 34 w1 W.heap.size #[.int .u32 167772160, .int .i64 8] := by rw [← hw1]; exact Blk.new W _ _
  have l1 : Below W.heap.size W w1 := by rw [← hw1]; exact below_new W _
  clear hw1
  rw [← s1]
  generalize hw2 : w1.alloc (.cells #[.int .u32 167772160, .int .i64 8, .int .i64 2, .int .i64 1] 39) = w2
  have s2 : w2.heap.size = w1.heap.size + 1 := by rw [← hw2]; exact size_new _ _
  have b2 : Blk 39 w2 w1.heap.size #[.int .u32 167772160, .int .i64 8, .int .i64 2, .int .i64 1] := by rw [← hw2]; exact Blk.new w1 _ _
  have l2 : Below w1.heap.size w1 w2 := by rw [← hw2]; exact below_new w1 _
  clear hw2
  rw [← s2]
  generalize hw3 : w2.alloc (.cells #[.int .u32 167772160, .int .i64 8, .int .i64 2, .int .i64 0] 39) = w3
  have s3 : w3.heap.size = w2.heap.size + 1 := by rw [← hw3]; exact size_new _ _
  have b3 : Blk 39 w3 w2.heap.size #[.int .u32 167772160, .int .i64 8, .int .i64 2, .int .i64 0] := by rw [← hw3]; exact Blk.new w2 _ _
  have l3 : Below w2.heap.size w2 w3 := by rw [← hw3]; exact below_new w2 _
  clear hw3
  rw [← s3]
  generalize hw4 : w3.alloc (.cells #[.slice (some ⟨w1.heap.size, 0, none⟩) 1 1, .slice (some ⟨w2.heap.size, 0, none⟩) 1 1] 37) = w4
  have b4 : Blk 37 w4 w3.heap.size #[.slice (some ⟨w1.heap.size, 0, none⟩) 1 1, .slice (some ⟨w2.heap.size, 0, none⟩) 1 1] := by rw [← hw4]; exact Blk.new w3 _ _
  have l4 : Below w3.heap.size w3 w4 := by rw [← hw4]; exact below_new w3 _
  clear hw4
  have hI := twoF_in ((b2.held l3).held l4) (b3.held l4) b4
  have p4 := (((b1.held l2).held l3).held l4)
  have hB := next (next (next l1 l2) l3) l4
  have hlt := p4.lt
  clear s1 s2 s3 b1 b2 b3 b4 l1 l2 l3 l4
  generalize w1.heap.size = g1 at *
  generalize w2.heap.size = g2 at *
  generalize w3.heap.size = g3 at *
  have HF := find_two hI
  have X := Lib.hid (And.intro hI (And.intro p4 hB))
  have har : aroundB 167772160 8 twoF = true := by decide +kernel
  clear hI p4 hB
  go_upto_region 4 with (go_at_call 12; refine HF.mono ?_; rintro e w5 ⟨rfl, hb5⟩; clear HF)
  have x0 := (X.out.2.1.held hb5).at_ 0
  have x1 := (X.out.2.1.held hb5).at_ 1
  have HA : Calls Try.prog 10 #[.slice (some ⟨g3, 0, none⟩) 2 2, .agg #[.int .u32 167772160, .int .i64 8]] w5 fun e w' => e = .returned (.bool (aroundB 167772160 8 twoF)) ∧ Below w5.heap.size w5 w' := around_any (n := 2) (pa := 167772160) (pn := 8) rfl (X.out.1.held hb5)
  rw [har] at HA
  have Y := Lib.hid (next X.out.2.2 hb5)
  clear hb5 har
  go_wp2_with (go_at_call 10; refine HA.mono ?_; rintro e w6 ⟨rfl, hb6⟩)
  go_ret
  exact ⟨rfl, next Y.out hb6⟩
end Go.Proofs.Ytdeiolpcppibgaa
