/-
  Package state: Floor, Owns and Floors; the statement's own Less.
-/
import Derived.Test.YtncliolkdkofhaaStP
import Derived.Laws.EntriesVeiled
import Derived.Test.YtncliolkdkofhaaItnP
import Derived.Test.YtncliolkdkofhaaItnK
namespace Go.Proofs.Ytncliolkdkofhaa
open Go.RowKit Rm

set_option maxHeartbeats 400000 in
theorem less2_any (a n b m : Int) (w : World) :
    Calls Try.prog 27 #[.agg #[.int .u32 a, .int .i64 n], .agg #[.int .u32 b, .int .i64 m]] w fun e w' => e = .returned (.bool (Om.less a n b m)) ∧ Below w.heap.size w w' := by
  go_enter Try.func27, Try.ntmps27
  go_wp2
  all_goals
    go_ret
    exact ⟨ret_bool (by first | (unfold Om.less; rw [decide_eq_decide]; omega) | (unfold Om.less; symm; rw [decide_eq_true_eq]; omega)), next (below_new _ _) (below_new _ _)⟩

set_option maxHeartbeats 1000000 in
theorem floor_any {w : World} {d : Nat} {o fl : Option Nat} {id lease n m : Nat} {own : Pk → Option Bool} {floor : Ky → Option (Nat × Nat)} (h : St w d o fl id lease n m own floor) {ka : Nat} {kn : Int} {kid : Nat} (hk : Ky.ok ⟨ka, kn, kid⟩) {s x : Nat} {ok : Bool}
    (hv : ((floor ⟨ka, kn, kid⟩).map dV).getD (.agg #[.int .u32 0, .int .u16 0]) = .agg #[.int .u32 s, .int .u16 x]) (ho : (floor ⟨ka, kn, kid⟩).isSome = ok) :
    Calls Try.prog 13 #[.pointer (some ⟨d, 0, none⟩), .agg #[.int .u32 ka, .int .i64 kn, .int .u32 kid]] w fun e w' => e = .returned (.tuple #[.agg #[.int .u32 s, .int .u16 x], .bool ok]) ∧ Below w.heap.size w w' := by
  have hlook : ∀ w', Below w.heap.size w w' → (Instr.lookup 49 (.map fl) (.agg #[.int .u32 ka, .int .i64 kn, .int .u32 kid]) true).run Try.prog w' = .ok (.tuple #[.agg #[.int .u32 s, .int .u16 x], .bool ok]) w' := fun w' hb => by
    have h2 := (h.held hb).floors.look_ok (t := 49) (e := 35) (by kernel_rfl) zero_dist (i := ⟨ka, kn, kid⟩) hk
    rw [show ((floor ⟨ka, kn, kid⟩).map dV).isSome = (floor ⟨ka, kn, kid⟩).isSome by cases floor ⟨ka, kn, kid⟩ <;> rfl, hv, ho] at h2
    exact h2
  have c3 : w.cell? ⟨d, 3, none⟩ = some (.map fl) := h.head.at_ 3
  have dl : d < w.heap.size := h.head.lt
  clear h hv ho
  go_enter Try.func13, Try.ntmps13
  go_wp2_with fail
  have KB := (Blk.new w 45 #[.int .u32 ka, .int .i64 kn, .int .u32 kid]).more (.cells #[.int .u32 0, .int .u16 0] 35)
  have RB := Blk.new (w.alloc (.cells #[.int .u32 ka, .int .i64 kn, .int .u32 kid] 45)) 35 #[.int .u32 0, .int .u16 0]
  have hb2 := next (below_new w (.cells #[.int .u32 ka, .int .i64 kn, .int .u32 kid] 45)) (below_new _ (.cells #[.int .u32 0, .int .u16 0] 35))
  have hz : ((w.alloc (.cells #[.int .u32 ka, .int .i64 kn, .int .u32 kid] 45)).alloc (.cells #[.int .u32 0, .int .u16 0] 35)).heap.size = w.heap.size + 2 := by rw [size_new, size_new]
  rw [size_new] at RB
  generalize (w.alloc (.cells #[.int .u32 ka, .int .i64 kn, .int .u32 kid] 45)).alloc (.cells #[.int .u32 0, .int .u16 0] 35) = W at *
  have fc := held hb2 c3
  have k0 := KB.at_ 0
  have k1 := KB.at_ 1
  have k2 := KB.at_ 2
  have dW : d < W.heap.size := by omega
  have kW : w.heap.size < W.heap.size := by omega
  have fc3 := held (below_new W (.cells #[.int .u32 0, .int .u16 0] 35)) fc
  have k03 := held (below_new W (.cells #[.int .u32 0, .int .u16 0] 35)) k0
  have k13 := held (below_new W (.cells #[.int .u32 0, .int .u16 0] 35)) k1
  have k23 := held (below_new W (.cells #[.int .u32 0, .int .u16 0] 35)) k2
  have q1 := hlook _ hb2.drew
  have q2 := hlook _ (next hb2 (below_new W (.cells #[.int .u32 0, .int .u16 0] 35))).drew
  have HR := Lib.hid RB
  clear hlook c3 RB
  go_region
  all_goals
    have hb4 := next hb2 (below_new W (.cells #[.int .u32 s, .int .u16 x] 35)).drew
    have R2 := (HR.out.more (.cells #[.int .u32 s, .int .u16 x] 35)).drew
    have N2 := (Blk.new W 35 #[.int .u32 s, .int .u16 x]).drew
    rw [hz] at N2
    have hsV : w.heap.size + 1 < (W.alloc (.cells #[.int .u32 s, .int .u16 x] 35)).drew.heap.size := R2.lt
    clear q1 q2 fc3 k03 k13 k23 fc k0 k1 k2 KB hb2
    generalize (W.alloc (.cells #[.int .u32 s, .int .u16 x] 35)).drew = V at *
    have r0 := R2.at_ 0
    have r1 := R2.at_ 1
    have g0 := R2.free 0
    have g1 := R2.free 1
    have n0 := N2.at_ 0
    have n1 := N2.at_ 1
    go_wp2_with fail
    have R4 := (R2.store 0 (.int .u32 s)).store 1 (.int .u16 x)
    have q0 : ((V.setCell ⟨w.heap.size + 1, 0, none⟩ (.int .u32 s)).setCell ⟨w.heap.size + 1, 1, none⟩ (.int .u16 x)).cell? ⟨w.heap.size + 1, 0, none⟩ = some (.int .u32 s) := R4.at_ 0
    have q1 : ((V.setCell ⟨w.heap.size + 1, 0, none⟩ (.int .u32 s)).setCell ⟨w.heap.size + 1, 1, none⟩ (.int .u16 x)).cell? ⟨w.heap.size + 1, 1, none⟩ = some (.int .u16 x) := R4.at_ 1
    refine bodyPost_ret (v := .tuple #[.agg #[.int .u32 s, .int .u16 x], .bool ok]) ?_ rfl ⟨rfl, ?_⟩
    · generalize (V.setCell ⟨w.heap.size + 1, 0, none⟩ (.int .u32 s)).setCell ⟨w.heap.size + 1, 1, none⟩ (.int .u16 x) = Z at *
      clear hsV R2 N2 R4 r0 r1 g0 g1 n0 n1 hb4
      simp [results, Try.results13, go_sem, q0, q1]
    · exact (hb4.setCell (p := ⟨w.heap.size + 1, 0, none⟩) (by show w.heap.size ≤ w.heap.size + 1; omega) _).setCell (p := ⟨w.heap.size + 1, 1, none⟩) (by show w.heap.size ≤ w.heap.size + 1; omega) _

set_option maxHeartbeats 1000000 in
theorem owns_any {w : World} {d : Nat} {o fl : Option Nat} {id lease n m : Nat} {own : Pk → Option Bool} {floor : Ky → Option (Nat × Nat)} (h : St w d o fl id lease n m own floor) :
    Calls Try.prog 25 #[.pointer (some ⟨d, 0, none⟩)] w fun e w' => ∃ B1 B2 B3 v o' xs, e = .returned (.func (.func 35) #[] #[.pointer (some ⟨B3, 0, none⟩)]) ∧ ItP w' B1 B2 v o' n own xs ∧
      Blk 79 w' B3 #[.func (.func 44) #[] #[.pointer (some ⟨B1, 0, none⟩), .pointer (some ⟨B2, 0, none⟩)]] ∧ (∀ b, b ∈ itL B1 B2 v o' → w.heap.size ≤ b) ∧ w.heap.size ≤ B3 ∧ Below w.heap.size w w' := by
  have c2 : w.cell? ⟨d, 2, none⟩ = some (.map o) := h.head.at_ 2
  have HI := Lib.hid (inOrderP h.owns (by have := h.counts; omega))
  clear h
  go_enter Try.func25, Try.ntmps25
  go_wp2_with (go_at_call 33; refine HI.out.mono ?_; rintro e w2 ⟨B1, B2, v, o', xs, rfl, hI, hf, hB⟩)
  go_ret
  have hb := below_new w2 (.cells #[.func (.func 44) #[] #[.pointer (some ⟨B1, 0, none⟩), .pointer (some ⟨B2, 0, none⟩)]] 79)
  exact ⟨B1, B2, w2.heap.size, v, o', xs, rfl, hI.held hb, Blk.new _ _ _, hf, hB.size, next hB hb⟩

set_option maxHeartbeats 1000000 in
theorem floors_any {w : World} {d : Nat} {o fl : Option Nat} {id lease n m : Nat} {own : Pk → Option Bool} {floor : Ky → Option (Nat × Nat)} (h : St w d o fl id lease n m own floor) :
    Calls Try.prog 28 #[.pointer (some ⟨d, 0, none⟩)] w fun e w' => ∃ B1 B2 v o' xs, e = .returned (.func (.func 48) #[] #[.pointer (some ⟨B1, 0, none⟩), .pointer (some ⟨B2, 0, none⟩)]) ∧ ItK w' B1 B2 v o' m floor xs ∧
      (∀ b, b ∈ itL B1 B2 v o' → w.heap.size ≤ b) ∧ Below w.heap.size w w' := by
  have c3 : w.cell? ⟨d, 3, none⟩ = some (.map fl) := h.head.at_ 3
  have HI := Lib.hid (inOrderK h.floors (by have := h.counts; omega))
  clear h
  go_enter Try.func28, Try.ntmps28
  go_wp2_with (go_at_call 36; refine HI.out.mono ?_; rintro e w2 ⟨B1, B2, v, o', xs, rfl, hI, hf, hB⟩)
  go_ret
  exact ⟨B1, B2, v, o', xs, rfl, hI, hf, hB⟩
end Go.Proofs.Ytncliolkdkofhaa
