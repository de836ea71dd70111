/-
  Package state: ID and Own.
-/
import Derived.Test.YtncliolkdkofhaaStB
namespace Go.Proofs.Ytncliolkdkofhaa
open Go.RowKit Rm

theorem id_any {w : World} {d : Nat} {o fl : Option Nat} {id lease n m : Nat} {own : Pk → Option Bool} {floor : Ky → Option (Nat × Nat)} (h : St w d o fl id lease n m own floor) : Calls Try.prog 23 #[.pointer (some ⟨d, 0, none⟩)] w fun e w' => e = .returned (.int .u32 id) ∧ w = w' := by
  have c0 : w.cell? ⟨d, 0, none⟩ = some (.int .u32 id) := h.head.at_ 0
  clear h
  go_enter Try.func23, Try.ntmps23
  go_wp2
  go_ret
  exact ⟨rfl, rfl⟩

set_option maxHeartbeats 1000000 in
theorem own_any {w : World} {d : Nat} {o fl : Option Nat} {id lease n m : Nat} {own : Pk → Option Bool} {floor : Ky → Option (Nat × Nat)} (h : St w d o fl id lease n m own floor) {ka : Nat} {kn : Int} (hk : Pk.ok ⟨ka, kn⟩) {v ok : Bool}
    (hv : ((own ⟨ka, kn⟩).map ownV).getD (.agg #[.bool false]) = .agg #[.bool v]) (ho : (own ⟨ka, kn⟩).isSome = ok) :
    Calls Try.prog 12 #[.pointer (some ⟨d, 0, none⟩), .agg #[.int .u32 ka, .int .i64 kn]] w fun e w' => e = .returned (.tuple #[.bool v, .bool ok]) ∧ Below w.heap.size w w' := by
  have hlook : ∀ w', Below w.heap.size w w' → (Instr.lookup 56 (.map o) (.agg #[.int .u32 ka, .int .i64 kn]) true).run Try.prog w' = .ok (.tuple #[.agg #[.bool v], .bool ok]) w' := fun w' hb => by
    have h2 := (h.held hb).owns.look_ok (t := 56) (e := 61) (by kernel_rfl) zero_own (i := ⟨ka, kn⟩) hk
    rw [show ((own ⟨ka, kn⟩).map ownV).isSome = (own ⟨ka, kn⟩).isSome by cases own ⟨ka, kn⟩ <;> rfl, hv, ho] at h2
    exact h2
  have c2 : w.cell? ⟨d, 2, none⟩ = some (.map o) := h.head.at_ 2
  have dl : d < w.heap.size := h.head.lt
  clear h hv ho
  go_enter Try.func12, Try.ntmps12
  go_wp2_with fail
  have KB := Blk.new w 32 #[.int .u32 ka, .int .i64 kn]
  have hb2 := below_new w (.cells #[.int .u32 ka, .int .i64 kn] 32)
  have hz := size_new w (.cells #[.int .u32 ka, .int .i64 kn] 32)
  generalize w.alloc (.cells #[.int .u32 ka, .int .i64 kn] 32) = W at *
  have fc := held hb2 c2
  have k0 := KB.at_ 0
  have k1 := KB.at_ 1
  have dW : d < W.heap.size := by omega
  have kW : w.heap.size < W.heap.size := by omega
  have fc3 := held (below_new W (.cells #[.bool false] 61)) fc
  have k03 := held (below_new W (.cells #[.bool false] 61)) k0
  have k13 := held (below_new W (.cells #[.bool false] 61)) k1
  have q1 := hlook _ hb2.drew
  have q2 := hlook _ (next hb2 (below_new W (.cells #[.bool false] 61))).drew
  clear hlook c2
  go_region
  all_goals
    have hb4 := next hb2 (below_new W (.cells #[.bool v] 61)).drew
    clear q1 q2 fc3 k03 k13 fc k0 k1 KB hb2
    go_wp2_with fail
    refine bodyPost_ret (v := .tuple #[.bool v, .bool ok]) ?_ rfl ⟨rfl, hb4⟩
    simp [results, Try.results12, go_sem]
end Go.Proofs.Ytncliolkdkofhaa
