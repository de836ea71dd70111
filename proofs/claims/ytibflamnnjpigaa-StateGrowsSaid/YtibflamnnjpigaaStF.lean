/-
  Package state: Floor.
-/
import Derived.Test.YtibflamnnjpigaaStW
namespace Go.Proofs.Ytibflamnnjpigaa
open Go.RowKit Rm

theorem results_dist {fn : Func} {p u : Tmp} (h : fn.results = #[.cell p 35, .tmp u]) {tmps : Array Value} {w : World} {g : Nat} {s m : Int} {v : Value} (hp : tmps.getD p undef = .pointer (some ⟨g, 0, none⟩)) (hu : tmps.getD u undef = v)
    (c0 : w.cell? ⟨g, 0, none⟩ = some (.int .u32 s)) (c1 : w.cell? ⟨g, 1, none⟩ = some (.int .u16 m)) : (results fn tmps).run Try.prog w = .ok (.tuple #[.agg #[.int .u32 s, .int .u16 m], v]) w := by
  subst hu
  have hp' : tmps[p]?.getD undef = .pointer (some ⟨g, 0, none⟩) := by simpa using hp
  simp [results, h, hp', go_sem, c0, c1]

set_option maxHeartbeats 1000000 in
theorem floor_any {w : World} {d : Nat} {o fl : Option Nat} {id lease n m : Nat} {own : Pk → Option Bool} {floor : Ky → Option (Nat × Nat)} (h : St w d o fl id lease n m own floor) {ka : Nat} {kn : Int} {kid : Nat} (hk : Ky.ok ⟨ka, kn, kid⟩) {fs fm : Nat} {ok : Bool}
    (hv : ((floor ⟨ka, kn, kid⟩).map dV).getD (.agg #[.int .u32 0, .int .u16 0]) = .agg #[.int .u32 fs, .int .u16 fm]) (ho : (floor ⟨ka, kn, kid⟩).isSome = ok) :
    Calls Try.prog 15 #[.pointer (some ⟨d, 0, none⟩), .agg #[.int .u32 ka, .int .i64 kn, .int .u32 kid]] w fun e w' => e = .returned (.tuple #[.agg #[.int .u32 fs, .int .u16 fm], .bool ok]) ∧ Below w.heap.size w w' := by
  have hlook : ∀ w', Below w.heap.size w w' → (Instr.lookup 48 (.map fl) (.agg #[.int .u32 ka, .int .i64 kn, .int .u32 kid]) true).run Try.prog w' = .ok (.tuple #[.agg #[.int .u32 fs, .int .u16 fm], .bool ok]) w' := fun w' hb => by
    have h2 := (h.held hb).floors.look_ok (t := 48) (e := 35) (by kernel_rfl) zero_dist (i := ⟨ka, kn, kid⟩) hk
    rw [show ((floor ⟨ka, kn, kid⟩).map dV).isSome = (floor ⟨ka, kn, kid⟩).isSome by cases floor ⟨ka, kn, kid⟩ <;> rfl, hv, ho] at h2
    exact h2
  have c3 : w.cell? ⟨d, 3, none⟩ = some (.map fl) := h.head.at_ 3
  have dl : d < w.heap.size := h.head.lt
  clear h hv ho
  go_enter Try.func15, Try.ntmps15
  go_wp2_with fail
  have B2 : ∀ A B : Obj, Below w.heap.size w ((w.alloc A).alloc B) := fun A B => next (below_new _ _) (below_new _ _)
  have KB := (Blk.new w 45 #[.int .u32 ka, .int .i64 kn, .int .u32 kid]).more (.cells #[.int .u32 0, .int .u16 0] 35)
  have hb2 := B2 (.cells #[.int .u32 ka, .int .i64 kn, .int .u32 kid] 45) (.cells #[.int .u32 0, .int .u16 0] 35)
  have RB := Blk.new (w.alloc (.cells #[.int .u32 ka, .int .i64 kn, .int .u32 kid] 45)) 35 #[.int .u32 0, .int .u16 0]
  rw [size_new] at RB
  have hz : ((w.alloc (.cells #[.int .u32 ka, .int .i64 kn, .int .u32 kid] 45)).alloc (.cells #[.int .u32 0, .int .u16 0] 35)).heap.size = w.heap.size + 2 := by simp
  generalize (w.alloc (.cells #[.int .u32 ka, .int .i64 kn, .int .u32 kid] 45)).alloc (.cells #[.int .u32 0, .int .u16 0] 35) = W at *
  have fc := held hb2 c3
  have k0 := KB.at_ 0
  have k1 := KB.at_ 1
  have k2 := KB.at_ 2
  have dW : d < W.heap.size := by omega
  have kW : w.heap.size < W.heap.size := by omega
  have fc3 := held (below_new W (.cells #[.int .u32 0, .int .u16 0] 35)) fc
  have k03 := held (below_new W (.cells #[.int .u32 0, .int .u16 0] 35)) k0
  have k13 := held (below_new W (.cells #[.int .u32 0, .int .u16 0] 35)) k1
  have k23 := held (below_new W (.cells #[.int .u32 0, .int .u16 0] 35)) k2
  have q1 := hlook _ hb2.drew
  have q2 := hlook _ (next hb2 (below_new W (.cells #[.int .u32 0, .int .u16 0] 35))).drew
  clear hlook c3
  go_region
  all_goals
    have hb4 := next hb2 (below_new W (.cells #[.int .u32 fs, .int .u16 fm] 35)).drew
    have FB := (Blk.new W 35 #[.int .u32 fs, .int .u16 fm]).drew
    have RB4 := (RB.more (.cells #[.int .u32 fs, .int .u16 fm] 35)).drew
    rw [hz] at FB
    clear q1 q2 fc3 k03 k13 k23 fc k0 k1 k2 RB KB hb2
    generalize (W.alloc (.cells #[.int .u32 fs, .int .u16 fm] 35)).drew = W4 at *
    have f0 := FB.at_ 0
    have f1 := FB.at_ 1
    have r0 := RB4.at_ 0
    have r1 := RB4.at_ 1
    have z0 := RB4.free 0
    have z1 := RB4.free 1
    go_wp2_with fail
    refine bodyPost_ret (results_dist Try.results15 rfl rfl ?_ ?_) rfl ⟨rfl, ?_⟩
    · simp [go_sem, r0]
    · simp [go_sem, r1]
    · exact ((Turn.of_below [w.heap.size + 1] hb4).trans ((Turn.setCell _ (p := ⟨w.heap.size + 1, 0, none⟩) (by simp) _).trans (Turn.setCell _ (p := ⟨w.heap.size + 1, 1, none⟩) (by simp) _))).below (by simp) (Nat.le_refl _)
end Go.Proofs.Ytibflamnnjpigaa
