/-
  The statement's model of a state: Apply of a floor, and of whatever record.
-/
import Derived.Test.YtncliolkdkofhaaStM
import Derived.Lib.QuietBelow
import Derived.BigRegion
namespace Go.Proofs.Ytncliolkdkofhaa
open Go.RowKit Rm

set_option maxHeartbeats 1000000 in
theorem mapply_floor {w : World} {d o fl id N : Nat} {S : Sm} (h : Says w d o fl id N S) (hN : N < 100000) (g l i a : Nat) (n : Int) (b : Bool) (s x : Nat) (hk4 : Ky.ok ⟨a, n, i⟩) (hs : s < 4294967296) (hx : x < 65536) :
    Calls Try.prog 10 #[.pointer (some ⟨d, 0, none⟩), .agg #[.int .i64 4, .int .u32 g, .int .u32 l, .int .u32 i, .int .u32 a, .int .i64 n, .bool b, .int .u32 s, .int .u16 x]] w fun e w' => e = .returned (.tuple #[]) ∧
      Says w' d o fl id (N + 1) (app S ⟨4, g, l, i, a, n, b, s, x⟩) ∧ Turn [d, o, fl] w w' := by
  obtain ⟨nn, m, hnm, hS⟩ := h
  have RB := Blk.new w 37 #[.int .i64 4, .int .u32 g, .int .u32 l, .int .u32 i, .int .u32 a, .int .i64 n, .bool b, .int .u32 s, .int .u16 x]
  have hb := below_new w (.cells #[.int .i64 4, .int .u32 g, .int .u32 l, .int .u32 i, .int .u32 a, .int .i64 n, .bool b, .int .u32 s, .int .u16 x] 37)
  have hz := size_new w (.cells #[.int .i64 4, .int .u32 g, .int .u32 l, .int .u32 i, .int .u32 a, .int .i64 n, .bool b, .int .u32 s, .int .u16 x] 37)
  have hlook : ∀ w', Below w.heap.size w w' → (Instr.lookup 49 (.map (some fl)) (.agg #[.int .u32 a, .int .i64 n, .int .u32 i]) true).run Try.prog w' = .ok (.tuple #[((S.floor ⟨a, n, i⟩).map dV).getD (.agg #[.int .u32 0, .int .u16 0]), .bool (S.floor ⟨a, n, i⟩).isSome]) w' := fun w' hb => by
    have h2 := (hS.held hb).floors.look_ok (t := 49) (e := 35) (by kernel_rfl) (zero_dist _) (i := ⟨a, n, i⟩) hk4
    rw [show ((S.floor ⟨a, n, i⟩).map dV).isSome = (S.floor ⟨a, n, i⟩).isSome by cases S.floor ⟨a, n, i⟩ <;> rfl] at h2
    exact h2
  cases hf : S.floor ⟨a, n, i⟩ with
  | none =>
    rw [hf] at hlook
    have hlook : ∀ w', Below w.heap.size w w' → (Instr.lookup 49 (.map (some fl)) (.agg #[.int .u32 a, .int .i64 n, .int .u32 i]) true).run Try.prog w' = .ok (.tuple #[.agg #[.int .u32 0, .int .u16 0], .bool false]) w' := hlook
    have E := Lib.hid (show app S ⟨4, g, l, i, a, n, b, s, x⟩ = ⟨S.lease, S.own, fun k => if k = ⟨a, n, i⟩ then some (s, x) else S.floor k⟩ by unfold app; simp [hf, bet])
    clear hf
    go_enter Try.func10, Try.ntmps10
    go_wp2_with fail
    generalize w.alloc (.cells #[.int .i64 4, .int .u32 g, .int .u32 l, .int .u32 i, .int .u32 a, .int .i64 n, .bool b, .int .u32 s, .int .u16 x] 37) = W at *
    have c0 := RB.at_ 0
    have c3 := RB.at_ 3
    have c4 := RB.at_ 4
    have c5 := RB.at_ 5
    go_quiet (fail)
    go_wp2_with fail
    have KB := Blk.new (W.drewN nq) 45 #[.int .u32 a, .int .i64 n, .int .u32 i]
    have hb2 := next (drewN_below hb nq) (below_new (W.drewN nq) (.cells #[.int .u32 a, .int .i64 n, .int .u32 i] 45))
    have RB2 := Blk.more (w := W.drewN nq) RB (.cells #[.int .u32 a, .int .i64 n, .int .u32 i] 45)
    rw [show (W.drewN nq).heap.size = w.heap.size + 1 from hz] at KB
    have hz2 : ((W.drewN nq).alloc (.cells #[.int .u32 a, .int .i64 n, .int .u32 i] 45)).heap.size = w.heap.size + 2 := by rw [size_new]; show W.heap.size + 1 = _; omega
    clear c0 c3 c4 c5 hb RB
    generalize (W.drewN nq).alloc (.cells #[.int .u32 a, .int .i64 n, .int .u32 i] 45) = W2 at *
    have dl := hS.head.lt
    have hW2 := hS.held hb2
    have fc : W2.cell? ⟨d, 3, none⟩ = some (.map (some fl)) := hW2.head.at_ 3
    have k0 := KB.at_ 0
    have k1 := KB.at_ 1
    have k2 := KB.at_ 2
    have q1 := hlook _ hb2.drew
    have q2 := hlook _ (next hb2 (below_new W2 (.cells #[.int .u32 0, .int .u16 0] 35))).drew
    have dW : d < W2.heap.size := by omega
    have kW : w.heap.size + 1 < W2.heap.size := by omega
    have fc3 := held (below_new W2 (.cells #[.int .u32 0, .int .u16 0] 35)) fc
    have k03 := held (below_new W2 (.cells #[.int .u32 0, .int .u16 0] 35)) k0
    have k13 := held (below_new W2 (.cells #[.int .u32 0, .int .u16 0] 35)) k1
    have k23 := held (below_new W2 (.cells #[.int .u32 0, .int .u16 0] 35)) k2
    clear hlook
    go_region
    all_goals
      have hb3 := next hb2 (below_new W2 (.cells #[.int .u32 0, .int .u16 0] 35)).drew
      have RB3 := (RB2.more (.cells #[.int .u32 0, .int .u16 0] 35)).drew
      have KB3 := (KB.more (.cells #[.int .u32 0, .int .u16 0] 35)).drew
      have FB3 := (Blk.new W2 35 #[.int .u32 0, .int .u16 0]).drew
      rw [hz2] at FB3
      clear q1 q2 fc3 k03 k13 k23 fc k0 k1 k2 RB2 KB hW2 hb2
      generalize (W2.alloc (.cells #[.int .u32 0, .int .u16 0] 35)).drew = W3 at *
      go_wp2_with fail
      have hb4 := hb3
      have RB4 := RB3
      have KB4 := KB3
      clear hb3 RB3 KB3 FB3
      generalize W3 = W4 at *
      have hW4 := (hS.held hb4).drew
      obtain ⟨w5, hu, hM5, hg5, -⟩ := hW4.floors.store (t := 49) (e := 35) (by kernel_rfl) (by have := hW4.counts; unfold maxLen; omega) (i := ⟨a, n, i⟩) hk4 (.agg #[.int .u32 s, .int .u16 x])
      have hu : (Instr.mapUpdate 49 (.map (some fl)) (.agg #[.int .u32 a, .int .i64 n, .int .u32 i]) (.agg #[.int .u32 s, .int .u16 x])).run Try.prog W4.drew = .ok () w5 := hu
      have T5 : Turn [fl] W4.drew w5 := Turn.of_grown hg5 (List.mem_singleton.2 rfl)
      have Z := Lib.hid (Md.setFloor (S := S) hW4 hb4.drew hnm hN ⟨a, n, i⟩ s x hs hx hM5 T5)
      have g3 : W4.cell? ⟨d, 3, none⟩ = some (.map (some fl)) := hW4.head.at_ 3
      have c7 := RB4.at_ 7
      have c8 := RB4.at_ 8
      have k0 := KB4.at_ 0
      have k1 := KB4.at_ 1
      have k2 := KB4.at_ 2
      clear hW4 hM5 hg5 T5 RB4 KB4 hS hb4
      go_region
      all_goals
        go_wp2_with fail
        refine bodyPost_end (v := .tuple #[]) (results_none rfl _ _ _) rfl ⟨rfl, ?_⟩
        rw [E.out]
        exact Z.out
  | some f =>
    obtain ⟨fs, fm⟩ := f
    rw [hf] at hlook
    have hbs := bet_some (fs, fm) s x
    cases hbt : better s x fs fm with
    | true =>
      have BT := Lib.hid hbt
  
      have hlook : ∀ w', Below w.heap.size w w' → (Instr.lookup 49 (.map (some fl)) (.agg #[.int .u32 a, .int .i64 n, .int .u32 i]) true).run Try.prog w' = .ok (.tuple #[.agg #[.int .u32 fs, .int .u16 fm], .bool true]) w' := hlook
      have E := Lib.hid (show app S ⟨4, g, l, i, a, n, b, s, x⟩ = ⟨S.lease, S.own, fun k => if k = ⟨a, n, i⟩ then some (s, x) else S.floor k⟩ by unfold app; simp only [hf]; rw [hbs]; simp [hbt])
      clear hf hbs hbt
      go_enter Try.func10, Try.ntmps10
      go_wp2_with fail
      generalize w.alloc (.cells #[.int .i64 4, .int .u32 g, .int .u32 l, .int .u32 i, .int .u32 a, .int .i64 n, .bool b, .int .u32 s, .int .u16 x] 37) = W at *
      have c0 := RB.at_ 0
      have c3 := RB.at_ 3
      have c4 := RB.at_ 4
      have c5 := RB.at_ 5
      go_quiet (fail)
      go_wp2_with fail
      have KB := Blk.new (W.drewN nq) 45 #[.int .u32 a, .int .i64 n, .int .u32 i]
      have hb2 := next (drewN_below hb nq) (below_new (W.drewN nq) (.cells #[.int .u32 a, .int .i64 n, .int .u32 i] 45))
      have RB2 := Blk.more (w := W.drewN nq) RB (.cells #[.int .u32 a, .int .i64 n, .int .u32 i] 45)
      rw [show (W.drewN nq).heap.size = w.heap.size + 1 from hz] at KB
      have hz2 : ((W.drewN nq).alloc (.cells #[.int .u32 a, .int .i64 n, .int .u32 i] 45)).heap.size = w.heap.size + 2 := by rw [size_new]; show W.heap.size + 1 = _; omega
      clear c0 c3 c4 c5 hb RB
      generalize (W.drewN nq).alloc (.cells #[.int .u32 a, .int .i64 n, .int .u32 i] 45) = W2 at *
      have dl := hS.head.lt
      have hW2 := hS.held hb2
      have fc : W2.cell? ⟨d, 3, none⟩ = some (.map (some fl)) := hW2.head.at_ 3
      have k0 := KB.at_ 0
      have k1 := KB.at_ 1
      have k2 := KB.at_ 2
      have q1 := hlook _ hb2.drew
      have q2 := hlook _ (next hb2 (below_new W2 (.cells #[.int .u32 0, .int .u16 0] 35))).drew
      have dW : d < W2.heap.size := by omega
      have kW : w.heap.size + 1 < W2.heap.size := by omega
      have fc3 := held (below_new W2 (.cells #[.int .u32 0, .int .u16 0] 35)) fc
      have k03 := held (below_new W2 (.cells #[.int .u32 0, .int .u16 0] 35)) k0
      have k13 := held (below_new W2 (.cells #[.int .u32 0, .int .u16 0] 35)) k1
      have k23 := held (below_new W2 (.cells #[.int .u32 0, .int .u16 0] 35)) k2
      clear hlook
      go_region
      all_goals
        have hb3 := next hb2 (below_new W2 (.cells #[.int .u32 fs, .int .u16 fm] 35)).drew
        have RB3 := (RB2.more (.cells #[.int .u32 fs, .int .u16 fm] 35)).drew
        have KB3 := (KB.more (.cells #[.int .u32 fs, .int .u16 fm] 35)).drew
        have FB3 := (Blk.new W2 35 #[.int .u32 fs, .int .u16 fm]).drew
        rw [hz2] at FB3
        clear q1 q2 fc3 k03 k13 k23 fc k0 k1 k2 RB2 KB hW2 hb2
        generalize (W2.alloc (.cells #[.int .u32 fs, .int .u16 fm] 35)).drew = W3 at *
        have c7 := RB3.at_ 7
        have c8 := RB3.at_ 8
        have f0 := FB3.at_ 0
        have f1 := FB3.at_ 1
        go_wp2_with fail
        refine (better_eq BT.out _).mono ?_
        rintro e W4 ⟨rfl, hbb⟩
        have hb4 := next hb3 hbb
        have RB4 := RB3.held hbb
        have KB4 := KB3.held hbb
        clear c7 c8 f0 f1 hb3 RB3 KB3 FB3 hbb
        go_wp2_with fail
        have hW4 := (hS.held hb4).drew
        obtain ⟨w5, hu, hM5, hg5, -⟩ := hW4.floors.store (t := 49) (e := 35) (by kernel_rfl) (by have := hW4.counts; unfold maxLen; omega) (i := ⟨a, n, i⟩) hk4 (.agg #[.int .u32 s, .int .u16 x])
        have hu : (Instr.mapUpdate 49 (.map (some fl)) (.agg #[.int .u32 a, .int .i64 n, .int .u32 i]) (.agg #[.int .u32 s, .int .u16 x])).run Try.prog W4.drew = .ok () w5 := hu
        have T5 : Turn [fl] W4.drew w5 := Turn.of_grown hg5 (List.mem_singleton.2 rfl)
        have Z := Lib.hid (Md.setFloor (S := S) hW4 hb4.drew hnm hN ⟨a, n, i⟩ s x hs hx hM5 T5)
        have g3 : W4.cell? ⟨d, 3, none⟩ = some (.map (some fl)) := hW4.head.at_ 3
        have c7 := RB4.at_ 7
        have c8 := RB4.at_ 8
        have k0 := KB4.at_ 0
        have k1 := KB4.at_ 1
        have k2 := KB4.at_ 2
        clear hW4 hM5 hg5 T5 RB4 KB4 hS hb4
        go_region
        all_goals
          go_wp2_with fail
          refine bodyPost_end (v := .tuple #[]) (results_none rfl _ _ _) rfl ⟨rfl, ?_⟩
          rw [E.out]
          exact Z.out
  
    | false =>
      have BT := Lib.hid hbt
  
      have hlook : ∀ w', Below w.heap.size w w' → (Instr.lookup 49 (.map (some fl)) (.agg #[.int .u32 a, .int .i64 n, .int .u32 i]) true).run Try.prog w' = .ok (.tuple #[.agg #[.int .u32 fs, .int .u16 fm], .bool true]) w' := hlook
      have E := Lib.hid (show app S ⟨4, g, l, i, a, n, b, s, x⟩ = S by unfold app; simp only [hf]; rw [hbs]; simp [hbt])
      clear hf hbs hbt
      go_enter Try.func10, Try.ntmps10
      go_wp2_with fail
      generalize w.alloc (.cells #[.int .i64 4, .int .u32 g, .int .u32 l, .int .u32 i, .int .u32 a, .int .i64 n, .bool b, .int .u32 s, .int .u16 x] 37) = W at *
      have c0 := RB.at_ 0
      have c3 := RB.at_ 3
      have c4 := RB.at_ 4
      have c5 := RB.at_ 5
      go_quiet (fail)
      go_wp2_with fail
      have KB := Blk.new (W.drewN nq) 45 #[.int .u32 a, .int .i64 n, .int .u32 i]
      have hb2 := next (drewN_below hb nq) (below_new (W.drewN nq) (.cells #[.int .u32 a, .int .i64 n, .int .u32 i] 45))
      have RB2 := Blk.more (w := W.drewN nq) RB (.cells #[.int .u32 a, .int .i64 n, .int .u32 i] 45)
      rw [show (W.drewN nq).heap.size = w.heap.size + 1 from hz] at KB
      have hz2 : ((W.drewN nq).alloc (.cells #[.int .u32 a, .int .i64 n, .int .u32 i] 45)).heap.size = w.heap.size + 2 := by rw [size_new]; show W.heap.size + 1 = _; omega
      clear c0 c3 c4 c5 hb RB
      generalize (W.drewN nq).alloc (.cells #[.int .u32 a, .int .i64 n, .int .u32 i] 45) = W2 at *
      have dl := hS.head.lt
      have hW2 := hS.held hb2
      have fc : W2.cell? ⟨d, 3, none⟩ = some (.map (some fl)) := hW2.head.at_ 3
      have k0 := KB.at_ 0
      have k1 := KB.at_ 1
      have k2 := KB.at_ 2
      have q1 := hlook _ hb2.drew
      have q2 := hlook _ (next hb2 (below_new W2 (.cells #[.int .u32 0, .int .u16 0] 35))).drew
      have dW : d < W2.heap.size := by omega
      have kW : w.heap.size + 1 < W2.heap.size := by omega
      have fc3 := held (below_new W2 (.cells #[.int .u32 0, .int .u16 0] 35)) fc
      have k03 := held (below_new W2 (.cells #[.int .u32 0, .int .u16 0] 35)) k0
      have k13 := held (below_new W2 (.cells #[.int .u32 0, .int .u16 0] 35)) k1
      have k23 := held (below_new W2 (.cells #[.int .u32 0, .int .u16 0] 35)) k2
      clear hlook
      go_region
      all_goals
        have hb3 := next hb2 (below_new W2 (.cells #[.int .u32 fs, .int .u16 fm] 35)).drew
        have RB3 := (RB2.more (.cells #[.int .u32 fs, .int .u16 fm] 35)).drew
        have KB3 := (KB.more (.cells #[.int .u32 fs, .int .u16 fm] 35)).drew
        have FB3 := (Blk.new W2 35 #[.int .u32 fs, .int .u16 fm]).drew
        rw [hz2] at FB3
        clear q1 q2 fc3 k03 k13 k23 fc k0 k1 k2 RB2 KB hW2 hb2
        generalize (W2.alloc (.cells #[.int .u32 fs, .int .u16 fm] 35)).drew = W3 at *
        have c7 := RB3.at_ 7
        have c8 := RB3.at_ 8
        have f0 := FB3.at_ 0
        have f1 := FB3.at_ 1
        go_wp2_with fail
        refine (better_eq BT.out _).mono ?_
        rintro e W4 ⟨rfl, hbb⟩
        have hb4 := next hb3 hbb
        have RB4 := RB3.held hbb
        have KB4 := KB3.held hbb
        clear c7 c8 f0 f1 hb3 RB3 KB3 FB3 hbb
        go_wp2_with fail
        refine bodyPost_end (v := .tuple #[]) (results_none rfl _ _ _) rfl ⟨rfl, ?_⟩
        rw [E.out]
        exact ⟨Says.up ⟨_, _, hnm, hS.held hb4⟩, .of_below _ hb4⟩
  
end Go.Proofs.Ytncliolkdkofhaa
