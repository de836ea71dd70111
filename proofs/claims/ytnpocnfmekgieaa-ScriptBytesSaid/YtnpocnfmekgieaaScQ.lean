/-
  The statement's own Few and Same.
-/
import Derived.Test.YtnpocnfmekgieaaScF
import Derived.Lib.QuietBelow
namespace Go.Proofs.Ytnpocnfmekgieaa
open Go.RowKit Go.Maps Sc

def Sc.isFew (es : List Ev) : Prop := es.length ≤ 150 ∧ ∀ e ∈ es, e.p.length ≤ 400
set_option maxRecDepth 100000 in
set_option maxHeartbeats 2000000 in
theorem few_any {A : Option Addr} {n cap : Nat} {es : List Ev} {w : World} (h : El w A n cap es) :
    Calls Try.prog 8 #[.slice A n cap] w fun x w' => ∃ b, x = .returned (.bool b) ∧ (b = true → Sc.isFew es) ∧ Below w.heap.size w w' := by
  have hn := h.len
  have hmx := h.max
  have hmx' : n ≤ 9223372036854775807 := by unfold maxLen at hmx; omega
  have H := Lib.hid h
  clear h hmx
  go_enter Try.func8, Try.ntmps8
  go_wp2_with fail
  go_loopw [7] (fun v wr => ∃ k : Nat, v = .int .i64 (k : Nat) ∧ k ≤ n ∧ Hid ((∀ (j : Nat) (hj : j < es.length), j < k → es[j].p.length ≤ 400) ∧ Below w.heap.size w wr)) (fun v _ => n - (intOf v).toNat)
  case atStart => exact ⟨0, rfl, Nat.zero_le _, Lib.hid ⟨fun j hj h => absurd h (by omega), .refl _ _⟩⟩
  case round =>
    obtain ⟨k, rfl, hkn, R⟩ := hrel
    by_cases hlt : k < n
    · have d1 : decide ((k : Int) < (n : Int)) = true := decide_eq_true (by omega)
      have hk : k < es.length := by omega
      obtain ⟨e, he⟩ : ∃ e, es[k] = e := ⟨_, rfl⟩
      obtain ⟨b, off, rfl⟩ := H.out.plain (by omega)
      obtain ⟨c0, c1, c2, c3, c4, c5, c6⟩ := (H.out.held R.out.2).at_ hk he
      have hsz : (⟨e.p.toArray⟩ : ByteArray).size = e.p.length := str_size _
      have EH := Lib.hid (And.intro hk (And.intro he hsz))
      have i1 : (k : Int) < (n : Int) := by omega
      clear he hsz
      generalize e.kind = y0 at *
      generalize e.i = y1 at *
      generalize e.k = y2 at *
      generalize e.n = y3 at *
      generalize e.a = y4 at *
      generalize e.len = y5 at *
      generalize (⟨e.p.toArray⟩ : ByteArray) = s at *
      have R2 := Lib.hid (R.out.2.trans ((below_new wr (.cells #[.int .i64 y0, .int .i64 y1, .int .i64 y2, .int .i64 y3, .int .u32 (y4 : Nat), .int .i64 y5, .string s] 30)).mono R.out.2.size))
      cases hl : decide ((400 : Int) < (s.size : Int)) with
      | true =>
        go_wp2_with fail
        go_ret
        exact ⟨false, rfl, (fun h => by cases h), R2.out⟩
      | false =>
        have hl2 := of_decide_eq_false hl
        have R3 := Lib.hid (And.intro (show ∀ (j : Nat) (hj : j < es.length), j < k + 1 → es[j].p.length ≤ 400 from fun j hj hjk => by
          by_cases e1 : j = k
          · subst e1; rw [EH.out.2.1, ← EH.out.2.2]; omega
          · exact R.out.1 j hj (by omega)) R2.out)
        clear hl2
        go_wp2_with fail
        go_roundw
        case rel => exact ⟨k + 1, by go_num, by omega, R3⟩
        case measure => simp [intOf]; omega
    · obtain rfl : k = n := by omega
      have d1 : decide ((k : Int) < (k : Int)) = false := decide_eq_false (by omega)
      cases hl : decide ((k : Int) ≤ 150) with
      | true =>
        go_wp2_with fail
        go_ret
        refine ⟨true, rfl, fun _ => ⟨by have := of_decide_eq_true hl; omega, fun x hx => ?_⟩, R.out.2⟩
        obtain ⟨j, hj, rfl⟩ := List.getElem_of_mem hx
        exact R.out.1 j hj (by omega)
      | false =>
        go_wp2_with fail
        go_ret
        exact ⟨false, rfl, (fun h => by cases h), R.out.2⟩

theorem neq_op {P : Program} {C : World → Prop} {K : Act → Prop} {a : Act} {o : Oper} {t : TypeId} {x y : Operand} {z : TypeId} {xs ys : Array Value} {b : Bool} (ho : o.op = .binOp .neq t x y z) (ha : a.eval x = .agg xs) (hb : a.eval y = .agg ys)
    (hm : P.eqGuardType P.depth t = false) (hq : ∀ w, (binOp .neq t (.agg xs) (.agg ys)).run P w = .ok (.bool b) w) (hk : K (a.put o.dst (.bool b))) : o.quiet P a C K :=
  ⟨_, fun w _ => by
    unfold Oper.quietAt execOp
    simp [ho, ha, hb, run_eqGuard_agg _ _ _ _ _ _ _ hm, hq, Oper.quietUpon], hk⟩
set_option maxHeartbeats 1000000 in
theorem neq_self (k i j n len : Int) (a : Nat) (s : ByteArray) (w : World) : (binOp .neq 30 (.agg #[.int .i64 k, .int .i64 i, .int .i64 j, .int .i64 n, .int .u32 (a : Nat), .int .i64 len, .string s]) (.agg #[.int .i64 k, .int .i64 i, .int .i64 j, .int .i64 n, .int .u32 (a : Nat), .int .i64 len, .string s])).run Try.prog w = .ok (.bool false) w := by
  go_simp
set_option maxRecDepth 100000 in
set_option maxHeartbeats 2000000 in
theorem same_any {A A' : Option Addr} {n cap cap' : Nat} {es : List Ev} {w : World} (h : El w A n cap es) (h' : El w A' n cap' es) :
    Calls Try.prog 14 #[.slice A n cap, .slice A' n cap'] w fun x w' => x = .returned (.bool true) ∧ Below w.heap.size w w' := by
  have hn := h.len
  have hmx := h.max
  have hmx' : n ≤ 9223372036854775807 := by unfold maxLen at hmx; omega
  have H := Lib.hid (And.intro h h')
  clear h h' hmx
  have hq := Lib.hid (fun k i j n len a s w => neq_self k i j n len a s w)
  go_enter Try.func14, Try.ntmps14
  go_wp2_with fail
  go_loopw [13] (fun v wr => ∃ k : Nat, v = .int .i64 (k : Nat) ∧ k ≤ n ∧ Hid (Below w.heap.size w wr)) (fun v _ => n - (intOf v).toNat)
  case atStart => exact ⟨0, rfl, Nat.zero_le _, Lib.hid (.refl _ _)⟩
  case round =>
    obtain ⟨k, rfl, hkn, R⟩ := hrel
    by_cases hlt : k < n
    · have d1 : decide ((k : Int) < (n : Int)) = true := decide_eq_true (by omega)
      have hk : k < es.length := by omega
      obtain ⟨e, he⟩ : ∃ e, es[k] = e := ⟨_, rfl⟩
      obtain ⟨b, off, rfl⟩ := H.out.1.plain (by omega)
      obtain ⟨b', off', rfl⟩ := H.out.2.plain (by omega)
      obtain ⟨c0, c1, c2, c3, c4, c5, c6⟩ := (H.out.1.held R.out).at_ hk he
      obtain ⟨x0, x1, x2, x3, x4, x5, x6⟩ := (H.out.2.held R.out).at_ hk he
      have i1 : (k : Int) < (n : Int) := by omega
      clear he
      generalize e.kind = y0 at *
      generalize e.i = y1 at *
      generalize e.k = y2 at *
      generalize e.n = y3 at *
      generalize e.a = y4 at *
      generalize e.len = y5 at *
      generalize (⟨e.p.toArray⟩ : ByteArray) = s at *
      go_upto_region 6 with fail
      have k0 := fun d os => cell_regrown c0 d os
      have k1 := fun d os => cell_regrown c1 d os
      have k2 := fun d os => cell_regrown c2 d os
      have k3 := fun d os => cell_regrown c3 d os
      have k4 := fun d os => cell_regrown c4 d os
      have k5 := fun d os => cell_regrown c5 d os
      have k6 := fun d os => cell_regrown c6 d os
      have z0 := fun d os => cell_regrown x0 d os
      have z1 := fun d os => cell_regrown x1 d os
      have z2 := fun d os => cell_regrown x2 d os
      have z3 := fun d os => cell_regrown x3 d os
      have z4 := fun d os => cell_regrown x4 d os
      have z5 := fun d os => cell_regrown x5 d os
      have z6 := fun d os => cell_regrown x6 d os
      clear c0 c1 c2 c3 c4 c5 c6 x0 x1 x2 x3 x4 x5 x6
      refine wp_region_quiet_below (by kernel_rfl) (by kernel_rfl) ?_
      iterate 8 (go_big_quiet_step (fail))
      go_big_quiet_want
      refine neq_op rfl rfl rfl (by kernel_rfl) (fun u => hq.out y0 y1 y2 y3 y5 y4 s u) ?_
      go_frame
      go_big_quiet_on
      refine wpQuiet_nil ?_
      intro _ hw'
      obtain ⟨⟨dq, osq⟩, hw''⟩ := hw'
      subst hw''
      have R2 := Lib.hid (R.out.trans ((below_regrown wr dq osq).mono R.out.size))
      clear k0 k1 k2 k3 k4 k5 k6 z0 z1 z2 z3 z4 z5 z6
      go_wp2_with fail
      go_roundw
      case rel => exact ⟨k + 1, by go_num, by omega, R2⟩
      case measure => simp [intOf]; omega
    · obtain rfl : k = n := by omega
      have d1 : decide ((k : Int) < (k : Int)) = false := decide_eq_false (by omega)
      go_wp2_with fail
      go_ret
      exact ⟨rfl, R.out⟩
end Go.Proofs.Ytnpocnfmekgieaa
