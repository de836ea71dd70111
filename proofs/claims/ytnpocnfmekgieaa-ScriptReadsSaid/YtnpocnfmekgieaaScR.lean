/-
  The contract of an event's Right.
-/
import Derived.Test.YtnpocnfmekgieaaScP
namespace Go.Proofs.Ytnpocnfmekgieaa
open Go.RowKit Go.Maps Sc

theorem counts_any (z : Int) (w : World) : Calls Try.prog 18 #[.int .i64 z] w fun e w' => e = .returned (.bool (small z)) ∧ w = w' := by
  unfold small
  cases h : decide (0 ≤ z)
  · go_enter Try.func18, Try.ntmps18
    go_wp2_with fail
    go_ret
    exact ⟨rfl, rfl⟩
  · go_enter Try.func18, Try.ntmps18
    go_wp2_with fail
    go_ret
    exact ⟨ret_bool (by simp), rfl⟩
theorem counts_eq {z : Int} {r : Bool} (h : small z = r) (w : World) : Calls Try.prog 18 #[.int .i64 z] w fun e w' => e = .returned (.bool r) ∧ Below w.heap.size w w' :=
  (counts_any z w).mono fun _ _ h' => ⟨h ▸ h'.1, h'.2 ▸ Below.refl _ _⟩
theorem pared_any (e : Ev) (h0 : 0 ≤ e.kind) (h1 : e.kind ≤ 10) (w : World) : Calls Try.prog 17 #[.agg (ecs e)] w fun x w' => x = .returned (.agg (ecs (pared e))) ∧ Below w.heap.size w w' := by
  obtain ⟨kind, i, k, n, a, len, p⟩ := e
  simp only at h0 h1
  have hk : kind = 0 ∨ kind = 1 ∨ kind = 2 ∨ kind = 3 ∨ kind = 4 ∨ kind = 5 ∨ kind = 6 ∨ kind = 7 ∨ kind = 8 ∨ kind = 9 ∨ kind = 10 := by omega
  rcases hk with rfl | rfl | rfl | rfl | rfl | rfl | rfl | rfl | rfl | rfl | rfl
  · exact pared_0 i k n len a ⟨p.toArray⟩ w
  · exact pared_1 i k n len a ⟨p.toArray⟩ w
  · exact pared_2 i k n len a ⟨p.toArray⟩ w
  · exact pared_3 i k n len a ⟨p.toArray⟩ w
  · exact pared_4 i k n len a ⟨p.toArray⟩ w
  · exact pared_5 i k n len a ⟨p.toArray⟩ w
  · exact pared_6 i k n len a ⟨p.toArray⟩ w
  · exact pared_7 i k n len a ⟨p.toArray⟩ w
  · exact pared_8 i k n len a ⟨p.toArray⟩ w
  · exact pared_9 i k n len a ⟨p.toArray⟩ w
  · exact pared_10 i k n len a ⟨p.toArray⟩ w
theorem eq_op {P : Program} {C : World → Prop} {K : Act → Prop} {a : Act} {o : Oper} {t : TypeId} {x y : Operand} {z : TypeId} {xs ys : Array Value} {b : Bool} (ho : o.op = .binOp .eql t x y z) (ha : a.eval x = .agg xs) (hb : a.eval y = .agg ys)
    (hm : P.eqGuardType P.depth t = false) (hq : ∀ w, (binOp .eql t (.agg xs) (.agg ys)).run P w = .ok (.bool b) w) (hk : K (a.put o.dst (.bool b))) : o.quiet P a C K :=
  ⟨_, fun w _ => by
    unfold Oper.quietAt execOp
    simp [ho, ha, hb, run_eqGuard_agg _ _ _ _ _ _ _ hm, hq, Oper.quietUpon], hk⟩
set_option maxHeartbeats 1000000 in
theorem eql_ev (e f : Ev) (w : World) : (binOp .eql 30 (.agg (ecs e)) (.agg (ecs f))).run Try.prog w = .ok (.bool (decide (e = f))) w := by
  obtain ⟨k1, i1, j1, n1, a1, l1, p1⟩ := e
  obtain ⟨k2, i2, j2, n2, a2, l2, p2⟩ := f
  unfold ecs
  go_simp
  by_cases h1 : k1 = k2
  case neg => simp [h1]
  by_cases h2 : i1 = i2
  case neg => simp [h2]
  by_cases h3 : j1 = j2
  case neg => simp [h3]
  by_cases h4 : n1 = n2
  case neg => simp [h4]
  by_cases h5 : a1 = a2
  case neg => simp [h5, show ¬ (a1 : Int) = a2 by omega]
  by_cases h6 : l1 = l2
  case neg => simp [h6]
  by_cases h7 : p1 = p2 <;> simp [h1, h2, h3, h4, h5, h6, h7]
theorem pared_bare (e : Ev) : decide (e = pared e) = bare e := by
  obtain ⟨kind, i, k, n, a, len, p⟩ := e
  unfold pared bare
  simp only [Ev.mk.injEq, true_and]
  rw [Bool.eq_iff_iff, decide_eq_true_eq]
  simp only [Bool.and_eq_true, Bool.or_eq_true, beq_iff_eq, List.isEmpty_iff]
  cases hasI kind <;> cases hasK kind <;> cases hasN kind <;> cases hasP kind <;> cases hasS kind <;> simp [and_assoc]
end Go.Proofs.Ytnpocnfmekgieaa
