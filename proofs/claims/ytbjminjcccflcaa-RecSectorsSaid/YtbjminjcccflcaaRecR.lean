/-
  The contracts of package rec's named and Right, and of the statement's own Right.
-/
import Derived.Test.YtbjminjcccflcaaRecP
import Derived.Maps.RangeWalk
namespace Go.Proofs.Ytbjminjcccflcaa
open Go.RowKit Rm

theorem refRight_eq {a : Nat} {len : Int} {r : Bool} (ha : a < 4294967296) (h : Am.right a len = r) (w : World) :
    Calls Try.prog 20 #[.agg #[.int .u32 a, .int .i64 len]] w fun e w' => e = .returned (.bool r) ∧ Below w.heap.size w w' := h ▸ refRight_any a len ha w

set_option maxHeartbeats 1000000 in
theorem rright_any (k : Int) (g l i a : Nat) (n : Int) (o : Bool) (s m : Nat) (ha : a < 4294967296) (w : World) :
    Calls Try.prog 8 #[.agg #[.int .i64 k, .int .u32 g, .int .u32 l, .int .u32 i, .int .u32 a, .int .i64 n, .bool o, .int .u32 s, .int .u16 m]] w fun e w' => e = .returned (.bool (right2 ⟨k, g, l, i, a, n, o, s, m⟩)) ∧ Below w.heap.size w w' := by
  cases hr : Am.right a n
  · have R := Lib.hid hr
    have E : Hid (right2 ⟨k, g, l, i, a, n, o, s, m⟩ = false) := Lib.hid (by unfold right2; simp [hr])
    clear hr
    go_enter Try.func8, Try.ntmps8
    go_wp2_with fail
    have hb0 := below_new w (.cells #[.int .i64 k, .int .u32 g, .int .u32 l, .int .u32 i, .int .u32 a, .int .i64 n, .bool o, .int .u32 s, .int .u16 m] 30)
    refine (refRight_eq ha R.out _).mono ?_
    rintro e w1 ⟨rfl, hb⟩
    have HB := Lib.hid (next hb0 hb)
    clear hb hb0
    go_wp2_with fail
    go_ret
    exact ⟨ret_bool E.out.symm, HB.out⟩
  · have R := Lib.hid hr
    clear hr
    go_enter Try.func8, Try.ntmps8
    go_wp2_with fail
    refine (refRight_eq ha R.out _).mono ?_
    rintro e w1 ⟨rfl, hb⟩
    have hb0 := below_new w (.cells #[.int .i64 k, .int .u32 g, .int .u32 l, .int .u32 i, .int .u32 a, .int .i64 n, .bool o, .int .u32 s, .int .u16 m] 30)
    have C := (Blk.new w 30 #[.int .i64 k, .int .u32 g, .int .u32 l, .int .u32 i, .int .u32 a, .int .i64 n, .bool o, .int .u32 s, .int .u16 m]).held hb
    have HB := Lib.hid (next hb0 hb)
    clear hb hb0
    have c0 := C.at_ 0
    have c3 := C.at_ 3
    have c4 := C.at_ 4
    have c5 := C.at_ 5
    have c6 := C.at_ 6
    have c7 := C.at_ 7
    have c8 := C.at_ 8
    clear C
    simp at c0 c3 c4 c5 c6 c7 c8
    go_wp2_with fail
    all_goals
      clear c0 c3 c4 c5 c6 c7 c8
      have R' := R.out
      go_ret
      refine ⟨ret_bool ?_, HB.out⟩
      clear HB R
      simp_all [right2]
    all_goals first | (intros; omega) | (rw [Bool.eq_iff_iff]; simp; omega)

theorem named_any (k : Int) (w : World) : Calls Try.prog 17 #[.int .i64 k] w fun e w' => e = .returned (.bool (named k)) ∧ w = w' := by
  go_enter Try.func17, Try.ntmps17
  go_wp2
  all_goals
    go_ret
    exact ⟨ret_bool (by simp_all [named]), rfl⟩
theorem named_eq {k : Int} {r : Bool} (h : named k = r) (w : World) : Calls Try.prog 17 #[.int .i64 k] w fun e w' => e = .returned (.bool r) ∧ Below w.heap.size w w' :=
  (named_any k w).mono fun _ _ h' => ⟨h ▸ h'.1, h'.2 ▸ Below.refl _ _⟩
theorem right_eq {a : Nat} {len : Int} {r : Bool} (ha : a < 4294967296) (h : Am.right a len = r) (w : World) :
    Calls Try.prog 18 #[.agg #[.int .u32 a, .int .i64 len]] w fun e w' => e = .returned (.bool r) ∧ Below w.heap.size w w' := h ▸ right_any a len ha w
theorem lost_any (s m : Int) (w : World) : Calls Try.prog 19 #[.agg #[.int .u32 s, .int .u16 m]] w fun e w' => e = .returned (.bool (m == 65535)) ∧ Below w.heap.size w w' := by
  go_enter Try.func19, Try.ntmps19
  go_wp2
  go_ret
  exact ⟨rfl, (Below.refl _ _).alloc (Nat.le_refl _) _⟩
theorem lost_eq {s m : Int} {r : Bool} (h : (m == 65535) = r) (w : World) :
    Calls Try.prog 19 #[.agg #[.int .u32 s, .int .u16 m]] w fun e w' => e = .returned (.bool r) ∧ Below w.heap.size w w' := h ▸ lost_any s m w

set_option maxHeartbeats 1000000 in
theorem eql_rec (k k' : Int) (g l i a g' l' i' a' : Nat) (n n' : Int) (o o' : Bool) (s m s' m' : Nat) (w : World) :
    (binOp .eql 30 (.agg #[.int .i64 k, .int .u32 g, .int .u32 l, .int .u32 i, .int .u32 a, .int .i64 n, .bool o, .int .u32 s, .int .u16 m]) (.agg #[.int .i64 k', .int .u32 g', .int .u32 l', .int .u32 i', .int .u32 a', .int .i64 n', .bool o', .int .u32 s', .int .u16 m'])).run Try.prog w =
      .ok (.bool (decide ((⟨k, g, l, i, a, n, o, s, m⟩ : Rc) = ⟨k', g', l', i', a', n', o', s', m'⟩))) w := by
  go_simp
  by_cases h1 : k = k'
  case neg => simp [h1]
  by_cases h2 : g = g'
  case neg => simp [h2, show ¬ (g : Int) = g' by omega]
  by_cases h3 : l = l'
  case neg => simp [h3, show ¬ (l : Int) = l' by omega]
  by_cases h4 : i = i'
  case neg => simp [h4, show ¬ (i : Int) = i' by omega]
  by_cases h5 : a = a'
  case neg => simp [h5, show ¬ (a : Int) = a' by omega]
  by_cases h6 : n = n'
  case neg => simp [h6]
  by_cases h7 : o = o'
  case neg => simp [h7]
  by_cases h8 : s = s'
  case neg => simp [h8, show ¬ (s : Int) = s' by omega]
  by_cases h9 : m = m'
  case neg => simp [h9, show ¬ (m : Int) = m' by omega]
  simp [h1, h2, h3, h4, h5, h6, h7, h8, h9]

theorem eq_op {P : Program} {C : World → Prop} {K : Act → Prop} {a : Act} {o : Oper} {t : TypeId} {x y : Operand} {z : TypeId} {xs ys : Array Value} {b : Bool} (ho : o.op = .binOp .eql t x y z) (ha : a.eval x = .agg xs) (hb : a.eval y = .agg ys)
    (hm : P.eqGuardType P.depth t = false) (hq : ∀ w, (binOp .eql t (.agg xs) (.agg ys)).run P w = .ok (.bool b) w) (hk : K (a.put o.dst (.bool b))) : o.quiet P a C K :=
  ⟨_, fun w _ => by
    unfold Oper.quietAt execOp
    simp [ho, ha, hb, run_eqGuard_agg _ _ _ _ _ _ _ hm, hq, Oper.quietUpon], hk⟩

end Go.Proofs.Ytbjminjcccflcaa
