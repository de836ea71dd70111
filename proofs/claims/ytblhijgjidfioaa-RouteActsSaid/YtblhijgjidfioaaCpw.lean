/-
  slices.Compact at prefixes.
-/
import Derived.Test.YtblhijgjidfioaaCpt
namespace Go.Proofs.Ytblhijgjidfioaa
open Go.RowKit Go.Maps

theorem mixed_orders2 : Try.prog.follows .mixedOrders = true := by decide
theorem PR.drew {w : World} {g m : Nat} {f : Nat → Pk} (h : PR w g f m) : PR w.drew g f m := ⟨h.c0, h.c1, h.f0, h.f1⟩
theorem neq_pfx {a b : Nat} {n n' : Int} (h : ¬ (a = b ∧ n = n')) (w : World) : (binOp .neq 32 (.agg #[.int .u32 a, .int .i64 n]) (.agg #[.int .u32 b, .int .i64 n'])).run Try.prog w = .ok (.bool true) w := by
  go_simp
  by_cases h1 : a = b
  · by_cases h2 : n = n'
    · exact absurd ⟨h1, h2⟩ h
    · simp [h1, h2]
  · simp [show ¬ (a : Int) = b by omega]
theorem eql_pfx {a b : Nat} {n n' : Int} (h : ¬ (a = b ∧ n = n')) (w : World) : (binOp .eql 32 (.agg #[.int .u32 a, .int .i64 n]) (.agg #[.int .u32 b, .int .i64 n'])).run Try.prog w = .ok (.bool false) w := by
  go_simp
  by_cases h1 : a = b
  · by_cases h2 : n = n'
    · exact absurd ⟨h1, h2⟩ h
    · simp [h1, h2]
  · simp [show ¬ (a : Int) = b by omega]
theorem set_turn {w w2 : World} {g : Nat} (h : Turn [g] w w2) (i : Nat) (x : Pk) : Turn [g] w ((w2.setCell ⟨g, i * 2, none⟩ (.int .u32 x.a)).setCell ⟨g, i * 2 + 1, none⟩ (.int .i64 x.n)) :=
  h.trans ((Turn.setCell w2 (by simp) _).trans (Turn.setCell _ (by simp) _))
/-- what slices.Compact leaves -/
structure Cpd (w w' : World) (g : Nat) (f : Nat → Pk) (m cap : Nat) (v : Value) : Prop where
  val : v = .slice (some ⟨g, 0, none⟩) (keep f m).length cap
  row : ∃ f', PR w' g f' (keep f m).length ∧ ∀ i (h : i < (keep f m).length), f' i = (keep f m)[i]
  turn : Turn [g] w w'
set_option maxHeartbeats 4000000 in
set_option maxRecDepth 100000 in
theorem compact_any {w : World} {g m cap : Nat} {f : Nat → Pk} (h : PR w g f m) (hm : m ≤ 100000) (hc : m ≤ cap) :
    Calls Try.prog 32 #[.slice (some ⟨g, 0, none⟩) m cap] w fun e w' => ∃ v, e = .returned v ∧ Cpd w w' g f m cap v := by
  have H := Lib.hid h
  have mixed := mixed_orders2
  clear h
  by_cases hm2 : m < 2
  · have hmz : (m : Int) < 2 := by omega
    have hn : keep f m = (List.range m).map f := keep_new f m (fun i h1 h2 => by omega)
    have E := Lib.hid hn
    clear hn
    go_enter Try.func32, Try.ntmps32
    go_wp2_with fail
    go_ret
    refine ⟨_, rfl, by rw [E.out]; simp, ⟨f, by rw [E.out]; simpa using H.out, fun i hi => ?_⟩, .refl _ _⟩
    simp only [E.out]
    simp
  · have hmz : ¬ (m : Int) < 2 := by omega
    go_enter Try.func32, Try.ntmps32
    go_wp2_with fail
    go_loopw [3] (fun v wr => ∃ k : Nat, v = .int .i64 k ∧ 1 ≤ k ∧ k ≤ m ∧ Hid (PR wr g f m ∧ Turn [g] w wr ∧ ∀ i, 0 < i → i < k → f i ≠ f (i - 1))) (fun v _ => m - (intOf v).toNat)
    case atStart => exact ⟨1, rfl, Nat.le_refl _, by omega, H.out, .refl _ _, fun i h1 h2 => by omega⟩
    case round =>
      clear H
      obtain ⟨k, rfl, hk1, hkm, R⟩ := hrel
      by_cases hk : k < m
      · have hkz : (k : Int) < (m : Int) := by omega
        have kp : (0 : Int) ≤ (k : Int) - 1 := by omega
        have kp' : (1 : Int) ≤ (k : Int) := by omega
        have kb : (k : Int) - 1 < (m : Int) := by omega
        have ke : ((k : Int) - 1).toNat = k - 1 := by omega
        have c0 := R.out.1.c0 k hk
        have c1 := R.out.1.c1 k hk
        have c2 := R.out.1.c0 (k - 1) (by omega)
        have c3 := R.out.1.c1 (k - 1) (by omega)
        by_cases he : f k = f (k - 1)
        · have S := Lib.hid (Cp.start hk1 R.out.2.2 he)
          rw [he] at c0 c1
          have hm3 : (k : Int) ≤ (m : Int) := by omega
          have hcz : (k : Int) ≤ (cap : Int) := by omega
          have hcm : (m : Int) ≤ (cap : Int) := by omega
          have PT := Lib.hid (And.intro R.out.1 R.out.2.1)
          clear R
          generalize f (k - 1) = x at c0 c1 c2 c3
          obtain ⟨a, n⟩ := x
          dsimp only at c0 c1 c2 c3
          go_wp2_with fail
          go_big_region_o
          all_goals go_wp2_with fail
          obtain ⟨z, hz⟩ : ∃ z, m - k = z := ⟨_, rfl⟩
          obtain ⟨zc, hzc⟩ : ∃ zc, cap - k = zc := ⟨_, rfl⟩
          rw [hz, hzc]
          clear c0 c1 c2 c3 kp kp' kb ke
          go_loopw [3, 5] (fun v3 v5 wr2 => ∃ (q j : Nat) (cur : Nat → Pk), v3 = .int .i64 q ∧ v5 = .int .i64 j ∧ 1 ≤ j ∧ j ≤ z ∧ q < k + j ∧ Hid (PR wr2 g cur m ∧ Turn [g] w wr2 ∧ Cp f cur q (k + j))) (fun _ v5 _ => z - (intOf v5).toNat)
          case atStart => exact ⟨k, 1, f, rfl, rfl, Nat.le_refl _, by omega, by omega, PT.out.1.drew, PT.out.2.drew, S.out⟩
          case round =>
            clear PT S
            obtain ⟨q, j, cur, rfl, rfl, hj1, hjz, hqj, R⟩ := hrel
            by_cases hj : j < z
            · have hjzz : (j : Int) < (z : Int) := by omega
              have jp : (0 : Int) ≤ (j : Int) - 1 := by omega
              have jp' : (1 : Int) ≤ (j : Int) := by omega
              have jb : (j : Int) - 1 < (z : Int) := by omega
              have je : ((j : Int) - 1).toNat = j - 1 := by omega
              have qb : (q : Int) < (m : Int) := by omega
              have c0 := R.out.1.c0 (k + j) (by omega)
              have c1 := R.out.1.c1 (k + j) (by omega)
              have c2 := R.out.1.c0 (k + (j - 1)) (by omega)
              have c3 := R.out.1.c1 (k + (j - 1)) (by omega)
              have c4 := R.out.1.c0 q (by omega)
              have c5 := R.out.1.c1 q (by omega)
              have f4 := R.out.1.f0 q (by omega)
              have f5 := R.out.1.f1 q (by omega)
              rw [R.out.2.2.rest _ (by omega), Nat.add_mul] at c0 c1
              rw [R.out.2.2.rest _ (by omega), Nat.add_mul] at c2 c3
              by_cases he2 : f (k + j) = f (k + j - 1)
              · have S := Lib.hid (And.intro R.out.1 (And.intro R.out.2.1 (R.out.2.2.same he2)))
                rw [he2, show k + j - 1 = k + (j - 1) by omega] at c0 c1
                clear R
                generalize f (k + (j - 1)) = x at c0 c1 c2 c3
                obtain ⟨a, n⟩ := x
                dsimp only at c0 c1 c2 c3
                go_wp2_with fail
                go_big_region_o
                all_goals go_wp2_with fail
                go_roundw
                case rel => exact ⟨q, j + 1, cur, rfl, by go_num, by omega, by omega, by omega, S.out.1.drew, S.out.2.1.drew, S.out.2.2⟩
                case measure => simp [intOf]; omega
              · have S := Lib.hid (And.intro (R.out.1.set (show q < m by omega) (f (k + j))) (And.intro (set_turn R.out.2.1 q (f (k + j))) (R.out.2.2.put he2)))
                have hne : ¬ ((f (k + j)).a = (f (k + (j - 1))).a ∧ (f (k + j)).n = (f (k + (j - 1))).n) := fun e => he2 (by
                  rw [show k + j - 1 = k + (j - 1) by omega]
                  cases hx : f (k + j)
                  cases hy : f (k + (j - 1))
                  rw [hx, hy] at e
                  simp at e
                  rw [e.1, e.2])
                clear R
                generalize f (k + j) = x at c0 c1 hne S
                generalize f (k + (j - 1)) = y at c2 c3 hne
                obtain ⟨a, n⟩ := x
                obtain ⟨b, n'⟩ := y
                dsimp only at c0 c1 c2 c3 hne S
                have hq := neq_pfx hne
                clear hne
                go_wp2_with fail
                go_big_region_o
                all_goals go_wp2_with fail
                go_roundw
                case rel => exact ⟨q + 1, j + 1, _, by go_num, by go_num, by omega, by omega, by omega, S.out.1.drew, S.out.2.1.drew, S.out.2.2⟩
                case measure => simp [intOf]; omega
            · obtain rfl : j = z := by omega
              have hql := R.out.2.2.len
              have hkz2 : k + j = m := by omega
              rw [hkz2] at R hql
              have hqz : (q : Int) ≤ (m : Int) := by omega
              have hqc : (q : Int) ≤ (cap : Int) := by omega
              obtain ⟨w3, hrun, hP3, hT3, -⟩ := run_clear_pre R.out.1 (show q ≤ m by omega) (cap - q) 0
              have Z := Lib.hid (And.intro hP3 (And.intro (R.out.2.1.trans hT3) (And.intro R.out.2.2 hql)))
              clear R hP3 hT3
              go_wp2_with fail
              go_ret
              refine ⟨_, rfl, by rw [Z.out.2.2.2]; rfl, ⟨cur, by rw [Z.out.2.2.2]; exact Z.out.1, Z.out.2.2.1.at_⟩, Z.out.2.1⟩
        · have hne : ¬ ((f k).a = (f (k - 1)).a ∧ (f k).n = (f (k - 1)).n) := fun e => he (by
            cases hx : f k
            cases hy : f (k - 1)
            rw [hx, hy] at e
            simp at e
            rw [e.1, e.2])
          have S := Lib.hid (And.intro R.out.1 (And.intro R.out.2.1 (show ∀ i, 0 < i → i < k + 1 → f i ≠ f (i - 1) from fun i h1 h2 => by
            by_cases c : i = k
            · rw [c]; exact he
            · exact R.out.2.2 i h1 (by omega))))
          clear R
          generalize f k = x at c0 c1 hne
          generalize f (k - 1) = y at c2 c3 hne
          obtain ⟨a, n⟩ := x
          obtain ⟨b, n'⟩ := y
          dsimp only at c0 c1 c2 c3 hne
          have hq := eql_pfx hne
          clear hne
          go_wp2_with fail
          go_big_region_o
          all_goals go_wp2_with fail
          go_roundw
          case rel => exact ⟨k + 1, by go_num, by omega, by omega, S.out.1.drew, S.out.2.1.drew, S.out.2.2⟩
          case measure => simp [intOf]; omega
      · obtain rfl : k = m := by omega
        have hn := Lib.hid (keep_new f k R.out.2.2)
        go_wp2_with fail
        go_ret
        refine ⟨_, rfl, by rw [hn.out]; simp, ⟨f, by rw [hn.out]; simpa using R.out.1, fun i hi => ?_⟩, R.out.2.1⟩
        simp only [hn.out]
        simp
end Go.Proofs.Ytblhijgjidfioaa
