/-
  Package fib's Sorted; the statement's own Less; making bools.
-/
import Derived.Test.YtblhijgjidfioaaFsM
namespace Go.Proofs.Ytblhijgjidfioaa
open Go.RowKit Go.Lib Go.Sort Fm Sb

set_option maxHeartbeats 400000 in
theorem less_any (a n b m : Int) (w : World) :
    Calls Try.prog 21 #[.agg #[.int .u32 a, .int .i64 n], .agg #[.int .u32 b, .int .i64 m]] w fun e w' => e = .returned (.bool (Om.less a n b m)) ∧ Below w.heap.size w w' := by
  go_enter Try.func21, Try.ntmps21
  go_wp2
  all_goals
    go_ret
    exact ⟨ret_bool (by first | (unfold Om.less; rw [decide_eq_decide]; omega) | (unfold Om.less; symm; rw [decide_eq_true_eq]; omega)), next (below_new _ _) (below_new _ _)⟩
theorem less_eq {a n b m : Int} {r : Bool} (h : Om.less a n b m = r) (w : World) :
    Calls Try.prog 21 #[.agg #[.int .u32 a, .int .i64 n], .agg #[.int .u32 b, .int .i64 m]] w fun e w' => e = .returned (.bool r) ∧ Below w.heap.size w w' := h ▸ less_any a n b m w
theorem less_kl (x y : De) : Om.less x.e.a x.e.n y.e.a y.e.n = decide (Kl x y) := by
  unfold Om.less
  exact decide_eq_decide.2 (by unfold Kl; omega)

theorem bool_parts : (Try.prog.info? 4).map (fun i => (i.zero, i.size, i.bytes)) = some (some (.bool false), 1, 1) := by kernel_rfl
theorem run_make_bools (n : Nat) (hn : n ≤ 1000) (w : World) : (Instr.makeSlice 72 (.int .i64 (n : Int)) (.int .i64 (n : Int))).run Try.prog w = .ok (.slice (some ⟨w.heap.size, 0, none⟩) n n) (w.alloc (.cells (madeCells #[.bool false] n) 4)) := by
  obtain ⟨i, h1, h2, h3, h4⟩ := info_parts' bool_parts
  have h := run_make (P := Try.prog) w 72 4 i _ (by kernel_rfl) h1 h2 .i64 .i64 (n : Int) (n : Int) (by omega) (by omega) (by rw [h4]; omega) (by omega)
  simpa [h3, Value.cells] using h

theorem raw_deco (es : List En) : Raw 0 es.length (deco es).toArray := fun p _ hp => by
  have h : p < (deco es).length := by rw [deco_len]; exact hp
  simp [h, deco_get]

set_option maxHeartbeats 400000 in
theorem sorted_any {w : World} {A : Option Addr} {len cap : Nat} {es : List En} (hI : InE w A len cap es) (hN : A = none → cap = 0) (h60 : len ≤ 60) :
    Calls Try.prog 27 #[.slice A len cap] w fun e w' => ∃ B cap', e = .returned (.slice B len cap') ∧ SortedAns es len w w' B cap' := by
  cases A with
  | none =>
    obtain rfl : cap = 0 := hN rfl
    obtain rfl : len = 0 := by
      rcases Nat.eq_zero_or_pos len with h | h
      · exact h
      · obtain ⟨_, _, h⟩ := hI.hA h
        cases h
    have hes : es = [] := List.eq_nil_of_length_eq_zero hI.hl
    go_enter Try.func27, Try.ntmps27
    go_wp2_with fail
    refine (clone_nil w).mono ?_
    rintro e w2 ⟨rfl, rfl⟩
    go_wp2_with fail
    refine (sortFunc_nil w).mono ?_
    rintro e w2 ⟨rfl, rfl⟩
    go_wp2_with fail
    go_ret
    subst hes
    exact ⟨none, 0, rfl, [], ⟨rfl, fun k h => absurd h (by simp), fun p q _ h => absurd h (by simp), fun i h => absurd h (by simp)⟩, hI, Below.refl _ _⟩
  | some ad =>
    have hc : ∀ j v, (es.flatMap ecl)[j]? = some v → w.cell? (ad.add j) = some v := fun j v hv => by
      have hj : j < es.length * 4 := by
        rw [← flat_len]
        rcases Nat.lt_or_ge j (es.flatMap ecl).length with h | h
        · exact h
        · rw [List.getElem?_eq_none h] at hv; cases hv
      obtain ⟨b, off, rfl⟩ : ∃ b off, ad = ⟨b, off, none⟩ := by
        obtain ⟨b, off, h⟩ := hI.hA (by have := hI.hl; omega)
        exact ⟨b, off, Option.some.inj h⟩
      rw [flat_get ecl_len es j hj] at hv
      have h1 := hI.hR b off rfl (j / 4) (by omega) (j % 4) (Nat.mod_lt _ (by omega))
      rw [Addr.add_mid, show off + j = off + j / 4 * 4 + j % 4 by omega, h1, ← hv]
      have : j / 4 < es.length := by omega
      simp [this]
    have hCl := Lib.hid (And.intro (clone_any w ad es len cap hI.hl h60 hc) hI)
    clear hI hc hN
    go_enter Try.func27, Try.ntmps27
    go_wp2_with fail
    refine hCl.out.1.mono ?_
    rintro e w2 ⟨v', rfl, hown, hnil, hb⟩
    obtain ⟨g, cap', cur, rfl, hbg, hg, h1, h2, h3, h4⟩ : ∃ g cap' cur, v' = .slice (some ⟨g, 0, none⟩) len cap' ∧ w.heap.size ≤ g ∧ w2.heap[g]? = some (.cells cur 66 (0, 0)) ∧ len ≤ cap' ∧ cap' ≤ maxLen ∧ cur.size = cap' * 4 ∧ cur.toList.take (len * 4) = es.flatMap ecl := by
      rcases hown.2 with ⟨h, _⟩ | h
      · exact absurd h hnil
      · exact h
    have hgl : g < w2.heap.size := by
      rcases Nat.lt_or_ge g w2.heap.size with h | h
      · exact h
      · rw [Array.getElem?_eq_none h] at hg; cases hg
    have R : RW w2 g 0 (deco es).toArray := ⟨dcl_len, dcl_one, holdsK_of_owns dcl_len hg (by rw [deco_flat, deco_len, hCl.out.2.hl]; exact h4), hgl⟩
    have hS := sortFunc_any (cap := cap') R (n := len) (by simp [deco_len, hCl.out.2.hl]) h60 (by have := raw_deco es; rw [hCl.out.2.hl] at this; exact this)
    have HS := Lib.hid (And.intro hS (And.intro R (And.intro hb (And.intro hbg h1))))
    clear hS R hb hbg h1 h2 h3 h4 hg hgl hown hnil
    go_wp2_with fail
    refine HS.out.1.mono ?_
    rintro e w3 ⟨rfl, d', hSW, hP, hT⟩
    have ANS := Lib.hid (ans_of hCl.out.2.hl h60 hCl.out.2.hF HS.out.2.2.1 HS.out.2.2.2.1 HS.out.2.2.2.2 HS.out.2.1 hSW hP hT)
    clear hSW hP hT HS hCl
    go_wp2_with fail
    go_ret
    exact ⟨_, _, rfl, ANS.out⟩
end Go.Proofs.Ytblhijgjidfioaa
