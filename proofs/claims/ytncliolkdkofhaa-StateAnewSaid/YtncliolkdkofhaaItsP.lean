/-
  A map's keys in order (addr.Prefix): collected, sorted; the iterator over a copy of the map.
-/
import Derived.Test.YtncliolkdkofhaaItkP
import Derived.Test.YtncliolkdkofhaaSrt
import Derived.Test.YtncliolkdkofhaaLayg
namespace Go.Proofs.Ytncliolkdkofhaa
open Go.RowKit Go.Maps Go.Sort

instance : Inhabited Pk := ⟨⟨0, 0⟩⟩
theorem clP_length (x : Pk) : (clP x).length = 2 := rfl
theorem clP_one (x : Pk) : ∀ v ∈ clP x, v.oneCell' = true := by
  intro v hv
  simp [clP] at hv
  rcases hv with rfl | rfl <;> rfl
theorem enter_cmpP : ∀ args w, (callFunc 34 args).run Try.prog w = .ok (.enter 34 args) w := enters_of Try.func34 (by kernel_rfl) rfl
theorem cmpP_lays (blk off size : Nat) (w : World) : CmpLays Try.prog 34 #[] clP 2 cfP blk off size w := fun _ _ _ _ x y =>
  cmpP_gr x.a x.n y.a y.n _

set_option maxHeartbeats 1000000 in
theorem collectP {g : Nat} {lb : Array Value} (eg : ∀ args w, (callFunc g args).run Try.prog w = .ok (.enter g args) w) {S Sp : List Pk → Prop} {N : Nat} (hN : N ≤ 100000) {w : World}
    (hseq : SeqStopsK Fence.wide 8 Try.prog g lb (fun x : Pk => #[.agg #[.int .u32 x.a, .int .i64 x.n]]) KeepsWalks S Sp N w) :
    Calls Try.prog 57 #[.func (.func g) #[] lb] w fun e w' => ∃ v xs, e = .returned v ∧ S xs ∧ GotP w.heap.size v xs w' ∧ Below w.heap.size w w' := by
  have hC := appendSeqP eg hN hseq
  clear hseq
  go_enter Try.func57, Try.ntmps57
  go_wp2_with (go_at_call 63; refine hC.mono ?_; rintro e w' ⟨v, xs, rfl, hS, hG, hB⟩)
  go_ret
  exact ⟨v, xs, rfl, hS, hG, hB⟩

set_option maxHeartbeats 1000000 in
theorem sortFuncP {n₀ : Nat} {v : Value} {xs : List Pk} {W : World} (hlen : xs.length ≤ 100000) (h : GotP n₀ v xs W) :
    Calls Try.prog 58 #[v, .func (.func 34) #[] #[]] W fun e w' => e = .returned (.tuple #[]) ∧ ∃ ys, ys.Perm xs ∧ ys.Pairwise (fun x y => ltOf cfP y x = false) ∧ Row clP 2 w' v ys ∧ (v = .slice none 0 0 ↔ ys = []) ∧ (∀ b, v.ownBlock = some b → n₀ ≤ b ∧ b < w'.heap.size) ∧ W.grownBy w' v.ownBlock := by
  obtain ⟨hrow, hnil⟩ := h
  rcases hrow.2 with ⟨rfl, h0⟩ | ⟨g, cap, cur, rfl, hg0, hb, h1, h2, h3, h4⟩
  · have : xs = [] := List.eq_nil_of_length_eq_zero h0
    subst this
    refine (AnyF.slices_SortFunc_none Try.sortP none 0 _ W).mono ?_
    rintro e w' ⟨rfl, rfl⟩
    exact ⟨rfl, [], List.Perm.refl _, List.Pairwise.nil, .inl ⟨rfl, rfl⟩, by simp, (fun b hb => by cases hb), ⟨rfl, rfl, rfl, Nat.le_refl _, fun _ _ _ => rfl⟩⟩
  · have hH : HoldsK clP 2 W g 0 xs.toArray := holdsK_of_owns clP_length hb h4
    have hgl : g < W.heap.size := (Array.getElem?_eq_some_iff.1 hb).1
    refine (AnyQ.slices_SortFunc Try.sortP 2 Try.isAgg32 Try.sizeOf32 clP clP_length clP_one cfP swoP 34 #[] g 0 cap xs.toArray W enter_cmpP (cmpP_lays _ _ _ _) hH hgl (by simp; omega)).mono ?_
    rintro e w' ⟨rfl, d', n, os, hp, hs, rfl⟩
    have hsz : d'.size = xs.length := hp.1.trans (by simp)
    have hH' := holdsK_sortWorldK_c clP 2 W g 0 xs.toArray d' n os hH hgl hp.1
    have hR := Row.of_holds clP_length hH' (show d'.size ≤ cap by omega) h2
    rw [hsz] at hR
    refine ⟨rfl, d'.toList, (perm_lists hp).trans (by simp), sorted_pairs (by rw [hp.1]; exact hs), hR, ?_, ?_, grownBy_sortK _⟩
    · constructor
      · intro h; cases h
      · intro h
        have : d'.size = 0 := by rw [← Array.length_toList, h]; rfl
        have hx := hnil.2 (List.eq_nil_of_length_eq_zero (by omega))
        cases hx
    · intro b hb'
      cases hb'
      exact ⟨hg0, Nat.lt_of_lt_of_le hgl (size_sortWorldK_c _ _ _ _ _ _ _ _)⟩

set_option maxHeartbeats 1000000 in
theorem sortedFuncP {g : Nat} {lb : Array Value} (eg : ∀ args w, (callFunc g args).run Try.prog w = .ok (.enter g args) w) {S Sp : List Pk → Prop} {N : Nat} (hN : N ≤ 100000) (hS : ∀ xs, S xs → xs.length ≤ 100000) {w : World}
    (hseq : SeqStopsK Fence.wide 8 Try.prog g lb (fun x : Pk => #[.agg #[.int .u32 x.a, .int .i64 x.n]]) KeepsWalks S Sp N w) :
    Calls Try.prog 52 #[.func (.func g) #[] lb, .func (.func 34) #[] #[]] w fun e w' => ∃ v xs ys, e = .returned v ∧ S xs ∧ ys.Perm xs ∧ ys.Pairwise (fun x y => ltOf cfP y x = false) ∧ Row clP 2 w' v ys ∧ (v = .slice none 0 0 ↔ ys = []) ∧ (∀ b, v.ownBlock = some b → w.heap.size ≤ b ∧ b < w'.heap.size) ∧ Below w.heap.size w w' := by
  have hC := collectP eg hN hseq
  clear hseq
  go_enter Try.func52, Try.ntmps52
  go_wp2_with (first
    | (go_at_call 57; refine hC.mono ?_; rintro e w' ⟨v, xs, rfl, hSx, hG, hB⟩; have hF := sortFuncP (hS _ hSx) hG)
    | (go_at_call 58; refine hF.mono ?_; rintro e w2 ⟨rfl, ys, hp, hs, hR, hn, hb, hg⟩))
  go_ret
  exact ⟨v, xs, ys, rfl, hSx, hp, hs, hR, hn, hb, hB.grown hg hB.size (fun k e => (hb k e).1)⟩
end Go.Proofs.Ytncliolkdkofhaa
