/-
  A map's keys in order (state.Key): collected, sorted; the iterator over a copy of the map.
-/
import Derived.Test.YtncliolkdkofhaaItkK
import Derived.Test.YtncliolkdkofhaaSrt
import Derived.Test.YtncliolkdkofhaaLayg
namespace Go.Proofs.Ytncliolkdkofhaa
open Go.RowKit Go.Maps Go.Sort

instance : Inhabited Ky := ⟨⟨0, 0, 0⟩⟩
theorem clK_length (x : Ky) : (clK x).length = 3 := rfl
theorem clK_one (x : Ky) : ∀ v ∈ clK x, v.oneCell' = true := by
  intro v hv
  simp [clK] at hv
  rcases hv with rfl | rfl | rfl <;> rfl
theorem enter_cmpK : ∀ args w, (callFunc 37 args).run Try.prog w = .ok (.enter 37 args) w := enters_of Try.func37 (by kernel_rfl) rfl
theorem cmpK_lays (blk off size : Nat) (w : World) : CmpLays Try.prog 37 #[] clK 3 cfK blk off size w := fun _ _ _ _ x y =>
  cmpK_gr x.a x.n x.id y.a y.n y.id _

set_option maxHeartbeats 1000000 in
theorem collectK {g : Nat} {lb : Array Value} (eg : ∀ args w, (callFunc g args).run Try.prog w = .ok (.enter g args) w) {S Sp : List Ky → Prop} {N : Nat} (hN : N ≤ 100000) {w : World}
    (hseq : SeqStopsK Fence.wide 8 Try.prog g lb (fun x : Ky => #[.agg #[.int .u32 x.a, .int .i64 x.n, .int .u32 x.id]]) KeepsWalks S Sp N w) :
    Calls Try.prog 60 #[.func (.func g) #[] lb] w fun e w' => ∃ v xs, e = .returned v ∧ S xs ∧ GotK w.heap.size v xs w' ∧ Below w.heap.size w w' := by
  have hC := appendSeqK eg hN hseq
  clear hseq
  go_enter Try.func60, Try.ntmps60
  go_wp2_with (go_at_call 66; refine hC.mono ?_; rintro e w' ⟨v, xs, rfl, hS, hG, hB⟩)
  go_ret
  exact ⟨v, xs, rfl, hS, hG, hB⟩

set_option maxHeartbeats 1000000 in
theorem sortFuncK {n₀ : Nat} {v : Value} {xs : List Ky} {W : World} (hlen : xs.length ≤ 100000) (h : GotK n₀ v xs W) :
    Calls Try.prog 61 #[v, .func (.func 37) #[] #[]] W fun e w' => e = .returned (.tuple #[]) ∧ ∃ ys, ys.Perm xs ∧ ys.Pairwise (fun x y => ltOf cfK y x = false) ∧ Row clK 3 w' v ys ∧ (v = .slice none 0 0 ↔ ys = []) ∧ (∀ b, v.ownBlock = some b → n₀ ≤ b ∧ b < w'.heap.size) ∧ W.grownBy w' v.ownBlock := by
  obtain ⟨hrow, hnil⟩ := h
  rcases hrow.2 with ⟨rfl, h0⟩ | ⟨g, cap, cur, rfl, hg0, hb, h1, h2, h3, h4⟩
  · have : xs = [] := List.eq_nil_of_length_eq_zero h0
    subst this
    refine (AnyF.slices_SortFunc_none Try.sortK none 0 _ W).mono ?_
    rintro e w' ⟨rfl, rfl⟩
    exact ⟨rfl, [], List.Perm.refl _, List.Pairwise.nil, .inl ⟨rfl, rfl⟩, by simp, (fun b hb => by cases hb), ⟨rfl, rfl, rfl, Nat.le_refl _, fun _ _ _ => rfl⟩⟩
  · have hH : HoldsK clK 3 W g 0 xs.toArray := holdsK_of_owns clK_length hb h4
    have hgl : g < W.heap.size := (Array.getElem?_eq_some_iff.1 hb).1
    refine (AnyQ.slices_SortFunc Try.sortK 3 Try.isAgg45 Try.sizeOf45 clK clK_length clK_one cfK swoK 37 #[] g 0 cap xs.toArray W enter_cmpK (cmpK_lays _ _ _ _) hH hgl (by simp; omega)).mono ?_
    rintro e w' ⟨rfl, d', n, os, hp, hs, rfl⟩
    have hsz : d'.size = xs.length := hp.1.trans (by simp)
    have hH' := holdsK_sortWorldK_c clK 3 W g 0 xs.toArray d' n os hH hgl hp.1
    have hR := Row.of_holds clK_length hH' (show d'.size ≤ cap by omega) h2
    rw [hsz] at hR
    refine ⟨rfl, d'.toList, (perm_lists hp).trans (by simp), sorted_pairs (by rw [hp.1]; exact hs), hR, ?_, ?_, grownBy_sortK _⟩
    · constructor
      · intro h; cases h
      · intro h
        have : d'.size = 0 := by rw [← Array.length_toList, h]; rfl
        have hx := hnil.2 (List.eq_nil_of_length_eq_zero (by omega))
        cases hx
    · intro b hb'
      cases hb'
      exact ⟨hg0, Nat.lt_of_lt_of_le hgl (size_sortWorldK_c _ _ _ _ _ _ _ _)⟩

set_option maxHeartbeats 1000000 in
theorem sortedFuncK {g : Nat} {lb : Array Value} (eg : ∀ args w, (callFunc g args).run Try.prog w = .ok (.enter g args) w) {S Sp : List Ky → Prop} {N : Nat} (hN : N ≤ 100000) (hS : ∀ xs, S xs → xs.length ≤ 100000) {w : World}
    (hseq : SeqStopsK Fence.wide 8 Try.prog g lb (fun x : Ky => #[.agg #[.int .u32 x.a, .int .i64 x.n, .int .u32 x.id]]) KeepsWalks S Sp N w) :
    Calls Try.prog 55 #[.func (.func g) #[] lb, .func (.func 37) #[] #[]] w fun e w' => ∃ v xs ys, e = .returned v ∧ S xs ∧ ys.Perm xs ∧ ys.Pairwise (fun x y => ltOf cfK y x = false) ∧ Row clK 3 w' v ys ∧ (v = .slice none 0 0 ↔ ys = []) ∧ (∀ b, v.ownBlock = some b → w.heap.size ≤ b ∧ b < w'.heap.size) ∧ Below w.heap.size w w' := by
  have hC := collectK eg hN hseq
  clear hseq
  go_enter Try.func55, Try.ntmps55
  go_wp2_with (first
    | (go_at_call 60; refine hC.mono ?_; rintro e w' ⟨v, xs, rfl, hSx, hG, hB⟩; have hF := sortFuncK (hS _ hSx) hG)
    | (go_at_call 61; refine hF.mono ?_; rintro e w2 ⟨rfl, ys, hp, hs, hR, hn, hb, hg⟩))
  go_ret
  exact ⟨v, xs, ys, rfl, hSx, hp, hs, hR, hn, hb, hB.grown hg hB.size (fun k e => (hb k e).1)⟩
end Go.Proofs.Ytncliolkdkofhaa
