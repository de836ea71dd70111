/-
  slices.SortFunc at prefixes that a call made itself.
-/
import Derived.Test.YtblhijgjidfioaaCpw
import Derived.Test.YtblhijgjidfioaaLayg
import Derived.Test.YtblhijgjidfioaaCmpP
namespace Go.Proofs.Ytblhijgjidfioaa
open Go.RowKit Go.Maps Go.Sort

def clP (x : Pk) : List Value := [.int .u32 x.a, .int .i64 x.n]
theorem clP_length (x : Pk) : (clP x).length = 2 := rfl
theorem clP_one (x : Pk) : ∀ v ∈ clP x, v.oneCell' = true := by
  intro v hv
  simp [clP] at hv
  rcases hv with rfl | rfl <;> rfl
theorem enter_cmpP : ∀ args w, (callFunc 31 args).run Try.prog w = .ok (.enter 31 args) w := enters_of Try.func31 (by kernel_rfl) rfl
theorem cmpP_lays (blk off size : Nat) (w : World) : CmpLays Try.prog 31 #[] clP 2 cfP blk off size w := fun _ _ _ _ x y =>
  (cmpP_gr x.a x.n y.a y.n _).mono fun _ _ ⟨he, q, os', hw⟩ => ⟨he, q, os', hw⟩
theorem PR.of_holds {w : World} {g : Nat} {d : Array Pk} (h : HoldsK clP 2 w g 0 d) : PR w g (fun i => d[i]!) d.size := by
  have key : ∀ i, i < d.size → ∀ j, j < 2 → w.cell? ⟨g, i * 2 + j, none⟩ = (clP d[i]!)[j]? ∧ w.frozen? ⟨g, i * 2 + j, none⟩ = false := fun i hi j hj => by
    have h1 := h.cell hi hj
    rw [Nat.zero_add] at h1
    refine ⟨h1.1.trans ?_, h1.2⟩
    have hl : j < (clP d[i]!).length := by rw [clP_length]; exact hj
    rw [getB hl]
  exact ⟨fun i hi => (key i hi 0 (by omega)).1, fun i hi => (key i hi 1 (by omega)).1, fun i hi => (key i hi 0 (by omega)).2, fun i hi => (key i hi 1 (by omega)).2⟩

set_option maxHeartbeats 1000000 in
theorem sort_pfx {n₀ g cap : Nat} {xs : List Pk} {W : World} (hlen : xs.length ≤ 100000) (hown : W.ownsRow n₀ 32 2 (.slice (some ⟨g, 0, none⟩) xs.length cap) xs.length (xs.flatMap clP)) :
    Calls Try.prog 30 #[.slice (some ⟨g, 0, none⟩) xs.length cap, .func (.func 31) #[] #[]] W fun e w' => e = .returned (.tuple #[]) ∧ ∃ f : Nat → Pk, PR w' g f xs.length ∧ (∀ i j, i < j → j < xs.length → ¬ ltP (f j) (f i)) ∧ (∀ x, (∃ i, i < xs.length ∧ f i = x) ↔ x ∈ xs) ∧ W.grownBy w' (some g) := by
  rcases hown.2 with ⟨h0, -⟩ | ⟨g', cap', cur, h0, hg0, hb, h1, h2, h3, h4⟩
  · cases h0
  · cases h0
    have hH : HoldsK clP 2 W g 0 xs.toArray := holdsK_of_owns clP_length hb h4
    have hgl : g < W.heap.size := (Array.getElem?_eq_some_iff.1 hb).1
    refine (AnyQ.slices_SortFunc Try.sortP 2 Try.isAgg32 Try.sizeOf32 clP clP_length clP_one cfP swoP 31 #[] g 0 cap xs.toArray W enter_cmpP (cmpP_lays _ _ _ _) hH hgl (by simp; omega)).mono ?_
    rintro e w' ⟨rfl, d', n, os, hp, hs, rfl⟩
    have hsz : d'.size = xs.length := hp.1.trans (by simp)
    have hH' := holdsK_sortWorldK_c clP 2 W g 0 xs.toArray d' n os hH hgl hp.1
    have hP := PR.of_holds hH'
    rw [hsz] at hP
    have hpl : d'.toList.Perm xs := (perm_lists hp).trans (by simp)
    have hsl := sorted_pairs (lt := ltOf cfP) (d := d') (by rw [hp.1]; exact hs)
    refine ⟨rfl, _, hP, fun i j hij hj => ?_, fun x => ?_, grownBy_sortK _⟩
    · have := (List.pairwise_iff_getElem.1 hsl) i j (by simp; omega) (by simp; omega) hij
      rw [cfP_no] at this
      simpa [hsz, hj, show i < xs.length by omega] using this
    · rw [← hpl.mem_iff, List.mem_iff_getElem]
      constructor
      · rintro ⟨i, hi, rfl⟩
        exact ⟨i, by simp; omega, by simp [hsz, hi]⟩
      · rintro ⟨i, hi, rfl⟩
        have hi' : i < xs.length := by simp at hi; omega
        exact ⟨i, hi', by simp [hsz, hi']⟩
end Go.Proofs.Ytblhijgjidfioaa
