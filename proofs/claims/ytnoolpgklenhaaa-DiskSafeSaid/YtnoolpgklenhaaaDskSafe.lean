/-
  DiskSafe: whatever bytes are written and synced, whatever is written behind that, and whatever picks a crash has: what was synced reads as it was written; the arguments read as they did. No condition.
-/
import Derived.Test.YtnoolpgklenhaaaDskRow
import Derived.Test.YtnoolpgklenhaaaDskSfW
namespace Go.Proofs.Ytnoolpgklenhaaa
open Go.ChangeShapes Go.WideShapes Go.ChangeAt Go.RowKit Go.Joins

set_option maxRecDepth 100000 in
theorem diskSafe_lifted (os : Os) (started : os.Started) (H : Type) (enc : TypeId × Value → H) :
    ReturnsInHanded {} Try.checked os 4 .any (Rows.diskSafeSpec.pre6 enc Try.prog Try.f4 Rows.diskSafeRow.domain false) (Rows.diskSafeSpec.post enc Try.prog Try.f4 false true false false) := by
  refine returnsInHanded_of_change (C := Try.checked) row_own started (by kernel_rfl) Try.func4
    (ChangeSpec.witness6 (enc := enc) (C := Try.checked) false ⟨#[], #[.slice none 0 0, .slice none 0 0, .slice none 0 0], []⟩ 8 (by kernel_rfl) (by kernel_rfl) (by kernel_rfl) (by kernel_rfl)) ?_
  intro W base args ds gs before hval0 hW hcnd _
  have hval : ∀ (j : Nat) t v, Try.f4.params[j]? = some t → args[j]? = some v → Value.okWide Try.prog W .any base t v := hval0
  obtain ⟨p, q, hA0, hV, rfl, hfz, hnd⟩ := id hW
  have hA : DataW.TrodAll enc Try.prog W 0 (fun _ => true) true Try.f4.params.toList args.toList ds p := hA0
  rw [Try.params4] at hA hval
  obtain ⟨v0, vs0, d0, ds0, p0, q0, hargs, rfl, rfl, h0, r0⟩ := trodAll_cons hA
  obtain ⟨v1, vs1, d1, ds1, p1, q1, rfl, rfl, rfl, h1, r1⟩ := trodAll_cons r0
  obtain ⟨v2, vs2, d2, ds2, p2, q2, rfl, rfl, rfl, h2, r2⟩ := trodAll_cons r1
  obtain ⟨rfl, rfl, rfl⟩ := trodAll_nil r2
  obtain rfl : args = #[v0, v1, v2] := by cases args; simp_all
  obtain ⟨a0, len0, cap0, rfl⟩ := okWide_slice Try.underlying28 (hval 0 28 v0 rfl rfl)
  obtain ⟨a1, len1, cap1, rfl⟩ := okWide_slice Try.underlying28 (hval 1 28 v1 rfl rfl)
  obtain ⟨a2, len2, cap2, rfl⟩ := okWide_slice Try.underlying31 (hval 2 31 v2 rfl rfl)
  obtain ⟨fuel0, hf0⟩ := h0
  obtain ⟨fuel1, hf1⟩ := h1
  obtain ⟨fuel2, hf2⟩ := h2
  obtain ⟨m0, xs, rfl, hxs⟩ := open_bytes hf0
  obtain ⟨m1, ys, rfl, hys⟩ := open_bytes hf1
  obtain ⟨l2, m2, ps, rfl, hps⟩ := open_picks hf2
  have fin : ∀ W' : World, Below W.heap.size W W' → Rows.diskSafeSpec.post enc Try.prog Try.f4 false true false false W #[.slice a0 xs.length cap0, .slice a1 ys.length cap1, .slice a2 ps.length cap2] (.bool true) W' := fun W' hb =>
    law_post row_laidOut (by rw [Try.params4]; decide +kernel) rfl Try.underlying4 rfl rfl hW hb
  by_cases hbig : 20 < xs.length ∨ 20 < ys.length
  · exact (safe_big hbig m0 m1).mono fun e W' ⟨he, hb⟩ => by subst he; exact ⟨_, rfl, fin W' hb⟩
  · refine (safe_any (by omega) (by omega) ⟨hxs, hys, hps, fun ad e h => ?_⟩ l2 m2).mono fun e W' ⟨he, hb⟩ => by subst he; exact ⟨_, rfl, fin W' hb⟩
    obtain ⟨p, hp⟩ : ∃ p, ps[0]? = some p := ⟨_, List.getElem?_eq_getElem h⟩
    obtain ⟨_, ad', e', c0, _, _⟩ := hps 0 p hp
    rw [e] at e'
    cases e'
    have := cell_lt c0
    rwa [add_block] at this

theorem diskSafe_holds : Rows.DiskSafeSaid :=
  OpenClaim.holds_of_wide 4 Try.f4 rfl rfl rfl rfl rfl rfl rfl ⟨rfl, rfl, rfl, rfl, rfl⟩ rfl rfl rfl rfl rfl (by kernel_rfl) Try.func4 (by kernel_rfl)
    (of_decide_eq_true (by kernel_rfl)) (by unfold Func.isWrapper; first | (rw [if_pos (by decide +kernel)]; kernel_rfl) | (rw [if_neg (by decide +kernel)]; exact ⟨rfl, rfl⟩))
    (fun os started H enc _ => diskSafe_lifted os started H enc)
#print axioms diskSafe_holds
end Go.Proofs.Ytnoolpgklenhaaa
