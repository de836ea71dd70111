/-
  FibSorts: whatever entries (more than sixty are let pass) and address: Sorted answers the same entries by their prefixes, those of one prefix in the order in which they came, and Lookup among them the entry that the statement finds among those that came in; what comes in reads as it did. No other condition.
-/
import Derived.Test.YtblhijgjidfioaaFibRow
import Derived.Test.YtblhijgjidfioaaFsW
namespace Go.Proofs.Ytblhijgjidfioaa
open Go.ChangeShapes Go.WideShapes Go.ChangeAt Go.RowKit Go.Joins Go.Deep Fm

theorem ents_nil {H : Type} {enc : TypeId × Value → H} {w : World} {base : Nat} {hld : Bool} {fuel : Nat} {A : Option Addr} {len cap : Nat} {x : DataW H × List MemPlace} (h : DataW.trod enc Try.prog w base (fun _ => true) hld fuel 63 (Value.slice A len cap).cells.toList = some x) : A = none → cap = 0 := by
  rcases open_slice Try.underlying63 h with ⟨hcs, -⟩ | ⟨a, len', cap', m, n, D, Pl, hcs, _, hl, hm, hmm, -, hi⟩
  · simp [Value.cells] at hcs
    exact fun _ => hcs.2.2
  · simp [Value.cells] at hcs
    obtain ⟨rfl, -, -⟩ := hcs
    exact fun e => by cases e
set_option maxRecDepth 100000 in
theorem fibSorts_lifted (os : Os) (started : os.Started) (H : Type) (enc : TypeId × Value → H) :
    ReturnsInHanded {} Try.checked os 6 .any (Rows.fibSortsSpec.pre6 enc Try.prog Try.f6 Rows.fibSortsRow.domain false) (Rows.fibSortsSpec.post enc Try.prog Try.f6 false true false false) := by
  refine returnsInHanded_of_change (C := Try.checked) row_own started (by kernel_rfl) Try.func6
    (ChangeSpec.witness6 (enc := enc) (C := Try.checked) false ⟨#[], #[.slice none 0 0, .int .u32 0], []⟩ 8 (by kernel_rfl) (by kernel_rfl) (by kernel_rfl) (by kernel_rfl)) ?_
  intro W base args ds gs before hval0 hW hcnd _
  have hval : ∀ (j : Nat) t v, Try.f6.params[j]? = some t → args[j]? = some v → Value.okWide Try.prog W .any base t v := hval0
  obtain ⟨p, q, hA0, hV, rfl, hfz, hnd⟩ := id hW
  have hA : DataW.TrodAll enc Try.prog W 0 (fun _ => true) true Try.f6.params.toList args.toList ds p := hA0
  rw [Try.params6] at hA hval
  obtain ⟨v0, vs0, d0, ds0, p0, q0, hargs, rfl, rfl, h0, r0⟩ := trodAll_cons hA
  obtain ⟨v1, vs1, d1, ds1, p1, q1, rfl, rfl, rfl, h1, r1⟩ := trodAll_cons r0
  obtain ⟨rfl, rfl, rfl⟩ := trodAll_nil r1
  obtain rfl : args = #[v0, v1] := by cases args; simp_all
  obtain ⟨a0, len0, cap0, rfl⟩ := okWide_slice Try.underlying63 (hval 0 63 v0 rfl rfl)
  obtain ⟨z, rfl, -, -, wz⟩ := open_int Try.underlying24 (hval 1 24 v1 rfl rfl) h1
  obtain ⟨x, rfl, hx⟩ := row_u32 wz
  obtain ⟨fuel, hf⟩ := h0
  obtain ⟨hle, hmx, hA1, es, hl, hF, hR⟩ := open_ents hf
  refine (fibSorts_walk a0 len0 cap0 es x hx W ⟨hl, hmx, hle, hA1, hF, hR⟩ (ents_nil hf)).mono fun e W' ⟨he, hb⟩ => ?_
  subst he
  exact ⟨_, rfl, law_post row_laidOut (by rw [Try.params6]; decide +kernel) rfl Try.underlying4 rfl rfl hW hb⟩

theorem fibSorts_holds : Rows.FibSortsSaid :=
  OpenClaim.holds_of_wide 6 Try.f6 rfl rfl rfl rfl rfl rfl rfl ⟨rfl, rfl, rfl, rfl, rfl⟩ rfl rfl rfl rfl rfl (by kernel_rfl) Try.func6 (by kernel_rfl)
    (of_decide_eq_true (by kernel_rfl)) (by unfold Func.isWrapper; first | (rw [if_pos (by decide +kernel)]; kernel_rfl) | (rw [if_neg (by decide +kernel)]; exact ⟨rfl, rfl⟩))
    (fun os started H enc _ => fibSorts_lifted os started H enc)
#print axioms fibSorts_holds
end Go.Proofs.Ytblhijgjidfioaa
