/-
  RecSectors: whatever record: whether it can be written is as the page says; if it can, its sector is just the page's bytes, and read back it is the same record; if it can't, it has no sector; the record reads as it did. No condition.
-/
import Derived.Test.YtbjminjcccflcaaRecRow
namespace Go.Proofs.Ytbjminjcccflcaa
open Go.ChangeShapes Go.WideShapes Go.ChangeAt Go.RowKit Go.Joins Rm

theorem sectors_any (k : Int) (g l i a : Nat) (n : Int) (o : Bool) (s m : Nat) (hf : (⟨k, g, l, i, a, n, o, s, m⟩ : Rc).Fits) (w : World) :
    Calls Try.prog 3 #[.agg (rcells k g l i a n o s m)] w fun e w' => e = .returned (.bool true) ∧ Below w.heap.size w w' := by
  cases hr : right ⟨k, g, l, i, a, n, o, s, m⟩
  · exact sectors_no k g l i a n o s m hf.a hr w
  · exact sectors_yes k g l i a n o s m hf hr w

set_option maxRecDepth 100000 in
theorem sectors_lifted (os : Os) (started : os.Started) (H : Type) (enc : TypeId × Value → H) :
    ReturnsInHanded {} Try.checked os 3 .any (Rows.recSectorsSpec.pre6 enc Try.prog Try.f3 Rows.recSectorsRow.domain false) (Rows.recSectorsSpec.post enc Try.prog Try.f3 false true false false) := by
  refine returnsInHanded_of_change (C := Try.checked) row_own started (by kernel_rfl) Try.func3
    (ChangeSpec.witness6 (enc := enc) (C := Try.checked) false ⟨#[], #[.agg #[.int .i64 0, .int .u32 0, .int .u32 0, .int .u32 0, .int .u32 0, .int .i64 0, .bool false, .int .u32 0, .int .u16 0]], []⟩ 8 (by kernel_rfl) (by kernel_rfl) (by kernel_rfl) (by kernel_rfl)) ?_
  intro W base args ds gs before hval0 hW hcnd _
  have hval : ∀ (j : Nat) t v, Try.f3.params[j]? = some t → args[j]? = some v → Value.okWide Try.prog W .any base t v := hval0
  obtain ⟨p, q, hA0, hV, rfl, hfz, hnd⟩ := id hW
  have hA : DataW.TrodAll enc Try.prog W 0 (fun _ => true) true Try.f3.params.toList args.toList ds p := hA0
  rw [Try.params3] at hA hval
  obtain ⟨v0, d0, hargs, rfl, h0⟩ := trodAll_one hA
  obtain rfl : args = #[v0] := by cases args; simp_all
  obtain ⟨k, g, l, i, a, n, o, s, m, rfl, hf⟩ := open_rec (hval 0 30 v0 rfl rfl) h0
  refine (sectors_any k g l i a n o s m hf W).mono fun e W' ⟨he, hb⟩ => ?_
  subst he
  exact ⟨_, rfl, law_post row_laidOut (by rw [Try.params3]; decide +kernel) rfl Try.underlying4 rfl rfl hW hb⟩

theorem recSectors_holds : Rows.RecSectorsSaid :=
  OpenClaim.holds_of_wide 3 Try.f3 rfl rfl rfl rfl rfl rfl rfl ⟨rfl, rfl, rfl, rfl, rfl⟩ rfl rfl rfl rfl rfl (by kernel_rfl) Try.func3 (by kernel_rfl)
    (of_decide_eq_true (by kernel_rfl)) (by unfold Func.isWrapper; first | (rw [if_pos (by decide +kernel)]; kernel_rfl) | (rw [if_neg (by decide +kernel)]; exact ⟨rfl, rfl⟩))
    (fun os started H enc _ => sectors_lifted os started H enc)
#print axioms recSectors_holds
end Go.Proofs.Ytbjminjcccflcaa
