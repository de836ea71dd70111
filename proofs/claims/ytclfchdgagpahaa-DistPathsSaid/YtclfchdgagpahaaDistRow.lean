/-
  A distance that comes in: its two numbers, and that they fit their kinds.
-/
import Derived.Test.YtclfchdgagpahaaRows
import Derived.Test.YtclfchdgagpahaaLaw
import Derived.Test.YtclfchdgagpahaaDistH
import Derived.Lib.SmallJoins
namespace Go.Proofs.Ytclfchdgagpahaa
open Go.ChangeShapes Go.WideShapes Go.ChangeAt Go.RowKit Go.Joins

theorem row_own : ownKnob Try.prog.godebug = none := by kernel_rfl
theorem row_laidOut : laidOutB Try.prog = true := by kernel_rfl
theorem dist_cells : Try.prog.cellsOf 29 = 2 := by kernel_rfl

theorem wf_u16 {z : Int} (h : (Lit.int .u16 z).wf = true) : 0 ≤ z ∧ z ≤ 65535 := by
  have h1 : IntKind.u16.min = 0 := rfl
  have h2 : IntKind.u16.max = 65535 := rfl
  simp only [Lit.wf, Bool.and_eq_true, decide_eq_true_eq] at h
  omega
theorem wf_u32 {z : Int} (h : (Lit.int .u32 z).wf = true) : 0 ≤ z ∧ z ≤ 4294967295 := by
  have h1 : IntKind.u32.min = 0 := rfl
  have h2 : IntKind.u32.max = 4294967295 := rfl
  simp only [Lit.wf, Bool.and_eq_true, decide_eq_true_eq] at h
  omega

section
variable {H : Type} {enc : TypeId × Value → H} {w : World} {base : Nat} {spare : Nat → Bool} {hld : Bool}
theorem open_dist {b0 : Nat} {v : Value} {d : DataW H} {p : List MemPlace} (hv : Value.okWide Try.prog w .any b0 29 v) (h : DataW.Trod enc Try.prog w base spare hld 29 v d p) :
    ∃ s m : Int, v = .agg #[.int .u32 s, .int .u16 m] ∧ 0 ≤ m ∧ m ≤ 65535 ∧ 0 ≤ s ∧ s ≤ 4294967295 := by
  obtain ⟨v0, v1, y0, y1, n, rfl, -, -, h0, h1⟩ := open_agg2 Try.underlying29 (by kernel_rfl) dist_cells hv h
  obtain ⟨s, e0, -, w0⟩ := DataW.trod_int Try.underlying24 h0
  obtain ⟨m, e1, -, w1⟩ := DataW.trod_int Try.underlying27 h1
  simp only [List.cons.injEq, and_true] at e0 e1
  subst e0 e1
  exact ⟨s, m, rfl, (wf_u16 w1).1, (wf_u16 w1).2, (wf_u32 w0).1, (wf_u32 w0).2⟩
end
end Go.Proofs.Ytclfchdgagpahaa
