/-
  ScriptReads: bytes that begin with a net.
-/
import Derived.Test.YtnpocnfmekgieaaScRn
namespace Go.Proofs.Ytnpocnfmekgieaa
open Go.RowKit Go.Maps Sc
attribute [local go_sem] Oper.semAt_some

/-- the statement's own number of three bytes -/
theorem num_any {w : World} {rb g off m c o : Nat} {D : List Nat} (hb : Blk 32 w rb #[.slice (some ⟨g, off, none⟩) m c]) (hS : Sl w (some ⟨g, off, none⟩) m c D) (ho : o + 3 ≤ m) (ho2 : o ≤ 20) {z : Int} (hz : z = o) :
    Calls Try.prog 15 #[.int .i64 z, .pointer (some ⟨rb, 0, none⟩)] w fun x w' => x = .returned (.int .i64 (val ((D.drop o).take 3) : Nat)) ∧ Below w.heap.size w w' := by
  subst hz
  have hv : (D.drop o).take 3 = [D.getD o 0, D.getD (o + 1) 0, D.getD (o + 2) 0] := by
    have hl := hS.bytes.1
    apply List.ext_getElem
    · simp; omega
    · intro k h1 h2
      have hk : k = 0 ∨ k = 1 ∨ k = 2 := by simp at h2; omega
      rcases hk with rfl | rfl | rfl <;> simp [List.getD, show o < D.length by omega, show o + 1 < D.length by omega, show o + 2 < D.length by omega]
  have E := Lib.hid (show ((val ((D.drop o).take 3) : Nat) : Int) = 65536 * (D.getD o 0 : Nat) + 256 * (D.getD (o + 1) 0 : Nat) + (D.getD (o + 2) 0 : Nat) by rw [hv]; simp [val, List.foldl]; omega)
  have x0 := hS.bytes.lt o
  have x1 := hS.bytes.lt (o + 1)
  have x2 := hS.bytes.lt (o + 2)
  have c0 : w.cell? ⟨rb, 0, none⟩ = some (.slice (some ⟨g, off, none⟩) m c) := hb.at_ 0
  have d0 : w.cell? ⟨g, off + o, none⟩ = some (.int .u8 (D.getD o 0 : Nat)) := hS.at_ (k := o) (by omega)
  have d1 : w.cell? ⟨g, off + (o + 1), none⟩ = some (.int .u8 (D.getD (o + 1) 0 : Nat)) := hS.at_ (k := o + 1) (by omega)
  have d2 : w.cell? ⟨g, off + (o + 2), none⟩ = some (.int .u8 (D.getD (o + 2) 0 : Nat)) := hS.at_ (k := o + 2) (by omega)
  generalize D.getD o 0 = y0 at *
  generalize D.getD (o + 1) 0 = y1 at *
  generalize D.getD (o + 2) 0 = y2 at *
  have i0 : (o : Int) < (m : Int) := by omega
  have i1 : (o : Int) + 1 < (m : Int) := by omega
  have i2 : (o : Int) + 2 < (m : Int) := by omega
  have j0 : (0 : Int) ≤ (o : Int) := by omega
  have n1 : ((o : Int) + 1).toNat = o + 1 := by omega
  have n2 : ((o : Int) + 2).toNat = o + 2 := by omega
  have k0 := fun d os => cell_regrown c0 d os
  have k1 := fun d os => cell_regrown d0 d os
  have k2 := fun d os => cell_regrown d1 d os
  have k3 := fun d os => cell_regrown d2 d os
  clear hb hS hv c0 d0 d1 d2
  go_enter Try.func15, Try.ntmps15
  go_upto_region 1 with fail
  refine wp_region_quiet_below (by kernel_rfl) (by kernel_rfl) ?_
  repeat (go_big_quiet_step (fail))
  refine wpQuiet_nil ?_
  intro _ hw'
  obtain ⟨⟨dq, osq⟩, hw''⟩ := hw'
  subst hw''
  clear k0 k1 k2 k3
  go_wp2_with fail
  go_ret
  exact ⟨ret_int E.out.symm, below_regrown _ _ _⟩
end Go.Proofs.Ytnpocnfmekgieaa
