/-
  What the four rows over package addr share: the library's table out of the row's list, a world for the witness, a prefix that comes in.
-/
import Derived.Test.YtclfchdgagpahaaDoorCards
import Derived.Test.YtclfchdgagpahaaDoorTie
import Derived.Test.YtclfchdgagpahaaDoorLaw
import Derived.Test.YtclfchdgagpahaaDoorAddrHd
import Derived.Lib.SmallJoins
import Derived.LaidMore
import Derived.Deep.DeepHandedRow
import Derived.Lib.LaidTab
namespace Go.Proofs.YtclfchdgagpahaaDoor
open Go.ChangeShapes Go.WideShapes Go.ChangeAt Go.RowKit Go.Joins

theorem row_own : ownKnob Tryd.prog.godebug = none := by kernel_rfl
theorem row_laidOut : laidOutB Tryd.prog = true := by kernel_rfl
theorem pre_cells : Tryd.prog.cellsOf 24 = 2 := by kernel_rfl

theorem g_pow : Tryd.prog.globalNamed "internal/strconv.uint64pow10" = some 0 := by kernel_rfl
theorem t_pow : (Tryd.prog.globals[0]?).map (·.type) = some 59 := by kernel_rfl
theorem c_arr : Tryd.prog.cellsOf 59 = 20 := by kernel_rfl
theorem c_u64 : Tryd.prog.cellsOf 50 = 1 := by kernel_rfl

/-- the row's list gives the table -/
theorem tab_of {W : World} (h : laidMetH Tryd.prog Rows.addrHasRow.laid W) : Tab W := by
  have h' : laidMet Tryd.prog Rows.addrHasRow.laid W := h
  obtain ⟨ps, ⟨_, _, _, _, _, _, _, _, _, _, ⟨_, _, _, _, _, _, _, _, _, _, ⟨g, t, cs, fuel, p, q, hg, ht, hv, hd, _, _⟩, _⟩, _⟩, _⟩ := h'
  obtain rfl := Option.some.inj (g_pow.symm.trans hg)
  obtain rfl := Option.some.inj (t_pow.symm.trans ht)
  unfold Tab Lib.TabIs
  rw [hv, ← Lib.cells_of_tab (zs := Lib.pow10Tab) Tryd.underlying59 Tryd.underlying50 c_u64 c_arr hd]

theorem wf_u32 {z : Int} (h : (Lit.int .u32 z).wf = true) : ∃ n : Nat, z = n ∧ n < 4294967296 := by
  have h1 : IntKind.u32.min = 0 := rfl
  have h2 : IntKind.u32.max = 4294967295 := rfl
  simp only [Lit.wf, Bool.and_eq_true, decide_eq_true_eq] at h
  exact ⟨z.toNat, by omega, by omega⟩

section
variable {H : Type} {enc : TypeId × Value → H} {w : World} {base : Nat} {spare : Nat → Bool} {hld : Bool}
theorem open_prefix {b0 : Nat} {v : Value} {d : DataW H} {p : List MemPlace} (hv : Value.okWide Tryd.prog w .any b0 24 v) (h : DataW.Trod enc Tryd.prog w base spare hld 24 v d p) :
    ∃ (a : Nat) (len : Int), v = .agg #[.int .u32 a, .int .i64 len] ∧ a < 4294967296 := by
  obtain ⟨v0, v1, y0, y1, n, rfl, -, -, h0, h1⟩ := open_agg2 Tryd.underlying24 (by kernel_rfl) pre_cells hv h
  obtain ⟨s, e0, -, w0⟩ := DataW.trod_int Tryd.underlying22 h0
  obtain ⟨m, e1, -, w1⟩ := DataW.trod_int Tryd.underlying3 h1
  simp only [List.cons.injEq, and_true] at e0 e1
  subst e0 e1
  obtain ⟨a, rfl, ha⟩ := wf_u32 w0
  exact ⟨a, m, rfl, ha⟩
end
end Go.Proofs.YtclfchdgagpahaaDoor
