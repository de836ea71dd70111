/-
  What the four rows over package tell share: the library's table out of the row's list; an entry that comes in.
-/
import Derived.Test.YtkchckeecfalhaaGreatDoorCards
import Derived.Test.YtkchckeecfalhaaGreatDoorTie
import Derived.Test.YtkchckeecfalhaaGreatDoorLaw
import Derived.Test.YtkchckeecfalhaaGreatDoorTeF
import Derived.Deep.Slices
import Derived.Deep.Fields
import Derived.ChangeSame
import Derived.Lib.SmallJoins
import Derived.LaidMore
import Derived.Deep.DeepHandedRow
import Derived.Lib.LaidTab
namespace Go.Proofs.YtkchckeecfalhaaGreatDoor
open Go.ChangeShapes Go.WideShapes Go.ChangeAt Go.RowKit Go.Joins Go.Deep
set_option maxRecDepth 100000

theorem row_own : ownKnob Tryz.prog.godebug = none := by kernel_rfl
theorem row_laidOut : laidOutB Tryz.prog = true := by kernel_rfl
theorem g_pow : Tryz.prog.globalNamed "internal/strconv.uint64pow10" = some 0 := by kernel_rfl
theorem t_pow : (Tryz.prog.globals[0]?).map (·.type) = some 159 := by kernel_rfl
theorem c_arr : Tryz.prog.cellsOf 159 = 20 := by kernel_rfl
theorem c_u64 : Tryz.prog.cellsOf 119 = 1 := by kernel_rfl

/-- the row's list gives the table -/
theorem tab_of {W : World} (h : laidMetH Tryz.prog Rows.tellEntriesRow.laid W) : Tab W := by
  have h' : laidMet Tryz.prog Rows.tellEntriesRow.laid W := h
  obtain ⟨ps, ⟨_, _, _, _, _, _, _, _, _, _, ⟨_, _, _, _, _, _, _, _, _, _, ⟨g, t, cs, fuel, p, q, hg, ht, hv, hd, _, _⟩, _⟩, _⟩, _⟩ := h'
  obtain rfl := Option.some.inj (g_pow.symm.trans hg)
  obtain rfl := Option.some.inj (t_pow.symm.trans ht)
  unfold Tab Lib.TabIs
  rw [hv, ← Lib.cells_of_tab (zs := Lib.pow10Tab) Tryz.underlying159 Tryz.underlying119 c_u64 c_arr hd]

theorem cells_ent : Tryz.prog.cellsOf 27 = 4 := by kernel_rfl
theorem cells_pre : Tryz.prog.cellsOf 24 = 2 := by kernel_rfl
theorem cells_how : Tryz.prog.cellsOf 25 = 1 := by kernel_rfl
theorem cells_int : Tryz.prog.cellsOf 3 = 1 := by kernel_rfl
theorem cells_u32 : Tryz.prog.cellsOf 22 = 1 := by kernel_rfl
theorem row_i64 {z : Int} (h : (Lit.int .i64 z).wf = true) : -9223372036854775808 ≤ z ∧ z ≤ 9223372036854775807 := by
  have h1 : IntKind.i64.min = -9223372036854775808 := rfl
  have h2 : IntKind.i64.max = 9223372036854775807 := rfl
  simp only [Lit.wf, Bool.and_eq_true, decide_eq_true_eq] at h
  omega
theorem row_u32 {z : Int} (h : (Lit.int .u32 z).wf = true) : ∃ n : Nat, z = n ∧ n < 4294967296 := by
  have h1 : IntKind.u32.min = 0 := rfl
  have h2 : IntKind.u32.max = 4294967295 := rfl
  simp only [Lit.wf, Bool.and_eq_true, decide_eq_true_eq] at h
  exact ⟨z.toNat, by omega, by omega⟩
theorem list4 {α : Type} {l : List α} (h : l.length = 4) : ∃ a b c d, l = [a, b, c, d] := by
  match l, h with
  | [a, b, c, d], _ => exact ⟨a, b, c, d, rfl⟩

section
variable {H : Type} {enc : TypeId × Value → H} {w : World} {base : Nat} {spare : Nat → Bool} {hld : Bool}
theorem trod_pre {fuel : Nat} {c c' : Value} {y : DataW H × List MemPlace} (h : DataW.trod enc Tryz.prog w base spare hld fuel 24 [c, c'] = some y) :
    ∃ a n : Int, c = .int .u32 a ∧ c' = .int .i64 n ∧ (Lit.int .u32 a).wf = true ∧ (Lit.int .i64 n).wf = true := by
  cases fuel with
  | zero => simp [DataW.trod] at h
  | succ fuel =>
    simp only [DataW.trod, Tryz.underlying24, cells_pre] at h
    simp [cells_u32, cells_int, Option.bind_eq_some_iff] at h
    obtain ⟨_, _, h0, _, ⟨_, _, h1, _⟩, _⟩ := h
    obtain ⟨n0, e0, -, w0⟩ := DataW.trod_int Tryz.underlying22 h0
    obtain ⟨n1, e1, -, w1⟩ := DataW.trod_int Tryz.underlying3 h1
    simp only [List.cons.injEq, and_true] at e0 e1
    exact ⟨n0, n1, e0, e1, w0, w1⟩
theorem trod_ent {fuel : Nat} {cs : List Value} {y : DataW H × List MemPlace} (h : DataW.trod enc Tryz.prog w base spare hld fuel 27 cs = some y) :
    ∃ (a : Nat) (n how nx : Int), cs = [.int .u32 a, .int .i64 n, .int .i64 how, .int .i64 nx] ∧ a < 4294967296 ∧ -9223372036854775808 ≤ nx ∧ nx ≤ 9223372036854775807 := by
  cases fuel with
  | zero => simp [DataW.trod] at h
  | succ fuel =>
    simp only [DataW.trod, Tryz.underlying27, cells_ent] at h
    split at h
    case isFalse => cases h
    rename_i hlen
    obtain ⟨c0, c1, c2, c3, rfl⟩ := list4 hlen
    simp [cells_pre, cells_how, cells_int, Option.bind_eq_some_iff] at h
    obtain ⟨_, _, h0, _, ⟨_, _, h1, _, ⟨_, _, h2, _⟩, _⟩, _⟩ := h
    obtain ⟨n0, n1, e0, e1, w0, w1⟩ := trod_pre h0
    obtain ⟨n2, e2, -, w2⟩ := DataW.trod_int Tryz.underlying25 h1
    obtain ⟨n3, e3, -, w3⟩ := DataW.trod_int Tryz.underlying3 h2
    simp only [List.cons.injEq, and_true] at e2 e3
    subst e0 e1 e2 e3
    obtain ⟨a, rfl, ha⟩ := row_u32 w0
    exact ⟨a, n1, n2, n3, rfl, ha, (row_i64 w3).1, (row_i64 w3).2⟩
theorem open_ent {b0 : Nat} {v : Value} {d : DataW H} {p : List MemPlace} (hv : Value.okWide Tryz.prog w .any b0 27 v) (h : DataW.Trod enc Tryz.prog w base spare hld 27 v d p) :
    ∃ (a : Nat) (n how nx : Int), v = .agg #[.int .u32 a, .int .i64 n, .int .i64 how, .int .i64 nx] ∧ a < 4294967296 ∧ -9223372036854775808 ≤ nx ∧ nx ≤ 9223372036854775807 := by
  obtain ⟨cs, rfl, hsz⟩ := okWide_struct Tryz.underlying27 hv
  obtain ⟨fuel, hf⟩ := h
  obtain ⟨a, n, how, nx, e, hfit⟩ := trod_ent hf
  refine ⟨a, n, how, nx, ?_, hfit⟩
  have e2 : cs.toList = (#[.int .u32 a, .int .i64 n, .int .i64 how, .int .i64 nx] : Array Value).toList := by simpa [Value.cells] using e
  rw [Array.toList_inj.1 e2]
end
end Go.Proofs.YtkchckeecfalhaaGreatDoor
