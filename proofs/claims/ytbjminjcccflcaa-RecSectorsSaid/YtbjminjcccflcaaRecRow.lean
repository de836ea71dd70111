/-
  A record that comes in: its numbers, and that they fit their kinds.
-/
import Derived.Test.YtbjminjcccflcaaRows
import Derived.Test.YtbjminjcccflcaaLaw
import Derived.Test.YtbjminjcccflcaaRecL
import Derived.Lib.SmallJoins
namespace Go.Proofs.Ytbjminjcccflcaa
open Go.ChangeShapes Go.WideShapes Go.ChangeAt Go.RowKit Go.Joins Rm

theorem row_own : ownKnob Try.prog.godebug = none := by kernel_rfl
theorem row_laidOut : laidOutB Try.prog = true := by kernel_rfl
theorem cells_rec : Try.prog.cellsOf 30 = 9 := by kernel_rfl
theorem cells_kind : Try.prog.cellsOf 22 = 1 := by kernel_rfl
theorem cells_u32 : Try.prog.cellsOf 23 = 1 := by kernel_rfl
theorem cells_pre : Try.prog.cellsOf 25 = 2 := by kernel_rfl
theorem cells_bool : Try.prog.cellsOf 4 = 1 := by kernel_rfl
theorem cells_dist : Try.prog.cellsOf 28 = 2 := by kernel_rfl
theorem cells_int : Try.prog.cellsOf 3 = 1 := by kernel_rfl
theorem cells_u16 : Try.prog.cellsOf 26 = 1 := by kernel_rfl

theorem wf_i64 {z : Int} (h : (Lit.int .i64 z).wf = true) : -9223372036854775808 ≤ z ∧ z ≤ 9223372036854775807 := by
  have h1 : IntKind.i64.min = -9223372036854775808 := rfl
  have h2 : IntKind.i64.max = 9223372036854775807 := rfl
  simp only [Lit.wf, Bool.and_eq_true, decide_eq_true_eq] at h
  omega
theorem wf_u16 {z : Int} (h : (Lit.int .u16 z).wf = true) : ∃ n : Nat, z = n ∧ n < 65536 := by
  have h1 : IntKind.u16.min = 0 := rfl
  have h2 : IntKind.u16.max = 65535 := rfl
  simp only [Lit.wf, Bool.and_eq_true, decide_eq_true_eq] at h
  exact ⟨z.toNat, by omega, by omega⟩
theorem wf_u32 {z : Int} (h : (Lit.int .u32 z).wf = true) : ∃ n : Nat, z = n ∧ n < 4294967296 := by
  have h1 : IntKind.u32.min = 0 := rfl
  have h2 : IntKind.u32.max = 4294967295 := rfl
  simp only [Lit.wf, Bool.and_eq_true, decide_eq_true_eq] at h
  exact ⟨z.toNat, by omega, by omega⟩
theorem list9 {α : Type} {l : List α} (h : l.length = 9) : ∃ a b c d e f g i j, l = [a, b, c, d, e, f, g, i, j] := by
  match l, h with
  | [a, b, c, d, e, f, g, i, j], _ => exact ⟨a, b, c, d, e, f, g, i, j, rfl⟩

section
variable {H : Type} {enc : TypeId × Value → H} {w : World} {base : Nat} {spare : Nat → Bool} {hld : Bool}
theorem trod_bool {fuel : Nat} {c : Value} {y : DataW H × List MemPlace} (h : DataW.trod enc Try.prog w base spare hld fuel 4 [c] = some y) : ∃ o : Bool, c = .bool o := by
  cases fuel with
  | zero => simp [DataW.trod] at h
  | succ fuel =>
    unfold DataW.trod at h
    rw [Try.underlying4] at h
    cases c with
    | bool o => exact ⟨o, rfl⟩
    | _ => simp at h
theorem trod_pre {fuel : Nat} {c c' : Value} {y : DataW H × List MemPlace} (h : DataW.trod enc Try.prog w base spare hld fuel 25 [c, c'] = some y) :
    ∃ a n : Int, c = .int .u32 a ∧ c' = .int .i64 n ∧ (Lit.int .u32 a).wf = true ∧ (Lit.int .i64 n).wf = true := by
  cases fuel with
  | zero => simp [DataW.trod] at h
  | succ fuel =>
    simp only [DataW.trod, Try.underlying25, cells_pre] at h
    simp [cells_u32, cells_int, Option.bind_eq_some_iff] at h
    obtain ⟨_, _, h0, _, ⟨_, _, h1, _⟩, _⟩ := h
    obtain ⟨n0, e0, -, w0⟩ := DataW.trod_int Try.underlying23 h0
    obtain ⟨n1, e1, -, w1⟩ := DataW.trod_int Try.underlying3 h1
    simp only [List.cons.injEq, and_true] at e0 e1
    exact ⟨n0, n1, e0, e1, w0, w1⟩
theorem trod_dist {fuel : Nat} {c c' : Value} {y : DataW H × List MemPlace} (h : DataW.trod enc Try.prog w base spare hld fuel 28 [c, c'] = some y) :
    ∃ s m : Int, c = .int .u32 s ∧ c' = .int .u16 m ∧ (Lit.int .u32 s).wf = true ∧ (Lit.int .u16 m).wf = true := by
  cases fuel with
  | zero => simp [DataW.trod] at h
  | succ fuel =>
    simp only [DataW.trod, Try.underlying28, cells_dist] at h
    simp [cells_u32, cells_u16, Option.bind_eq_some_iff] at h
    obtain ⟨_, _, h0, _, ⟨_, _, h1, _⟩, _⟩ := h
    obtain ⟨n0, e0, -, w0⟩ := DataW.trod_int Try.underlying23 h0
    obtain ⟨n1, e1, -, w1⟩ := DataW.trod_int Try.underlying26 h1
    simp only [List.cons.injEq, and_true] at e0 e1
    exact ⟨n0, n1, e0, e1, w0, w1⟩
theorem trod_rec {fuel : Nat} {cs : List Value} {y : DataW H × List MemPlace} (h : DataW.trod enc Try.prog w base spare hld fuel 30 cs = some y) :
    ∃ (k : Int) (g l i a : Nat) (n : Int) (o : Bool) (s m : Nat), cs = (rcells k g l i a n o s m).toList ∧ (⟨k, g, l, i, a, n, o, s, m⟩ : Rc).Fits := by
  cases fuel with
  | zero => simp [DataW.trod] at h
  | succ fuel =>
    simp only [DataW.trod, Try.underlying30, cells_rec] at h
    split at h
    case isFalse => cases h
    rename_i hlen
    obtain ⟨c0, c1, c2, c3, c4, c5, c6, c7, c8, rfl⟩ := list9 hlen
    simp [cells_kind, cells_u32, cells_pre, cells_bool, cells_dist, Option.bind_eq_some_iff] at h
    obtain ⟨_, _, h0, _, ⟨_, _, h1, _, ⟨_, _, h2, _, ⟨_, _, h3, _, ⟨_, _, h4, _, ⟨_, _, h6, _, ⟨_, _, h7, _⟩, _⟩, _⟩, _⟩, _⟩, _⟩, _⟩ := h
    obtain ⟨n0, e0, -, w0⟩ := DataW.trod_int Try.underlying22 h0
    obtain ⟨n1, e1, -, w1⟩ := DataW.trod_int Try.underlying23 h1
    obtain ⟨n2, e2, -, w2⟩ := DataW.trod_int Try.underlying23 h2
    obtain ⟨n3, e3, -, w3⟩ := DataW.trod_int Try.underlying23 h3
    obtain ⟨n4, n5, e4, e5, w4, w5⟩ := trod_pre h4
    obtain ⟨o, e6⟩ := trod_bool h6
    obtain ⟨n7, n8, e7, e8, w7, w8⟩ := trod_dist h7
    simp only [List.cons.injEq, and_true] at e0 e1 e2 e3
    subst e0 e1 e2 e3 e4 e5 e6 e7 e8
    obtain ⟨g, rfl, hg⟩ := wf_u32 w1
    obtain ⟨l, rfl, hl⟩ := wf_u32 w2
    obtain ⟨i, rfl, hi⟩ := wf_u32 w3
    obtain ⟨a, rfl, ha⟩ := wf_u32 w4
    obtain ⟨s, rfl, hs⟩ := wf_u32 w7
    obtain ⟨m, rfl, hm⟩ := wf_u16 w8
    exact ⟨n0, g, l, i, a, n5, o, s, m, rfl, ⟨(wf_i64 w0).1, (wf_i64 w0).2, hg, hl, hi, ha, (wf_i64 w5).1, (wf_i64 w5).2, hs, hm⟩⟩
theorem open_rec {b0 : Nat} {v : Value} {d : DataW H} {p : List MemPlace} (hv : Value.okWide Try.prog w .any b0 30 v) (h : DataW.Trod enc Try.prog w base spare hld 30 v d p) :
    ∃ (k : Int) (g l i a : Nat) (n : Int) (o : Bool) (s m : Nat), v = .agg (rcells k g l i a n o s m) ∧ (⟨k, g, l, i, a, n, o, s, m⟩ : Rc).Fits := by
  obtain ⟨cs, rfl, hsz⟩ := okWide_struct Try.underlying30 hv
  obtain ⟨fuel, hf⟩ := h
  obtain ⟨k, g, l, i, a, n, o, s, m, e, hfit⟩ := trod_rec hf
  refine ⟨k, g, l, i, a, n, o, s, m, ?_, hfit⟩
  have e2 : cs.toList = (rcells k g l i a n o s m).toList := by simpa [Value.cells] using e
  rw [Array.toList_inj.1 e2]
end
end Go.Proofs.Ytbjminjcccflcaa
