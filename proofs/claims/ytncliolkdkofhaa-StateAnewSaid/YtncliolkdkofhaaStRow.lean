/-
  What comes in: a list of records, a key, a distance.
-/
import Derived.Test.YtncliolkdkofhaaRows
import Derived.Test.YtncliolkdkofhaaLaw
import Derived.Test.YtncliolkdkofhaaStO
import Derived.Deep.Slices
import Derived.Deep.Fields
import Derived.ChangeSame
import Derived.Lib.SmallJoins
namespace Go.Proofs.Ytncliolkdkofhaa
open Go.ChangeShapes Go.WideShapes Go.ChangeAt Go.RowKit Go.Joins Go.Deep Rm
set_option maxRecDepth 100000

theorem row_own : ownKnob Try.prog.godebug = none := by kernel_rfl
theorem row_laidOut : laidOutB Try.prog = true := by kernel_rfl
theorem cells_rec : Try.prog.cellsOf 37 = 9 := by kernel_rfl
theorem cells_kind : Try.prog.cellsOf 30 = 1 := by kernel_rfl
theorem cells_bool : Try.prog.cellsOf 4 = 1 := by kernel_rfl
theorem cells_dist : Try.prog.cellsOf 35 = 2 := by kernel_rfl
theorem cells_u16 : Try.prog.cellsOf 33 = 1 := by kernel_rfl
theorem row_i64 {z : Int} (h : (Lit.int .i64 z).wf = true) : -9223372036854775808 ≤ z ∧ z ≤ 9223372036854775807 := by
  have h1 : IntKind.i64.min = -9223372036854775808 := rfl
  have h2 : IntKind.i64.max = 9223372036854775807 := rfl
  simp only [Lit.wf, Bool.and_eq_true, decide_eq_true_eq] at h
  omega
theorem row_u16 {z : Int} (h : (Lit.int .u16 z).wf = true) : ∃ n : Nat, z = n ∧ n < 65536 := by
  have h1 : IntKind.u16.min = 0 := rfl
  have h2 : IntKind.u16.max = 65535 := rfl
  simp only [Lit.wf, Bool.and_eq_true, decide_eq_true_eq] at h
  exact ⟨z.toNat, by omega, by omega⟩
theorem row_u32 {z : Int} (h : (Lit.int .u32 z).wf = true) : ∃ n : Nat, z = n ∧ n < 4294967296 := by
  have h1 : IntKind.u32.min = 0 := rfl
  have h2 : IntKind.u32.max = 4294967295 := rfl
  simp only [Lit.wf, Bool.and_eq_true, decide_eq_true_eq] at h
  exact ⟨z.toNat, by omega, by omega⟩
theorem list9 {α : Type} {l : List α} (h : l.length = 9) : ∃ a b c d e f g i j, l = [a, b, c, d, e, f, g, i, j] := by
  match l, h with
  | [a, b, c, d, e, f, g, i, j], _ => exact ⟨a, b, c, d, e, f, g, i, j, rfl⟩

section
variable {H : Type} {enc : TypeId × Value → H} {w : World} {base : Nat} {spare : Nat → Bool} {hld : Bool}
theorem trod_bool {fuel : Nat} {c : Value} {y : DataW H × List MemPlace} (h : DataW.trod enc Try.prog w base spare hld fuel 4 [c] = some y) : ∃ o : Bool, c = .bool o := by
  cases fuel with
  | zero => simp [DataW.trod] at h
  | succ fuel =>
    unfold DataW.trod at h
    rw [Try.underlying4] at h
    cases c with
    | bool o => exact ⟨o, rfl⟩
    | _ => simp at h
theorem trod_pre {fuel : Nat} {c c' : Value} {y : DataW H × List MemPlace} (h : DataW.trod enc Try.prog w base spare hld fuel 32 [c, c'] = some y) :
    ∃ a n : Int, c = .int .u32 a ∧ c' = .int .i64 n ∧ (Lit.int .u32 a).wf = true ∧ (Lit.int .i64 n).wf = true := by
  cases fuel with
  | zero => simp [DataW.trod] at h
  | succ fuel =>
    simp only [DataW.trod, Try.underlying32, cells_pre] at h
    simp [cells_u32, cells_int, Option.bind_eq_some_iff] at h
    obtain ⟨_, _, h0, _, ⟨_, _, h1, _⟩, _⟩ := h
    obtain ⟨n0, e0, -, w0⟩ := DataW.trod_int Try.underlying22 h0
    obtain ⟨n1, e1, -, w1⟩ := DataW.trod_int Try.underlying3 h1
    simp only [List.cons.injEq, and_true] at e0 e1
    exact ⟨n0, n1, e0, e1, w0, w1⟩
theorem trod_dist {fuel : Nat} {c c' : Value} {y : DataW H × List MemPlace} (h : DataW.trod enc Try.prog w base spare hld fuel 35 [c, c'] = some y) :
    ∃ s m : Int, c = .int .u32 s ∧ c' = .int .u16 m ∧ (Lit.int .u32 s).wf = true ∧ (Lit.int .u16 m).wf = true := by
  cases fuel with
  | zero => simp [DataW.trod] at h
  | succ fuel =>
    simp only [DataW.trod, Try.underlying35, cells_dist] at h
    simp [cells_u32, cells_u16, Option.bind_eq_some_iff] at h
    obtain ⟨_, _, h0, _, ⟨_, _, h1, _⟩, _⟩ := h
    obtain ⟨n0, e0, -, w0⟩ := DataW.trod_int Try.underlying22 h0
    obtain ⟨n1, e1, -, w1⟩ := DataW.trod_int Try.underlying33 h1
    simp only [List.cons.injEq, and_true] at e0 e1
    exact ⟨n0, n1, e0, e1, w0, w1⟩
theorem trod_rec {fuel : Nat} {cs : List Value} {y : DataW H × List MemPlace} (h : DataW.trod enc Try.prog w base spare hld fuel 37 cs = some y) :
    ∃ (k : Int) (g l i a : Nat) (n : Int) (o : Bool) (s m : Nat), cs = (rcl ⟨k, g, l, i, a, n, o, s, m⟩).toList ∧ (⟨k, g, l, i, a, n, o, s, m⟩ : Rc).Fits := by
  cases fuel with
  | zero => simp [DataW.trod] at h
  | succ fuel =>
    simp only [DataW.trod, Try.underlying37, cells_rec] at h
    split at h
    case isFalse => cases h
    rename_i hlen
    obtain ⟨c0, c1, c2, c3, c4, c5, c6, c7, c8, rfl⟩ := list9 hlen
    simp [cells_kind, cells_u32, cells_pre, cells_bool, cells_dist, Option.bind_eq_some_iff] at h
    obtain ⟨_, _, h0, _, ⟨_, _, h1, _, ⟨_, _, h2, _, ⟨_, _, h3, _, ⟨_, _, h4, _, ⟨_, _, h6, _, ⟨_, _, h7, _⟩, _⟩, _⟩, _⟩, _⟩, _⟩, _⟩ := h
    obtain ⟨n0, e0, -, w0⟩ := DataW.trod_int Try.underlying30 h0
    obtain ⟨n1, e1, -, w1⟩ := DataW.trod_int Try.underlying22 h1
    obtain ⟨n2, e2, -, w2⟩ := DataW.trod_int Try.underlying22 h2
    obtain ⟨n3, e3, -, w3⟩ := DataW.trod_int Try.underlying22 h3
    obtain ⟨n4, n5, e4, e5, w4, w5⟩ := trod_pre h4
    obtain ⟨o, e6⟩ := trod_bool h6
    obtain ⟨n7, n8, e7, e8, w7, w8⟩ := trod_dist h7
    simp only [List.cons.injEq, and_true] at e0 e1 e2 e3
    subst e0 e1 e2 e3 e4 e5 e6 e7 e8
    obtain ⟨g, rfl, hg⟩ := row_u32 w1
    obtain ⟨l, rfl, hl⟩ := row_u32 w2
    obtain ⟨i, rfl, hi⟩ := row_u32 w3
    obtain ⟨a, rfl, ha⟩ := row_u32 w4
    obtain ⟨s, rfl, hs⟩ := row_u32 w7
    obtain ⟨m, rfl, hm⟩ := row_u16 w8
    exact ⟨n0, g, l, i, a, n5, o, s, m, rfl, ⟨(row_i64 w0).1, (row_i64 w0).2, hg, hl, hi, ha, (row_i64 w5).1, (row_i64 w5).2, hs, hm⟩⟩
theorem trod_key {fuel : Nat} {c0 c1 c2 : Value} {y : DataW H × List MemPlace} (h : DataW.trod enc Try.prog w base spare hld fuel 45 [c0, c1, c2] = some y) :
    ∃ (a : Nat) (n : Int) (i : Nat), c0 = .int .u32 a ∧ c1 = .int .i64 n ∧ c2 = .int .u32 i ∧ Ky.ok ⟨a, n, i⟩ := by
  cases fuel with
  | zero => simp [DataW.trod] at h
  | succ fuel =>
    simp only [DataW.trod, Try.underlying45, cells_key] at h
    simp [cells_pre, cells_u32, Option.bind_eq_some_iff] at h
    obtain ⟨_, _, h0, _, ⟨_, _, h1, _⟩, _⟩ := h
    obtain ⟨n0, n1, e0, e1, w0, w1⟩ := trod_pre h0
    obtain ⟨n2, e2, -, w2⟩ := DataW.trod_int Try.underlying22 h1
    simp only [List.cons.injEq, and_true] at e2
    obtain ⟨a, rfl, ha⟩ := row_u32 w0
    obtain ⟨i, rfl, hi⟩ := row_u32 w2
    exact ⟨a, n1, i, e0, e1, e2, ha, row_i64 w1, hi⟩
theorem open_key {b0 : Nat} {v : Value} {d : DataW H} {p : List MemPlace} (hv : Value.okWide Try.prog w .any b0 45 v) (h : DataW.Trod enc Try.prog w base spare hld 45 v d p) :
    ∃ (a : Nat) (n : Int) (i : Nat), v = .agg #[.int .u32 a, .int .i64 n, .int .u32 i] ∧ Ky.ok ⟨a, n, i⟩ := by
  obtain ⟨cs, rfl, hsz⟩ := okWide_struct Try.underlying45 hv
  obtain ⟨fuel, hf⟩ := h
  rw [cells_key] at hsz
  have hl : cs.toList.length = 3 := by simpa using hsz
  match hc : cs.toList, hl with
  | [c0, c1, c2], _ =>
    have hf2 : DataW.trod enc Try.prog w base spare hld fuel 45 [c0, c1, c2] = some (d, p) := by rw [← hc]; simpa [Value.cells] using hf
    obtain ⟨a, n, i, rfl, rfl, rfl, hk⟩ := trod_key hf2
    refine ⟨a, n, i, ?_, hk⟩
    rw [← Array.toList_inj.1 (show cs.toList = (#[.int .u32 (a : Int), .int .i64 n, .int .u32 (i : Int)] : Array Value).toList from hc)]
theorem open_dist {b0 : Nat} {v : Value} {d : DataW H} {p : List MemPlace} (hv : Value.okWide Try.prog w .any b0 35 v) (h : DataW.Trod enc Try.prog w base spare hld 35 v d p) :
    ∃ (s m : Nat), v = .agg #[.int .u32 s, .int .u16 m] ∧ s < 4294967296 ∧ m < 65536 := by
  obtain ⟨cs, rfl, hsz⟩ := okWide_struct Try.underlying35 hv
  obtain ⟨fuel, hf⟩ := h
  rw [cells_dist] at hsz
  have hl : cs.toList.length = 2 := by simpa using hsz
  match hc : cs.toList, hl with
  | [c0, c1], _ =>
    have hf2 : DataW.trod enc Try.prog w base spare hld fuel 35 [c0, c1] = some (d, p) := by rw [← hc]; simpa [Value.cells] using hf
    obtain ⟨z0, z1, rfl, rfl, w0, w1⟩ := trod_dist hf2
    obtain ⟨s, rfl, hs⟩ := row_u32 w0
    obtain ⟨m, rfl, hm⟩ := row_u16 w1
    refine ⟨s, m, ?_, hs, hm⟩
    rw [← Array.toList_inj.1 (show cs.toList = (#[.int .u32 (s : Int), .int .u16 (m : Int)] : Array Value).toList from hc)]
theorem open_recs {fuel : Nat} {A : Option Addr} {len cap : Nat} {x : DataW H × List MemPlace} (h : DataW.trod enc Try.prog w base (fun _ => true) hld fuel 23 (Value.slice A len cap).cells.toList = some x) :
    len ≤ cap ∧ len ≤ maxLen ∧ (0 < len → ∃ b off, A = some ⟨b, off, none⟩) ∧ ∃ rs : List Rc, rs.length = len ∧ (∀ r ∈ rs, r.Fits) ∧ ∀ b off, A = some ⟨b, off, none⟩ → Recs w b off rs := by
  rcases open_slice Try.underlying23 h with ⟨hcs, -⟩ | ⟨a, len', cap', m, n, D, Pl, hcs, _, hl, hm, hmm, -, hi⟩
  · simp [Value.cells] at hcs
    obtain ⟨rfl, rfl, rfl⟩ := hcs
    exact ⟨by omega, by unfold maxLen; omega, fun h => absurd h (by omega), [], rfl, by simp, fun b off e => by cases e⟩
  · simp [Value.cells] at hcs
    obtain ⟨rfl, rfl, rfl⟩ := hcs
    simp only [if_true] at hmm
    have hp : ∀ i : Nat, ∃ r : Rc, i < m → r.Fits ∧ ∀ j, j < 9 → w.cell? (a.add (i * 9 + j)) = (rcl r)[j]? := fun i => by
      by_cases him : i < m
      · obtain ⟨cs', hc, ht⟩ := hi i him
        rw [cells_rec] at hc
        obtain ⟨_, hcl, hat⟩ := World.cells?_some hc
        obtain ⟨k, g, l, i', ra, rn, o, s, mt, rfl, hfit⟩ := trod_rec ht
        refine ⟨⟨k, g, l, i', ra, rn, o, s, mt⟩, fun _ => ⟨hfit, fun j hj => ?_⟩⟩
        have h1 := hat j (by simpa [rcl] using hj)
        rw [Deep.add_add] at h1
        rw [h1]
        simp
      · exact ⟨zero, fun h => absurd h him⟩
    obtain ⟨f, hf⟩ := Classical.axiomOfChoice hp
    refine ⟨hl, by omega, fun h0 => ?_, (List.range len).map f, by simp, fun r hr => ?_, fun b off e i hi' j hj => ?_⟩
    · obtain ⟨b, off, spot⟩ := a
      have h1 := (hf 0 (by omega)).2 0 (by omega)
      have hspot : spot = none := by simpa [Addr.add] using World.cell?_spot (h1.trans rfl)
      exact ⟨b, off, by rw [hspot]⟩
    · obtain ⟨i, hi', rfl⟩ := List.mem_map.1 hr
      exact (hf i (by have := List.mem_range.1 hi'; omega)).1
    · cases e
      have hil : i < len := by simpa using hi'
      have h1 := (hf i (by omega)).2 j hj
      simp only [List.getElem_map, List.getElem_range]
      rw [← h1]
      rw [show (⟨b, off, none⟩ : Addr).add (i * 9 + j) = ⟨b, off + (9 * i + j), none⟩ by
        rw [show i * 9 + j = 9 * i + j by omega]
        generalize 9 * i + j = q
        by_cases hq : q = 0
        · subst hq; rfl
        · simp [Addr.add, hq]]
end
end Go.Proofs.Ytncliolkdkofhaa
