/-
  What comes in: a list of entries, an address.
-/
import Derived.Test.YtblhijgjidfioaaRows
import Derived.Test.YtblhijgjidfioaaLaw
import Derived.Test.YtblhijgjidfioaaFibW
import Derived.Deep.Slices
import Derived.Deep.Fields
import Derived.ChangeSame
import Derived.Lib.SmallJoins
namespace Go.Proofs.Ytblhijgjidfioaa
open Go.ChangeShapes Go.WideShapes Go.ChangeAt Go.RowKit Go.Joins Go.Deep Fm
set_option maxRecDepth 100000

theorem row_own : ownKnob Try.prog.godebug = none := by kernel_rfl
theorem row_laidOut : laidOutB Try.prog = true := by kernel_rfl
theorem cells_ent : Try.prog.cellsOf 66 = 4 := by kernel_rfl
theorem cells_pre : Try.prog.cellsOf 32 = 2 := by kernel_rfl
theorem cells_how : Try.prog.cellsOf 64 = 1 := by kernel_rfl
theorem cells_int : Try.prog.cellsOf 3 = 1 := by kernel_rfl
theorem cells_u32 : Try.prog.cellsOf 24 = 1 := by kernel_rfl
theorem row_i64 {z : Int} (h : (Lit.int .i64 z).wf = true) : -9223372036854775808 ≤ z ∧ z ≤ 9223372036854775807 := by
  have h1 : IntKind.i64.min = -9223372036854775808 := rfl
  have h2 : IntKind.i64.max = 9223372036854775807 := rfl
  simp only [Lit.wf, Bool.and_eq_true, decide_eq_true_eq] at h
  omega
theorem row_u32 {z : Int} (h : (Lit.int .u32 z).wf = true) : ∃ n : Nat, z = n ∧ n < 4294967296 := by
  have h1 : IntKind.u32.min = 0 := rfl
  have h2 : IntKind.u32.max = 4294967295 := rfl
  simp only [Lit.wf, Bool.and_eq_true, decide_eq_true_eq] at h
  exact ⟨z.toNat, by omega, by omega⟩
theorem list4 {α : Type} {l : List α} (h : l.length = 4) : ∃ a b c d, l = [a, b, c, d] := by
  match l, h with
  | [a, b, c, d], _ => exact ⟨a, b, c, d, rfl⟩

section
variable {H : Type} {enc : TypeId × Value → H} {w : World} {base : Nat} {spare : Nat → Bool} {hld : Bool}
theorem trod_pre {fuel : Nat} {c c' : Value} {y : DataW H × List MemPlace} (h : DataW.trod enc Try.prog w base spare hld fuel 32 [c, c'] = some y) :
    ∃ a n : Int, c = .int .u32 a ∧ c' = .int .i64 n ∧ (Lit.int .u32 a).wf = true ∧ (Lit.int .i64 n).wf = true := by
  cases fuel with
  | zero => simp [DataW.trod] at h
  | succ fuel =>
    simp only [DataW.trod, Try.underlying32, cells_pre] at h
    simp [cells_u32, cells_int, Option.bind_eq_some_iff] at h
    obtain ⟨_, _, h0, _, ⟨_, _, h1, _⟩, _⟩ := h
    obtain ⟨n0, e0, -, w0⟩ := DataW.trod_int Try.underlying24 h0
    obtain ⟨n1, e1, -, w1⟩ := DataW.trod_int Try.underlying3 h1
    simp only [List.cons.injEq, and_true] at e0 e1
    exact ⟨n0, n1, e0, e1, w0, w1⟩
theorem trod_ent {fuel : Nat} {cs : List Value} {y : DataW H × List MemPlace} (h : DataW.trod enc Try.prog w base spare hld fuel 66 cs = some y) :
    ∃ (a : Nat) (n how nx : Int), cs = ecl ⟨a, n, how, nx⟩ ∧ (⟨a, n, how, nx⟩ : En).Fits := by
  cases fuel with
  | zero => simp [DataW.trod] at h
  | succ fuel =>
    simp only [DataW.trod, Try.underlying66, cells_ent] at h
    split at h
    case isFalse => cases h
    rename_i hlen
    obtain ⟨c0, c1, c2, c3, rfl⟩ := list4 hlen
    simp [cells_pre, cells_how, cells_int, Option.bind_eq_some_iff] at h
    obtain ⟨_, _, h0, _, ⟨_, _, h1, _, ⟨_, _, h2, _⟩, _⟩, _⟩ := h
    obtain ⟨n0, n1, e0, e1, w0, w1⟩ := trod_pre h0
    obtain ⟨n2, e2, -, w2⟩ := DataW.trod_int Try.underlying64 h1
    obtain ⟨n3, e3, -, w3⟩ := DataW.trod_int Try.underlying3 h2
    simp only [List.cons.injEq, and_true] at e2 e3
    subst e0 e1 e2 e3
    obtain ⟨a, rfl, ha⟩ := row_u32 w0
    exact ⟨a, n1, n2, n3, rfl, ⟨ha, (row_i64 w1).1, (row_i64 w1).2, (row_i64 w2).1, (row_i64 w2).2, (row_i64 w3).1, (row_i64 w3).2⟩⟩
theorem open_ents {fuel : Nat} {A : Option Addr} {len cap : Nat} {x : DataW H × List MemPlace} (h : DataW.trod enc Try.prog w base (fun _ => true) hld fuel 63 (Value.slice A len cap).cells.toList = some x) :
    len ≤ cap ∧ len ≤ maxLen ∧ (0 < len → ∃ b off, A = some ⟨b, off, none⟩) ∧ ∃ es : List En, es.length = len ∧ (∀ r ∈ es, r.Fits) ∧ ∀ b off, A = some ⟨b, off, none⟩ → Ents w b off es := by
  rcases open_slice Try.underlying63 h with ⟨hcs, -⟩ | ⟨a, len', cap', m, n, D, Pl, hcs, _, hl, hm, hmm, -, hi⟩
  · simp [Value.cells] at hcs
    obtain ⟨rfl, rfl, rfl⟩ := hcs
    exact ⟨by omega, by unfold maxLen; omega, fun h => absurd h (by omega), [], rfl, by simp, fun b off e => by cases e⟩
  · simp [Value.cells] at hcs
    obtain ⟨rfl, rfl, rfl⟩ := hcs
    simp only [if_true] at hmm
    have hp : ∀ i : Nat, ∃ r : En, i < m → r.Fits ∧ ∀ j, j < 4 → w.cell? (a.add (i * 4 + j)) = (ecl r)[j]? := fun i => by
      by_cases him : i < m
      · obtain ⟨cs', hc, ht⟩ := hi i him
        rw [cells_ent] at hc
        obtain ⟨_, hcl, hat⟩ := World.cells?_some hc
        obtain ⟨ra, rn, rh, rx, rfl, hfit⟩ := trod_ent ht
        refine ⟨⟨ra, rn, rh, rx⟩, fun _ => ⟨hfit, fun j hj => ?_⟩⟩
        have h1 := hat j (by simpa [ecl] using hj)
        rw [Deep.add_add] at h1
        rw [h1]
      · exact ⟨En.zero, fun h => absurd h him⟩
    obtain ⟨f, hf⟩ := Classical.axiomOfChoice hp
    refine ⟨hl, by omega, fun h0 => ?_, (List.range len).map f, by simp, fun r hr => ?_, fun b off e i hi' j hj => ?_⟩
    · obtain ⟨b, off, spot⟩ := a
      have h1 := (hf 0 (by omega)).2 0 (by omega)
      have hspot : spot = none := by simpa [Addr.add] using World.cell?_spot (h1.trans rfl)
      exact ⟨b, off, by rw [hspot]⟩
    · obtain ⟨i, hi', rfl⟩ := List.mem_map.1 hr
      exact (hf i (by have := List.mem_range.1 hi'; omega)).1
    · cases e
      have hil : i < len := by simpa using hi'
      have h1 := (hf i (by omega)).2 j hj
      simp only [List.getElem_map, List.getElem_range]
      rw [← h1]
      rw [show (⟨b, off, none⟩ : Addr).add (i * 4 + j) = ⟨b, off + i * 4 + j, none⟩ by
        rw [Nat.add_assoc]
        generalize i * 4 + j = q
        by_cases hq : q = 0
        · subst hq; rfl
        · simp [Addr.add, hq]]
end
end Go.Proofs.Ytblhijgjidfioaa
