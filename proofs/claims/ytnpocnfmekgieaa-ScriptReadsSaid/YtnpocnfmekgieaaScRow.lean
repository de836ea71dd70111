/-
  What comes in: events, bytes, numbers, a text.
-/
import Derived.Test.YtnpocnfmekgieaaRows
import Derived.Test.YtnpocnfmekgieaaLaw
import Derived.Test.YtnpocnfmekgieaaScE
import Derived.Deep.Slices
import Derived.Deep.Fields
import Derived.ChangeSame
import Derived.ChangeArms
import Derived.ChangeMaps5
import Derived.Lib.SmallJoins
namespace Go.Proofs.Ytnpocnfmekgieaa
open Go.ChangeShapes Go.WideShapes Go.ChangeAt Go.RowKit Go.Joins Go.Deep Sc
set_option maxRecDepth 100000

theorem row_own : ownKnob Try.prog.godebug = none := by kernel_rfl
theorem row_laidOut : laidOutB Try.prog = true := by kernel_rfl
theorem cells_ev : Try.prog.cellsOf 30 = 7 := by kernel_rfl
theorem cells_kind : Try.prog.cellsOf 25 = 1 := by kernel_rfl
theorem cells_pre : Try.prog.cellsOf 28 = 2 := by kernel_rfl
theorem cells_u32 : Try.prog.cellsOf 26 = 1 := by kernel_rfl
theorem cells_int : Try.prog.cellsOf 3 = 1 := by kernel_rfl
theorem cells_str : Try.prog.cellsOf 9 = 1 := by kernel_rfl
theorem cells_u8 : Try.prog.cellsOf 5 = 1 := by kernel_rfl
theorem row_i64 {z : Int} (h : (Lit.int .i64 z).wf = true) : -9223372036854775808 ≤ z ∧ z ≤ 9223372036854775807 := by
  have h1 : IntKind.i64.min = -9223372036854775808 := rfl
  have h2 : IntKind.i64.max = 9223372036854775807 := rfl
  simp only [Lit.wf, Bool.and_eq_true, decide_eq_true_eq] at h
  omega
theorem row_u32 {z : Int} (h : (Lit.int .u32 z).wf = true) : ∃ n : Nat, z = n ∧ n < 4294967296 := by
  have h1 : IntKind.u32.min = 0 := rfl
  have h2 : IntKind.u32.max = 4294967295 := rfl
  simp only [Lit.wf, Bool.and_eq_true, decide_eq_true_eq] at h
  exact ⟨z.toNat, by omega, by omega⟩
theorem row_u8 {z : Int} (h : (Lit.int .u8 z).wf = true) : ∃ c : Nat, c < 256 ∧ z = c := by
  have h1 : IntKind.u8.min = 0 := rfl
  have h2 : IntKind.u8.max = 255 := rfl
  simp only [Lit.wf, Bool.and_eq_true, decide_eq_true_eq] at h
  exact ⟨z.toNat, by omega, by omega⟩
theorem list7 {α : Type} {l : List α} (h : l.length = 7) : ∃ a b c d e f g, l = [a, b, c, d, e, f, g] := by
  match l, h with
  | [a, b, c, d, e, f, g], _ => exact ⟨a, b, c, d, e, f, g, rfl⟩
theorem bytesAt_of {W : World} (a : Addr) (len cap : Nat) (zs : List Int) (hl : len ≤ cap) (hm : cap ≤ maxLen) (hz : zs.length = cap)
    (hcell : ∀ i, i < zs.length → W.cell? (a.add i) = some (.int .u8 (zs.getD i 0))) (hwz : ∀ n ∈ zs, (Lit.int .u8 n).wf = true) : BytesAt W (some a) len ((zs.take len).map Int.toNat) := by
  refine ⟨by simp; omega, by omega, fun c hc => ?_, fun k hk => ⟨a, rfl, ?_⟩⟩
  · obtain ⟨z, hz', rfl⟩ := List.mem_map.1 hc
    obtain ⟨d, hd, rfl⟩ := row_u8 (hwz z (List.mem_of_mem_take hz'))
    simpa using hd
  · have hkz : k < zs.length := by omega
    rw [hcell k hkz]
    obtain ⟨d, hd, e⟩ := row_u8 (hwz zs[k] (List.getElem_mem hkz))
    have e1 : zs.getD k 0 = zs[k] := by simp [List.getD, hkz]
    have e2 : ((zs.take len).map Int.toNat).getD k 0 = zs[k].toNat := by simp [List.getD, hk, hkz]
    rw [e1, e2, e]
    rfl

section
variable {H : Type} {enc : TypeId × Value → H} {w : World} {base : Nat} {spare : Nat → Bool} {hld : Bool}
theorem trod_pre {fuel : Nat} {c c' : Value} {y : DataW H × List MemPlace} (h : DataW.trod enc Try.prog w base spare hld fuel 28 [c, c'] = some y) :
    ∃ a n : Int, c = .int .u32 a ∧ c' = .int .i64 n ∧ (Lit.int .u32 a).wf = true ∧ (Lit.int .i64 n).wf = true := by
  cases fuel with
  | zero => simp [DataW.trod] at h
  | succ fuel =>
    simp only [DataW.trod, Try.underlying28, cells_pre] at h
    simp [cells_u32, cells_int, Option.bind_eq_some_iff] at h
    obtain ⟨_, _, h0, _, ⟨_, _, h1, _⟩, _⟩ := h
    obtain ⟨n0, e0, -, w0⟩ := DataW.trod_int Try.underlying26 h0
    obtain ⟨n1, e1, -, w1⟩ := DataW.trod_int Try.underlying3 h1
    simp only [List.cons.injEq, and_true] at e0 e1
    exact ⟨n0, n1, e0, e1, w0, w1⟩
theorem trod_ev {fuel : Nat} {cs : List Value} {y : DataW H × List MemPlace} (h : DataW.trod enc Try.prog w base spare hld fuel 30 cs = some y) :
    ∃ e : Ev, cs = ecl e ∧ e.Good := by
  cases fuel with
  | zero => simp [DataW.trod] at h
  | succ fuel =>
    simp only [DataW.trod, Try.underlying30, cells_ev] at h
    split at h
    case isFalse => cases h
    rename_i hlen
    obtain ⟨c0, c1, c2, c3, c4, c5, c6, rfl⟩ := list7 hlen
    simp [cells_kind, cells_int, cells_pre, cells_str, Option.bind_eq_some_iff] at h
    obtain ⟨_, _, h0, _, ⟨_, _, h1, _, ⟨_, _, h2, _, ⟨_, _, h3, _, ⟨_, _, h4, _, ⟨_, _, h5, _⟩, _⟩, _⟩, _⟩, _⟩, _⟩ := h
    obtain ⟨n0, e0, -, w0⟩ := DataW.trod_int Try.underlying25 h0
    obtain ⟨n1, e1, -, w1⟩ := DataW.trod_int Try.underlying3 h1
    obtain ⟨n2, e2, -, w2⟩ := DataW.trod_int Try.underlying3 h2
    obtain ⟨n3, e3, -, w3⟩ := DataW.trod_int Try.underlying3 h3
    obtain ⟨n4, n5, e4, e5, w4, w5⟩ := trod_pre h4
    obtain ⟨s, e6, -, w6⟩ := DataW.trod_string Try.underlying9 h5
    simp only [List.cons.injEq, and_true] at e0 e1 e2 e3 e6
    subst e0 e1 e2 e3 e4 e5 e6
    obtain ⟨a, rfl, ha⟩ := row_u32 w4
    refine ⟨⟨n0, n1, n2, n3, a, n5, s.data.toList⟩, ?_, ⟨⟨(row_i64 w0).1, (row_i64 w0).2, (row_i64 w1).1, (row_i64 w1).2, (row_i64 w2).1, (row_i64 w2).2, (row_i64 w3).1, (row_i64 w3).2, ha, (row_i64 w5).1, (row_i64 w5).2⟩, ?_⟩⟩
    · rfl
    · exact w6
theorem open_evs {fuel : Nat} {A : Option Addr} {len cap : Nat} {x : DataW H × List MemPlace} (h : DataW.trod enc Try.prog w base (fun _ => true) hld fuel 22 (Value.slice A len cap).cells.toList = some x) :
    ∃ es, El w A len cap es := by
  rcases open_slice Try.underlying22 h with ⟨hcs, -⟩ | ⟨a, len', cap', m, n, D, Pl, hcs, _, hl, hm, hmm, -, hi⟩
  · simp [Value.cells] at hcs
    obtain ⟨rfl, rfl, rfl⟩ := hcs
    exact ⟨[], ⟨rfl, by unfold maxLen; omega, by omega, fun h => absurd h (by omega), (fun b off e => by cases e), by simp⟩⟩
  · simp [Value.cells] at hcs
    obtain ⟨rfl, rfl, rfl⟩ := hcs
    simp only [if_true] at hmm
    have hp : ∀ i : Nat, ∃ r : Ev, i < m → r.Good ∧ ∀ j, j < 7 → w.cell? (a.add (i * 7 + j)) = (ecs r)[j]? := fun i => by
      by_cases him : i < m
      · obtain ⟨cs', hc, ht⟩ := hi i him
        rw [cells_ev] at hc
        obtain ⟨_, hcl, hat⟩ := World.cells?_some hc
        obtain ⟨r, rfl, hg⟩ := trod_ev ht
        refine ⟨r, fun _ => ⟨hg, fun j hj => ?_⟩⟩
        have h1 := hat j (by simpa [ecl] using hj)
        rw [Deep.add_add] at h1
        rw [h1, show (ecs r)[j]? = (ecl r)[j]? by rw [← ecs_list]; simp]
      · exact ⟨⟨0, 0, 0, 0, 0, 0, []⟩, fun h => absurd h him⟩
    obtain ⟨f, hf⟩ := Classical.axiomOfChoice hp
    refine ⟨(List.range len).map f, ⟨by simp, by omega, hl, fun h0 => ?_, fun b off e i hi' j hj => ?_, fun r hr => ?_⟩⟩
    · obtain ⟨b, off, spot⟩ := a
      have h1 := (hf 0 (by omega)).2 0 (by omega)
      have hspot : spot = none := by simpa [Addr.add] using World.cell?_spot (h1.trans rfl)
      exact ⟨b, off, by rw [hspot]⟩
    · cases e
      have hil : i < len := by simpa using hi'
      have h1 := (hf i (by omega)).2 j hj
      simp only [List.getElem_map, List.getElem_range]
      rw [← h1]
      rw [show (⟨b, off, none⟩ : Addr).add (i * 7 + j) = ⟨b, off + (7 * i + j), none⟩ by
        rw [show i * 7 + j = 7 * i + j by omega]
        generalize 7 * i + j = q
        by_cases hq : q = 0
        · subst hq; rfl
        · simp [Addr.add, hq]]
    · obtain ⟨i, hi', rfl⟩ := List.mem_map.1 hr
      exact (hf i (by have := List.mem_range.1 hi'; omega)).1
theorem open_sl {fuel : Nat} {A : Option Addr} {len cap : Nat} {x : DataW H × List MemPlace} (hf : DataW.trod enc Try.prog w base (fun _ => true) hld fuel 32 (Value.slice A len cap).cells.toList = some x) :
    ∃ bs, Sl w A len cap bs := by
  rcases open_ints Try.underlying32 Try.underlying5 cells_u8 hf with ⟨hcs, hx⟩ | ⟨a, len', cap', zs, hcs, _, hl, hm, hz, hx, hcell, hwz⟩
  · simp [Value.cells] at hcs
    obtain ⟨rfl, rfl, rfl⟩ := hcs
    exact ⟨[], ⟨rfl, by unfold maxLen; omega, by simp, fun k hk => absurd hk (by omega)⟩, by omega, fun h => absurd h (by omega)⟩
  · simp [Value.cells] at hcs
    obtain ⟨rfl, rfl, rfl⟩ := hcs
    simp only [if_true] at hz
    refine ⟨_, bytesAt_of a len cap zs hl hm hz hcell hwz, hl, fun h0 => ?_⟩
    obtain ⟨b, off, spot⟩ := a
    have h1 := hcell 0 (by omega)
    have hspot : spot = none := by simpa [Addr.add] using World.cell?_spot h1
    exact ⟨b, off, by rw [hspot]⟩
end
end Go.Proofs.Ytnpocnfmekgieaa
