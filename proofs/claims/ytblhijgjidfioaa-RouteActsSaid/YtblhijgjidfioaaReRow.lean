/-
  What comes in: a list of prefixes.
-/
import Derived.Test.YtblhijgjidfioaaRows
import Derived.Test.YtblhijgjidfioaaLaw
import Derived.Test.YtblhijgjidfioaaPfc
import Derived.Deep.Slices
import Derived.Deep.Fields
import Derived.ChangeSame
import Derived.Lib.SmallJoins
namespace Go.Proofs.Ytblhijgjidfioaa
open Go.ChangeShapes Go.WideShapes Go.ChangeAt Go.RowKit Go.Joins Go.Deep
set_option maxRecDepth 100000

theorem row_own : ownKnob Try.prog.godebug = none := by kernel_rfl
theorem row_laidOut : laidOutB Try.prog = true := by kernel_rfl
theorem row_i64 {z : Int} (h : (Lit.int .i64 z).wf = true) : -9223372036854775808 ≤ z ∧ z ≤ 9223372036854775807 := of_i64 h

/-- a list of prefixes in memory, as a slice value says it -/
structure InP (w : World) (A : Option Addr) (len cap : Nat) (ps : List Pk) : Prop where
  hl : ps.length = len
  hm : len ≤ maxLen
  hc : len ≤ cap
  hA : 0 < len → ∃ b off, A = some ⟨b, off, none⟩
  hF : ∀ p ∈ ps, p.ok
  hR : ∀ b off, A = some ⟨b, off, none⟩ → ∀ i (h : i < ps.length), w.cell? ⟨b, off + i * 2, none⟩ = some (.int .u32 ps[i].a) ∧ w.cell? ⟨b, off + i * 2 + 1, none⟩ = some (.int .i64 ps[i].n)
theorem InP.held {w w' : World} {A : Option Addr} {len cap : Nat} {ps : List Pk} (h : InP w A len cap ps) (hb : Below w.heap.size w w') : InP w' A len cap ps :=
  ⟨h.hl, h.hm, h.hc, h.hA, h.hF, fun b off e i hi => ⟨Go.Proofs.Ytblhijgjidfioaa.held hb (h.hR b off e i hi).1, Go.Proofs.Ytblhijgjidfioaa.held hb (h.hR b off e i hi).2⟩⟩

section
variable {H : Type} {enc : TypeId × Value → H} {w : World} {base : Nat} {spare : Nat → Bool} {hld : Bool}
theorem trod_pfx {fuel : Nat} {cs : List Value} {y : DataW H × List MemPlace} (h : DataW.trod enc Try.prog w base spare hld fuel 32 cs = some y) :
    ∃ p : Pk, cs = clP p ∧ p.ok := by
  cases fuel with
  | zero => simp [DataW.trod] at h
  | succ fuel =>
    simp only [DataW.trod, Try.underlying32, cells_pre] at h
    split at h
    case isFalse => cases h
    rename_i hlen
    obtain ⟨c, c', rfl⟩ : ∃ a b, cs = [a, b] := by
      match cs, hlen with
      | [a, b], _ => exact ⟨a, b, rfl⟩
    simp [cells_u32, cells_int, Option.bind_eq_some_iff] at h
    obtain ⟨_, _, h0, _, ⟨_, _, h1, _⟩, _⟩ := h
    obtain ⟨n0, e0, -, w0⟩ := DataW.trod_int Try.underlying24 h0
    obtain ⟨n1, e1, -, w1⟩ := DataW.trod_int Try.underlying3 h1
    simp only [List.cons.injEq, and_true] at e0 e1
    subst e0 e1
    obtain ⟨a, rfl, ha⟩ := of_u32 w0
    exact ⟨⟨a, n1⟩, rfl, ha, row_i64 w1⟩
theorem open_pfxs {fuel : Nat} {A : Option Addr} {len cap : Nat} {x : DataW H × List MemPlace} (h : DataW.trod enc Try.prog w base (fun _ => true) hld fuel 60 (Value.slice A len cap).cells.toList = some x) :
    ∃ ps : List Pk, InP w A len cap ps := by
  rcases open_slice Try.underlying60 h with ⟨hcs, -⟩ | ⟨a, len', cap', m, n, D, Pl, hcs, _, hl, hm, hmm, -, hi⟩
  · simp [Value.cells] at hcs
    obtain ⟨rfl, rfl, rfl⟩ := hcs
    exact ⟨[], rfl, by unfold maxLen; omega, by omega, fun h => absurd h (by omega), by simp, fun b off e => by cases e⟩
  · simp [Value.cells] at hcs
    obtain ⟨rfl, rfl, rfl⟩ := hcs
    simp only [if_true] at hmm
    have hp : ∀ i : Nat, ∃ r : Pk, i < m → r.ok ∧ ∀ j, j < 2 → w.cell? (a.add (i * 2 + j)) = (clP r)[j]? := fun i => by
      by_cases him : i < m
      · obtain ⟨cs', hc, ht⟩ := hi i him
        rw [cells_pre] at hc
        obtain ⟨_, hcl, hat⟩ := World.cells?_some hc
        obtain ⟨p, rfl, hfit⟩ := trod_pfx ht
        refine ⟨p, fun _ => ⟨hfit, fun j hj => ?_⟩⟩
        have h1 := hat j (by simpa [clP] using hj)
        rw [Deep.add_add] at h1
        rw [h1]
      · exact ⟨⟨0, 0⟩, fun h => absurd h him⟩
    obtain ⟨f, hf⟩ := Classical.axiomOfChoice hp
    refine ⟨(List.range len).map f, by simp, by omega, hl, fun h0 => ?_, fun r hr => ?_, fun b off e i hi' => ?_⟩
    · obtain ⟨b, off, spot⟩ := a
      have h1 := (hf 0 (by omega)).2 0 (by omega)
      have hspot : spot = none := by simpa [Addr.add] using World.cell?_spot (h1.trans rfl)
      exact ⟨b, off, by rw [hspot]⟩
    · obtain ⟨i, hi', rfl⟩ := List.mem_map.1 hr
      exact (hf i (by have := List.mem_range.1 hi'; omega)).1
    · cases e
      have hil : i < len := by simpa using hi'
      have key : ∀ j, j < 2 → w.cell? ⟨b, off + i * 2 + j, none⟩ = (clP (f i))[j]? := fun j hj => by
        rw [← (hf i (by omega)).2 j hj, show (⟨b, off, none⟩ : Addr).add (i * 2 + j) = ⟨b, off + i * 2 + j, none⟩ by
          rw [Nat.add_assoc]
          generalize i * 2 + j = q
          by_cases hq : q = 0
          · subst hq; rfl
          · simp [Addr.add, hq]]
      simp only [List.getElem_map, List.getElem_range]
      exact ⟨key 0 (by omega), key 1 (by omega)⟩
end

theorem asc_unique {xs ys : List Pk} (h1 : xs.Pairwise ltP) (h2 : ys.Pairwise ltP) (h : ∀ p, p ∈ xs ↔ p ∈ ys) : xs = ys := by
  have nd : ∀ l : List Pk, l.Pairwise ltP → l.Nodup := fun l hl => hl.imp fun {a b} hab e => by subst e; unfold ltP at hab; omega
  exact List.Perm.eq_of_pairwise (fun a b _ _ hab hba => by unfold ltP at hab hba; omega) h1 h2 ((List.perm_ext_iff_of_nodup (nd _ h1) (nd _ h2)).2 h)
end Go.Proofs.Ytblhijgjidfioaa
