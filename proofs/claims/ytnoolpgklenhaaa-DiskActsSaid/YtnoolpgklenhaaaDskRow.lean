/-
  What comes in: bytes, and picks.
-/
import Derived.Test.YtnoolpgklenhaaaRows
import Derived.Test.YtnoolpgklenhaaaLaw
import Derived.Test.YtnoolpgklenhaaaDskC
import Derived.Deep.Slices
import Derived.Deep.Fields
import Derived.ChangeSame
import Derived.Lib.SmallJoins
namespace Go.Proofs.Ytnoolpgklenhaaa
open Go.ChangeShapes Go.WideShapes Go.ChangeAt Go.RowKit Go.Joins Go.Deep

theorem row_own : ownKnob Try.prog.godebug = none := by kernel_rfl
theorem row_laidOut : laidOutB Try.prog = true := by kernel_rfl
theorem byte_cells : Try.prog.cellsOf 5 = 1 := by kernel_rfl
theorem pick_cells : Try.prog.cellsOf 39 = 3 := by kernel_rfl
theorem wf_u8 {z : Int} (h : (Lit.int .u8 z).wf = true) : ∃ c : UInt8, z = (c.toNat : Int) := by
  have h1 : IntKind.u8.min = 0 := rfl
  have h2 : IntKind.u8.max = 255 := rfl
  simp only [Lit.wf, Bool.and_eq_true, decide_eq_true_eq] at h
  refine ⟨UInt8.ofNat z.toNat, ?_⟩
  rw [UInt8.toNat_ofNat']
  omega
theorem wf_u32 {z : Int} (h : (Lit.int .u32 z).wf = true) : ∃ n : Nat, n < 4294967296 ∧ z = n := by
  have h1 : IntKind.u32.min = 0 := rfl
  have h2 : IntKind.u32.max = 4294967295 := rfl
  simp only [Lit.wf, Bool.and_eq_true, decide_eq_true_eq] at h
  exact ⟨z.toNat, by omega, by omega⟩
theorem wf_i64 {z : Int} (h : (Lit.int .i64 z).wf = true) : -9223372036854775808 ≤ z ∧ z ≤ 9223372036854775807 := by
  have h1 : IntKind.i64.min = -9223372036854775808 := rfl
  have h2 : IntKind.i64.max = 9223372036854775807 := rfl
  simp only [Lit.wf, Bool.and_eq_true, decide_eq_true_eq] at h
  exact h

section
variable {H : Type} {enc : TypeId × Value → H} {w : World} {base : Nat} {spare : Nat → Bool} {hld : Bool}
theorem open_bytes {fuel : Nat} {A : Option Addr} {len cap : Nat} {x : DataW H × List MemPlace} (h : DataW.trod enc Try.prog w base (fun _ => true) hld fuel 28 (Value.slice A len cap).cells.toList = some x) :
    len ≤ 9223372036854775807 ∧ ∃ bs : List UInt8, bs.length = len ∧ Bys w A len bs := by
  rcases open_ints Try.underlying28 Try.underlying5 byte_cells h with ⟨hcs, -⟩ | ⟨a, len', cap', zs, hcs, _, hl, hm, hz, -, hcell, hwz⟩
  · simp [Value.cells] at hcs
    obtain ⟨rfl, rfl, rfl⟩ := hcs
    exact ⟨by omega, [], rfl, rfl, fun h0 => absurd h0 (by omega)⟩
  · simp [Value.cells] at hcs
    obtain ⟨rfl, rfl, rfl⟩ := hcs
    simp only [if_true] at hz
    unfold maxLen at hm
    have hb : ∀ z : Int, ∃ c : UInt8, z ∈ zs → z = (c.toNat : Int) := fun z => by
      by_cases hm : z ∈ zs
      · obtain ⟨c, hc⟩ := wf_u8 (hwz z hm); exact ⟨c, fun _ => hc⟩
      · exact ⟨0, fun h => absurd h hm⟩
    obtain ⟨f, hf⟩ := Classical.axiomOfChoice hb
    refine ⟨by omega, (zs.take len).map f, by simp; omega, by simp; omega, fun _ => ⟨a, rfl, fun j v hv => ?_⟩⟩
    rw [sec_get, List.getElem?_map] at hv
    have hj : j < len := by
      rcases Nat.lt_or_ge j len with h' | h'
      · exact h'
      · rw [List.getElem?_eq_none (by simp; omega)] at hv; cases hv
    have hjz : j < zs.length := by omega
    rw [List.getElem?_take, if_pos hj, List.getElem?_eq_getElem hjz] at hv
    simp at hv
    rw [hcell j hjz, ← hv]
    have e := hf zs[j] (List.getElem_mem hjz)
    simp [List.getD, hjz, ← e]
theorem trod3 {P : Program} {t : TypeId} {f0 f1 f2 : Field} {m : Nat} {cs : List Value} {x : DataW H × List MemPlace} (hs : P.underlying t = some (.struct #[f0, f1, f2])) (hone : oneCellFields P #[f0, f1, f2] = true) (hC : P.cellsOf t = 3)
    (h : DataW.trod enc P w base spare hld m t cs = some x) : ∃ (v0 v1 v2 : Value) (y0 y1 y2 : DataW H × List MemPlace) (n : Nat), cs = [v0, v1, v2] ∧
      DataW.trod enc P w base spare hld n f0.type [v0] = some y0 ∧ DataW.trod enc P w base spare hld n f1.type [v1] = some y1 ∧ DataW.trod enc P w base spare hld n f2.type [v2] = some y2 := by
  obtain ⟨xs, n, _, _, hl, hlen, hg⟩ := DataW.trod_struct hs h
  rw [hC] at hl
  obtain ⟨o0, k0⟩ := hone_of hone 0 f0 rfl
  obtain ⟨o1, k1⟩ := hone_of hone 1 f1 rfl
  obtain ⟨o2, k2⟩ := hone_of hone 2 f2 rfl
  match cs, hl with
  | [v0, v1, v2], _ =>
    match xs, hlen with
    | [y0, y1, y2], _ => exact ⟨v0, v1, v2, y0, y1, y2, n, rfl, by simpa [o0, k0] using hg 0 f0 rfl, by simpa [o1, k1] using hg 1 f1 rfl, by simpa [o2, k2] using hg 2 f2 rfl⟩
theorem open_pick {n : Nat} {cs : List Value} {x : DataW H × List MemPlace} (h : DataW.trod enc Try.prog w base spare hld n 39 cs = some x) : ∃ how at_ : Int, ∃ turn : Nat, turn < 4294967296 ∧ cs = [.int .i64 how, .int .i64 at_, .int .u32 (turn : Int)] := by
  obtain ⟨v0, v1, v2, y0, y1, y2, m, rfl, g0, g1, g2⟩ := trod3 Try.underlying39 (by kernel_rfl) pick_cells h
  obtain ⟨how, a0, -, -⟩ := DataW.trod_int Try.underlying3 g0
  obtain ⟨at_, a1, -, -⟩ := DataW.trod_int Try.underlying3 g1
  obtain ⟨z, a2, -, w2⟩ := DataW.trod_int Try.underlying37 g2
  obtain ⟨turn, ht, rfl⟩ := wf_u32 w2
  simp at a0 a1 a2
  exact ⟨how, at_, turn, ht, by rw [a0, a1, a2]⟩
theorem open_picks {fuel : Nat} {A : Option Addr} {len cap : Nat} {x : DataW H × List MemPlace} (h : DataW.trod enc Try.prog w base (fun _ => true) hld fuel 31 (Value.slice A len cap).cells.toList = some x) :
    len ≤ cap ∧ cap ≤ 9223372036854775807 ∧ ∃ ps : List Pk, ps.length = len ∧ PicksAt w A ps := by
  rcases open_slice Try.underlying31 h with ⟨hcs, -⟩ | ⟨a, len', cap', m, n, D, Pl, hcs, _, hl, hm, hmm, -, hi⟩
  · simp [Value.cells] at hcs
    obtain ⟨rfl, rfl, rfl⟩ := hcs
    exact ⟨by omega, by omega, [], rfl, PicksAt.nil⟩
  · simp [Value.cells] at hcs
    obtain ⟨rfl, rfl, rfl⟩ := hcs
    simp only [if_true] at hmm
    unfold maxLen at hm
    have hp : ∀ i : Nat, ∃ p : Pk, i < m → p.2.2 < 4294967296 ∧ w.cell? (a.add (i * 3)) = some (.int .i64 p.1) ∧ w.cell? (a.add (i * 3 + 1)) = some (.int .i64 p.2.1) ∧ w.cell? (a.add (i * 3 + 2)) = some (.int .u32 (p.2.2 : Int)) := fun i => by
      by_cases him : i < m
      · obtain ⟨cs', hc, ht⟩ := hi i him
        rw [pick_cells] at hc
        obtain ⟨_, hcl, hat⟩ := World.cells?_some hc
        obtain ⟨how, at_, turn, htn, rfl⟩ := open_pick ht
        refine ⟨(how, at_, turn), fun _ => ⟨htn, ?_, ?_, ?_⟩⟩
        · have := hat 0 (by omega); rw [add_add] at this; exact this
        · have := hat 1 (by omega); rw [add_add] at this; exact this
        · have := hat 2 (by omega); rw [add_add] at this; exact this
      · exact ⟨(0, 0, 0), fun h => absurd h him⟩
    obtain ⟨f, hf⟩ := Classical.axiomOfChoice hp
    refine ⟨hl, by omega, (List.range len).map f, by simp, fun j p hj => ?_⟩
    rw [List.getElem?_map] at hj
    have hjl : j < len := by
      rcases Nat.lt_or_ge j len with h' | h'
      · exact h'
      · rw [List.getElem?_eq_none (by simp; omega)] at hj; cases hj
    rw [List.getElem?_range hjl] at hj
    simp at hj
    subst hj
    obtain ⟨h1, h2, h3, h4⟩ := hf j (by omega)
    exact ⟨h1, a, rfl, h2, h3, h4⟩
end
end Go.Proofs.Ytnoolpgklenhaaa
