/-
  What comes in: a list of acts, a list of costs.
-/
import Derived.Test.YtblhijgjidfioaaReRow
namespace Go.Proofs.Ytblhijgjidfioaa
open Go.ChangeShapes Go.WideShapes Go.ChangeAt Go.RowKit Go.Joins Go.Deep
set_option maxRecDepth 100000

/-- something that is done -/
structure Ac where
  kind : Int
  p : Pk
  r : Rt
  now : Int
def acl (x : Ac) : List Value := [.int .i64 x.kind, .int .u32 x.p.a, .int .i64 x.p.n, .int .i64 x.r.fr, .int .u32 x.r.id, .int .u32 x.r.seq, .int .u16 x.r.met, .int .i64 x.r.exp, .int .i64 x.now]
structure Ac.Fits (x : Ac) : Prop where
  k : -9223372036854775808 ≤ x.kind ∧ x.kind ≤ 9223372036854775807
  p : x.p.ok
  r : x.r.Fits
  now : -9223372036854775808 ≤ x.now ∧ x.now ≤ 9223372036854775807
theorem cells_act : Try.prog.cellsOf 39 = 9 := by kernel_rfl
theorem cells_rt : Try.prog.cellsOf 37 = 5 := by kernel_rfl
theorem cells_dist : Try.prog.cellsOf 35 = 2 := by kernel_rfl
theorem cells_u16 : Try.prog.cellsOf 33 = 1 := by kernel_rfl
theorem cells_i64 : Try.prog.cellsOf 2 = 1 := by kernel_rfl
theorem of_u16 {z : Int} (h : (Lit.int .u16 z).wf = true) : ∃ n : Nat, z = n ∧ n < 65536 := by
  have h1 : IntKind.u16.min = 0 := rfl
  have h2 : IntKind.u16.max = 65535 := rfl
  simp only [Lit.wf, Bool.and_eq_true, decide_eq_true_eq] at h
  exact ⟨z.toNat, by omega, by omega⟩

section
variable {H : Type} {enc : TypeId × Value → H} {w : World} {base : Nat} {spare : Nat → Bool} {hld : Bool}
theorem trod_dist {fuel : Nat} {c c' : Value} {y : DataW H × List MemPlace} (h : DataW.trod enc Try.prog w base spare hld fuel 35 [c, c'] = some y) :
    ∃ s m : Nat, c = .int .u32 s ∧ c' = .int .u16 m ∧ s < 4294967296 ∧ m < 65536 := by
  cases fuel with
  | zero => simp [DataW.trod] at h
  | succ fuel =>
    simp only [DataW.trod, Try.underlying35, cells_dist] at h
    simp [cells_u32, cells_u16, Option.bind_eq_some_iff] at h
    obtain ⟨_, _, h0, _, ⟨_, _, h1, _⟩, _⟩ := h
    obtain ⟨n0, e0, -, w0⟩ := DataW.trod_int Try.underlying24 h0
    obtain ⟨n1, e1, -, w1⟩ := DataW.trod_int Try.underlying33 h1
    simp only [List.cons.injEq, and_true] at e0 e1
    subst e0 e1
    obtain ⟨s, rfl, hs⟩ := of_u32 w0
    obtain ⟨m, rfl, hm⟩ := of_u16 w1
    exact ⟨s, m, rfl, rfl, hs, hm⟩
theorem trod_rt {fuel : Nat} {a b c d e : Value} {y : DataW H × List MemPlace} (h : DataW.trod enc Try.prog w base spare hld fuel 37 [a, b, c, d, e] = some y) :
    ∃ r : Rt, [a, b, c, d, e] = [.int .i64 r.fr, .int .u32 r.id, .int .u32 r.seq, .int .u16 r.met, .int .i64 r.exp] ∧ r.Fits := by
  cases fuel with
  | zero => simp [DataW.trod] at h
  | succ fuel =>
    simp only [DataW.trod, Try.underlying37, cells_rt] at h
    simp [cells_u32, cells_int, cells_dist, cells_i64, Option.bind_eq_some_iff] at h
    obtain ⟨_, _, h0, _, ⟨_, _, h1, _, ⟨_, _, h2, _, ⟨_, _, h3, _⟩, _⟩, _⟩, _⟩ := h
    obtain ⟨n0, e0, -, w0⟩ := DataW.trod_int Try.underlying3 h0
    obtain ⟨n1, e1, -, w1⟩ := DataW.trod_int Try.underlying24 h1
    obtain ⟨s, m, rfl, rfl, hs, hm⟩ := trod_dist h2
    obtain ⟨n3, e3, -, w3⟩ := DataW.trod_int Try.underlying2 h3
    simp only [List.cons.injEq, and_true] at e0 e1 e3
    subst e0 e1 e3
    obtain ⟨i, rfl, hi⟩ := of_u32 w1
    exact ⟨⟨n0, i, s, m, n3⟩, rfl, row_i64 w0, hi, hs, hm, row_i64 w3⟩
theorem trod_pre2 {fuel : Nat} {c c' : Value} {y : DataW H × List MemPlace} (h : DataW.trod enc Try.prog w base spare hld fuel 32 [c, c'] = some y) :
    ∃ p : Pk, c = .int .u32 p.a ∧ c' = .int .i64 p.n ∧ p.ok := by
  obtain ⟨p, e, hp⟩ := trod_pfx h
  simp [clP] at e
  exact ⟨p, e.1, e.2, hp⟩
theorem trod_act {fuel : Nat} {cs : List Value} {y : DataW H × List MemPlace} (h : DataW.trod enc Try.prog w base spare hld fuel 39 cs = some y) :
    ∃ x : Ac, cs = acl x ∧ x.Fits := by
  cases fuel with
  | zero => simp [DataW.trod] at h
  | succ fuel =>
    simp only [DataW.trod, Try.underlying39, cells_act] at h
    split at h
    case isFalse => cases h
    rename_i hlen
    obtain ⟨c0, c1, c2, c3, c4, c5, c6, c7, c8, rfl⟩ : ∃ a b c d e f g i j, cs = [a, b, c, d, e, f, g, i, j] := by
      match cs, hlen with
      | [a, b, c, d, e, f, g, i, j], _ => exact ⟨a, b, c, d, e, f, g, i, j, rfl⟩
    simp [cells_pre, cells_rt, cells_int, cells_i64, Option.bind_eq_some_iff] at h
    obtain ⟨_, _, h0, _, ⟨_, _, h1, _, ⟨_, _, h2, _, ⟨_, _, h3, _⟩, _⟩, _⟩, _⟩ := h
    obtain ⟨n0, e0, -, w0⟩ := DataW.trod_int Try.underlying3 h0
    obtain ⟨p, rfl, rfl, hp⟩ := trod_pre2 h1
    obtain ⟨r, e2, hr⟩ := trod_rt h2
    obtain ⟨n3, e3, -, w3⟩ := DataW.trod_int Try.underlying2 h3
    simp only [List.cons.injEq, and_true] at e0 e2 e3
    obtain ⟨rfl, rfl, rfl, rfl, rfl⟩ := e2
    subst e0 e3
    exact ⟨⟨n0, p, r, n3⟩, rfl, row_i64 w0, hp, hr, row_i64 w3⟩
end

/-- a list of acts in memory -/
structure InA (w : World) (A : Option Addr) (len cap : Nat) (xs : List Ac) : Prop where
  hl : xs.length = len
  hm : len ≤ maxLen
  hc : len ≤ cap
  hA : 0 < len → ∃ b off, A = some ⟨b, off, none⟩
  hF : ∀ x ∈ xs, x.Fits
  hR : ∀ b off, A = some ⟨b, off, none⟩ → ∀ i (h : i < xs.length) j, j < 9 → w.cell? ⟨b, off + i * 9 + j, none⟩ = (acl xs[i])[j]?
theorem InA.held {w w' : World} {A : Option Addr} {len cap : Nat} {xs : List Ac} (h : InA w A len cap xs) (hb : Below w.heap.size w w') : InA w' A len cap xs :=
  ⟨h.hl, h.hm, h.hc, h.hA, h.hF, fun b off e i hi j hj => by
    have h1 := h.hR b off e i hi j hj
    have hlt : j < (acl xs[i]).length := by simpa [acl] using hj
    rw [List.getElem?_eq_getElem hlt] at h1 ⊢
    exact Go.Proofs.Ytblhijgjidfioaa.held hb h1⟩
section
variable {H : Type} {enc : TypeId × Value → H} {w : World} {base : Nat} {hld : Bool}
theorem open_acts {fuel : Nat} {A : Option Addr} {len cap : Nat} {x : DataW H × List MemPlace} (h : DataW.trod enc Try.prog w base (fun _ => true) hld fuel 22 (Value.slice A len cap).cells.toList = some x) :
    ∃ xs : List Ac, InA w A len cap xs := by
  rcases open_slice Try.underlying22 h with ⟨hcs, -⟩ | ⟨a, len', cap', m, n, D, Pl, hcs, _, hl, hm, hmm, -, hi⟩
  · simp [Value.cells] at hcs
    obtain ⟨rfl, rfl, rfl⟩ := hcs
    exact ⟨[], rfl, by unfold maxLen; omega, by omega, fun h => absurd h (by omega), by simp, fun b off e => by cases e⟩
  · simp [Value.cells] at hcs
    obtain ⟨rfl, rfl, rfl⟩ := hcs
    simp only [if_true] at hmm
    have hp : ∀ i : Nat, ∃ r : Ac, i < m → r.Fits ∧ ∀ j, j < 9 → w.cell? (a.add (i * 9 + j)) = (acl r)[j]? := fun i => by
      by_cases him : i < m
      · obtain ⟨cs', hc, ht⟩ := hi i him
        rw [cells_act] at hc
        obtain ⟨_, hcl, hat⟩ := World.cells?_some hc
        obtain ⟨p, rfl, hfit⟩ := trod_act ht
        refine ⟨p, fun _ => ⟨hfit, fun j hj => ?_⟩⟩
        have h1 := hat j (by simpa [acl] using hj)
        rw [Deep.add_add] at h1
        rw [h1]
      · exact ⟨⟨0, ⟨0, 0⟩, Rt.zero, 0⟩, fun h => absurd h him⟩
    obtain ⟨f, hf⟩ := Classical.axiomOfChoice hp
    refine ⟨(List.range len).map f, by simp, by omega, hl, fun h0 => ?_, fun r hr => ?_, fun b off e i hi' j hj => ?_⟩
    · obtain ⟨b, off, spot⟩ := a
      have h1 := (hf 0 (by omega)).2 0 (by omega)
      have hspot : spot = none := by simpa [Addr.add] using World.cell?_spot (h1.trans rfl)
      exact ⟨b, off, by rw [hspot]⟩
    · obtain ⟨i, hi', rfl⟩ := List.mem_map.1 hr
      exact (hf i (by have := List.mem_range.1 hi'; omega)).1
    · cases e
      have hil : i < len := by simpa using hi'
      simp only [List.getElem_map, List.getElem_range]
      rw [← (hf i (by omega)).2 j hj, show (⟨b, off, none⟩ : Addr).add (i * 9 + j) = ⟨b, off + i * 9 + j, none⟩ by
        rw [Nat.add_assoc]
        generalize i * 9 + j = q
        by_cases hq : q = 0
        · subst hq; rfl
        · simp [Addr.add, hq]]
theorem open_ints {fuel : Nat} {A : Option Addr} {len cap : Nat} {x : DataW H × List MemPlace} (h : DataW.trod enc Try.prog w base (fun _ => true) hld fuel 23 (Value.slice A len cap).cells.toList = some x) :
    ∃ cs : List Int, InI w A len cap cs := by
  rcases open_slice Try.underlying23 h with ⟨hcs, -⟩ | ⟨a, len', cap', m, n, D, Pl, hcs, _, hl, hm, hmm, -, hi⟩
  · simp [Value.cells] at hcs
    obtain ⟨rfl, rfl, rfl⟩ := hcs
    exact ⟨[], rfl, by unfold maxLen; omega, by omega, fun h => absurd h (by omega), by simp, fun b off e => by cases e⟩
  · simp [Value.cells] at hcs
    obtain ⟨rfl, rfl, rfl⟩ := hcs
    simp only [if_true] at hmm
    have hp : ∀ i : Nat, ∃ z : Int, i < m → (-9223372036854775808 ≤ z ∧ z ≤ 9223372036854775807) ∧ w.cell? (a.add i) = some (.int .i64 z) := fun i => by
      by_cases him : i < m
      · obtain ⟨cs', hc, ht⟩ := hi i him
        rw [cells_int, Nat.mul_one] at hc
        obtain ⟨_, hcl, hat⟩ := World.cells?_some hc
        obtain ⟨z, e0, -, w0⟩ := DataW.trod_int Try.underlying3 ht
        refine ⟨z, fun _ => ⟨row_i64 w0, ?_⟩⟩
        have h1 := hat 0 (by decide)
        rw [Deep.add_add, Nat.add_zero, e0] at h1
        simpa using h1
      · exact ⟨0, fun h => absurd h him⟩
    obtain ⟨f, hf⟩ := Classical.axiomOfChoice hp
    refine ⟨(List.range len).map f, by simp, by omega, hl, fun h0 => ?_, fun r hr => ?_, fun b off e i hi' => ?_⟩
    · obtain ⟨b, off, spot⟩ := a
      have h1 := (hf 0 (by omega)).2
      have hspot : spot = none := by simpa [Addr.add] using World.cell?_spot h1
      exact ⟨b, off, by rw [hspot]⟩
    · obtain ⟨i, hi', rfl⟩ := List.mem_map.1 hr
      exact (hf i (by have := List.mem_range.1 hi'; omega)).1
    · cases e
      have hil : i < len := by simpa using hi'
      simp only [List.getElem_map, List.getElem_range]
      rw [← (hf i (by omega)).2, show (⟨b, off, none⟩ : Addr).add i = ⟨b, off + i, none⟩ by
        by_cases hq : i = 0
        · subst hq; rfl
        · simp [Addr.add, hq]]
end
end Go.Proofs.Ytblhijgjidfioaa
