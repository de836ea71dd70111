/-
  Package state's maps: their keys.
-/
import Derived.Test.YtncliolkdkofhaaProg
import Derived.Test.YtncliolkdkofhaaMk
import Derived.DeepKeys4
namespace Go.Proofs.Ytncliolkdkofhaa
open Go.RowKit Go.Maps Go.WideMaps

theorem st_laidOut : laidOutB Try.prog = true := by kernel_rfl
/-- a prefix -/
structure Pk where
  a : Nat
  n : Int
deriving DecidableEq
/-- a prefix, and a router -/
structure Ky where
  a : Nat
  n : Int
  id : Nat
deriving DecidableEq
def Pk.ok (p : Pk) : Prop := p.a < 4294967296 ∧ -9223372036854775808 ≤ p.n ∧ p.n ≤ 9223372036854775807
def Ky.ok (p : Ky) : Prop := p.a < 4294967296 ∧ (-9223372036854775808 ≤ p.n ∧ p.n ≤ 9223372036854775807) ∧ p.id < 4294967296
def Pk.enc (p : Pk) : Value := .agg #[.int .u32 p.a, .int .i64 p.n]
def Ky.enc (p : Ky) : Value := .agg #[.int .u32 p.a, .int .i64 p.n, .int .u32 p.id]
def Pk.lit (p : Pk) : Lit := .string (keyBytes [.int .u32 p.a, .int .i64 p.n])
def Ky.lit (p : Ky) : Lit := .string (keyBytes [.int .u32 p.a, .int .i64 p.n, .int .u32 p.id])

theorem pk_key : Try.prog.keyType 32 = true := by kernel_rfl
theorem ky_key : Try.prog.keyType 45 = true := by kernel_rfl
theorem cells_u32 : Try.prog.cellsOf 22 = 1 := by kernel_rfl
theorem cells_pre : Try.prog.cellsOf 32 = 2 := by kernel_rfl
theorem cells_key : Try.prog.cellsOf 45 = 3 := by kernel_rfl
theorem cells_int : Try.prog.cellsOf 3 = 1 := by kernel_rfl
theorem wf_u32 {n : Nat} (h : n < 4294967296) : (Lit.int .u32 (n : Int)).wf = true := by
  have h1 : IntKind.u32.min = 0 := rfl
  have h2 : IntKind.u32.max = 4294967295 := rfl
  simp only [Lit.wf, Bool.and_eq_true, decide_eq_true_eq]
  omega
theorem wf_i64 {z : Int} (h1 : -9223372036854775808 ≤ z) (h2 : z ≤ 9223372036854775807) : (Lit.int .i64 z).wf = true := by
  have e1 : IntKind.i64.min = -9223372036854775808 := rfl
  have e2 : IntKind.i64.max = 9223372036854775807 := rfl
  simp only [Lit.wf, Bool.and_eq_true, decide_eq_true_eq]
  omega
theorem of_u32 {z : Int} (h : (Lit.int .u32 z).wf = true) : ∃ n : Nat, z = n ∧ n < 4294967296 := by
  have h1 : IntKind.u32.min = 0 := rfl
  have h2 : IntKind.u32.max = 4294967295 := rfl
  simp only [Lit.wf, Bool.and_eq_true, decide_eq_true_eq] at h
  exact ⟨z.toNat, by omega, by omega⟩
theorem of_i64 {z : Int} (h : (Lit.int .i64 z).wf = true) : -9223372036854775808 ≤ z ∧ z ≤ 9223372036854775807 := by
  have e1 : IntKind.i64.min = -9223372036854775808 := rfl
  have e2 : IntKind.i64.max = 9223372036854775807 := rfl
  simp only [Lit.wf, Bool.and_eq_true, decide_eq_true_eq] at h
  omega

theorem lits_int {P : Program} {t : TypeId} {q : IntKind} (ht : P.underlying t = some (.int q)) (d : Nat) (c : Value) (ls : List Lit) : P.keyLits (d + 1) t [c] = some ls ↔ ∃ z, c = .int q z ∧ (Lit.int q z).wf = true ∧ ls = [.int q z] := by
  unfold Program.keyLits
  rw [ht]
  constructor
  · intro h
    cases c with
    | int q' z =>
      simp only at h
      split at h
      · rename_i hc
        obtain ⟨rfl, hw⟩ := hc
        simp only [Option.some.injEq] at h
        exact ⟨z, rfl, hw, h.symm⟩
      · cases h
    | _ => simp at h
  · rintro ⟨z, rfl, hw, rfl⟩
    simp [hw]
theorem list2 {α : Type} {l : List α} (h : l.length = 2) : ∃ a b, l = [a, b] := by
  match l, h with
  | [a, b], _ => exact ⟨a, b, rfl⟩
theorem list3 {α : Type} {l : List α} (h : l.length = 3) : ∃ a b c, l = [a, b, c] := by
  match l, h with
  | [a, b, c], _ => exact ⟨a, b, c, rfl⟩
set_option maxRecDepth 100000 in
theorem lits_pre (d : Nat) (cs : List Value) (ls : List Lit) : Try.prog.keyLits (d + 2) 32 cs = some ls ↔ ∃ p : Pk, p.ok ∧ cs = [.int .u32 p.a, .int .i64 p.n] ∧ ls = [.int .u32 p.a, .int .i64 p.n] := by
  constructor
  · intro h
    unfold Program.keyLits at h
    rw [Try.underlying32] at h
    simp only [cells_pre] at h
    split at h
    case isFalse => cases h
    rename_i hc
    obtain ⟨c0, c1, rfl⟩ := list2 hc.1
    simp [cells_u32, cells_int, Option.bind_eq_some_iff] at h
    obtain ⟨l0, h0, _, ⟨l1, h1, rfl⟩, rfl⟩ := h
    obtain ⟨z0, rfl, w0, rfl⟩ := (lits_int Try.underlying22 d c0 l0).1 h0
    obtain ⟨z1, rfl, w1, rfl⟩ := (lits_int Try.underlying3 d c1 l1).1 h1
    obtain ⟨a, rfl, ha⟩ := of_u32 w0
    exact ⟨⟨a, z1⟩, ⟨ha, of_i64 w1⟩, rfl, rfl⟩
  · rintro ⟨p, ⟨h1, h2, h3⟩, rfl, rfl⟩
    unfold Program.keyLits
    rw [Try.underlying32]
    simp [cells_pre, cells_u32, cells_int, (lits_int Try.underlying22 d _ _).2 ⟨_, rfl, wf_u32 h1, rfl⟩, (lits_int Try.underlying3 d _ _).2 ⟨_, rfl, wf_i64 h2 h3, rfl⟩]
set_option maxRecDepth 100000 in
theorem lits_key (d : Nat) (cs : List Value) (ls : List Lit) : Try.prog.keyLits (d + 3) 45 cs = some ls ↔ ∃ p : Ky, p.ok ∧ cs = [.int .u32 p.a, .int .i64 p.n, .int .u32 p.id] ∧ ls = [.int .u32 p.a, .int .i64 p.n, .int .u32 p.id] := by
  constructor
  · intro h
    unfold Program.keyLits at h
    rw [Try.underlying45] at h
    simp only [cells_key] at h
    split at h
    case isFalse => cases h
    rename_i hc
    obtain ⟨c0, c1, c2, rfl⟩ := list3 hc.1
    simp [cells_u32, cells_pre, Option.bind_eq_some_iff] at h
    obtain ⟨l0, h0, _, ⟨l1, h1, rfl⟩, rfl⟩ := h
    obtain ⟨p, hp, e0, rfl⟩ := (lits_pre d _ l0).1 h0
    obtain ⟨z1, rfl, w1, rfl⟩ := (lits_int Try.underlying22 (d + 1) c2 l1).1 h1
    obtain ⟨a, rfl, ha⟩ := of_u32 w1
    simp only [List.cons.injEq, and_true] at e0
    obtain ⟨rfl, rfl⟩ := e0
    exact ⟨⟨p.a, p.n, a⟩, ⟨hp.1, hp.2, ha⟩, rfl, rfl⟩
  · rintro ⟨p, ⟨h1, h2, h3⟩, rfl, rfl⟩
    unfold Program.keyLits
    rw [Try.underlying45]
    simp [cells_key, cells_u32, cells_pre, (lits_pre d _ _).2 ⟨⟨p.a, p.n⟩, ⟨h1, h2⟩, rfl, rfl⟩, (lits_int Try.underlying22 (d + 1) _ _).2 ⟨_, rfl, wf_u32 h3, rfl⟩]

theorem types_many : ∃ d, Try.prog.types.size + 1 = d + 3 := by
  have h : 2 ≤ Try.prog.types.size := of_decide_eq_true (by kernel_rfl)
  exact ⟨Try.prog.types.size - 2, by omega⟩
theorem pk_of (v : Value) (l : Lit) : keyOf Try.prog 32 v = some l ↔ ∃ p : Pk, p.ok ∧ v = p.enc ∧ l = p.lit := by
  obtain ⟨d, hd⟩ := types_many
  unfold keyOf
  rw [Try.underlying32, pk_key, hd]
  simp only [Bool.true_and]
  constructor
  · intro h
    split at h
    case isFalse => cases h
    rename_i hf
    cases e : Try.prog.keyLits (d + 3) 32 v.cells.toList with
    | none => rw [e] at h; cases h
    | some ls =>
      rw [e] at h
      obtain ⟨p, hp, hc, rfl⟩ := (lits_pre (d + 1) _ _).1 e
      simp only [Option.map_some, Option.some.injEq] at h
      cases v with
      | agg cs =>
        refine ⟨p, hp, ?_, h.symm⟩
        have e2 : cs.toList = [.int .u32 p.a, .int .i64 p.n] := by simpa [Value.cells] using hc
        unfold Pk.enc
        have e3 : cs = #[.int .u32 p.a, .int .i64 p.n] := Array.toList_inj.1 e2
        rw [e3]
      | _ => simp [Value.formed, Try.underlying32] at hf
  · rintro ⟨p, hp, rfl, rfl⟩
    have hf : (Pk.enc p).formed Try.prog 32 = true := by simp [Value.formed, Pk.enc, Try.underlying32, cells_pre]
    have hl : Try.prog.keyLits (d + 3) 32 p.enc.cells.toList = some [.int .u32 p.a, .int .i64 p.n] := (lits_pre (d + 1) _ _).2 ⟨p, hp, rfl, rfl⟩
    rw [hf, hl]
    rfl
theorem ky_of (v : Value) (l : Lit) : keyOf Try.prog 45 v = some l ↔ ∃ p : Ky, p.ok ∧ v = p.enc ∧ l = p.lit := by
  obtain ⟨d, hd⟩ := types_many
  unfold keyOf
  rw [Try.underlying45, ky_key, hd]
  simp only [Bool.true_and]
  constructor
  · intro h
    split at h
    case isFalse => cases h
    rename_i hf
    cases e : Try.prog.keyLits (d + 3) 45 v.cells.toList with
    | none => rw [e] at h; cases h
    | some ls =>
      rw [e] at h
      obtain ⟨p, hp, hc, rfl⟩ := (lits_key d _ _).1 e
      simp only [Option.map_some, Option.some.injEq] at h
      cases v with
      | agg cs =>
        refine ⟨p, hp, ?_, h.symm⟩
        have e2 : cs.toList = [.int .u32 p.a, .int .i64 p.n, .int .u32 p.id] := by simpa [Value.cells] using hc
        unfold Ky.enc
        have e3 : cs = #[.int .u32 p.a, .int .i64 p.n, .int .u32 p.id] := Array.toList_inj.1 e2
        rw [e3]
      | _ => simp [Value.formed, Try.underlying45] at hf
  · rintro ⟨p, hp, rfl, rfl⟩
    have hf : (Ky.enc p).formed Try.prog 45 = true := by simp [Value.formed, Ky.enc, Try.underlying45, cells_key]
    have hl : Try.prog.keyLits (d + 3) 45 p.enc.cells.toList = some [.int .u32 p.a, .int .i64 p.n, .int .u32 p.id] := (lits_key d _ _).2 ⟨p, hp, rfl, rfl⟩
    rw [hf, hl]
    rfl

theorem pk_law : Keyed Try.prog 32 := Keyed.of_law (deep_law_laid st_laidOut (m := 5) (by omega) (of_decide_eq_true (by kernel_rfl)) (by kernel_rfl) (by rw [Try.underlying32]))
theorem ky_law : Keyed Try.prog 45 := Keyed.of_law (deep_law_laid st_laidOut (m := 5) (by omega) (of_decide_eq_true (by kernel_rfl)) (by kernel_rfl) (by rw [Try.underlying45]))
def pkE : Ke Try.prog 32 Pk where
  enc := Pk.enc
  lit := Pk.lit
  ok := Pk.ok
  law := pk_law
  made x h := (pk_of _ _).2 ⟨x, h, rfl, rfl⟩
  inv v l h := (pk_of v l).1 h
  inj x y hx hy h := by
    have e := pk_law.inj ((pk_of _ _).2 ⟨x, hx, rfl, rfl⟩) (h ▸ (pk_of _ _).2 ⟨y, hy, rfl, rfl⟩)
    cases x
    cases y
    simp [Pk.enc] at e
    obtain ⟨e1, rfl⟩ := e
    rw [Int.ofNat_inj.1 e1]
def kyE : Ke Try.prog 45 Ky where
  enc := Ky.enc
  lit := Ky.lit
  ok := Ky.ok
  law := ky_law
  made x h := (ky_of _ _).2 ⟨x, h, rfl, rfl⟩
  inv v l h := (ky_of v l).1 h
  inj x y hx hy h := by
    have e := ky_law.inj ((ky_of _ _).2 ⟨x, hx, rfl, rfl⟩) (h ▸ (ky_of _ _).2 ⟨y, hy, rfl, rfl⟩)
    cases x
    cases y
    simp [Ky.enc] at e
    obtain ⟨e1, rfl, e2⟩ := e
    rw [Int.ofNat_inj.1 e1, Int.ofNat_inj.1 e2]
end Go.Proofs.Ytncliolkdkofhaa
