/-
  Package route's map and the statement's own: their keys.
-/
import Derived.Test.YtblhijgjidfioaaProg
import Derived.Test.YtblhijgjidfioaaMk
import Derived.DeepKeys4
namespace Go.Proofs.Ytblhijgjidfioaa
open Go.RowKit Go.Maps Go.WideMaps

theorem st_laidOut : laidOutB Try.prog = true := by kernel_rfl
/-- a prefix -/
structure Pk where
  a : Nat
  n : Int
deriving DecidableEq
/-- a prefix, and a neighbour -/
structure Rk where
  a : Nat
  n : Int
  fr : Int
deriving DecidableEq
def Pk.ok (p : Pk) : Prop := p.a < 4294967296 ∧ -9223372036854775808 ≤ p.n ∧ p.n ≤ 9223372036854775807
def Rk.ok (p : Rk) : Prop := p.a < 4294967296 ∧ (-9223372036854775808 ≤ p.n ∧ p.n ≤ 9223372036854775807) ∧ (-9223372036854775808 ≤ p.fr ∧ p.fr ≤ 9223372036854775807)
def Pk.enc (p : Pk) : Value := .agg #[.int .u32 p.a, .int .i64 p.n]
def Rk.enc (p : Rk) : Value := .agg #[.int .u32 p.a, .int .i64 p.n, .int .i64 p.fr]
def Pk.lit (p : Pk) : Lit := .string (keyBytes [.int .u32 p.a, .int .i64 p.n])
def Rk.lit (p : Rk) : Lit := .string (keyBytes [.int .u32 p.a, .int .i64 p.n, .int .i64 p.fr])

theorem pk_key : Try.prog.keyType 32 = true := by kernel_rfl
theorem cells_u32 : Try.prog.cellsOf 24 = 1 := by kernel_rfl
theorem cells_pre : Try.prog.cellsOf 32 = 2 := by kernel_rfl
theorem cells_int : Try.prog.cellsOf 3 = 1 := by kernel_rfl
theorem wf_u32 {n : Nat} (h : n < 4294967296) : (Lit.int .u32 (n : Int)).wf = true := by
  have h1 : IntKind.u32.min = 0 := rfl
  have h2 : IntKind.u32.max = 4294967295 := rfl
  simp only [Lit.wf, Bool.and_eq_true, decide_eq_true_eq]
  omega
theorem wf_i64 {z : Int} (h1 : -9223372036854775808 ≤ z) (h2 : z ≤ 9223372036854775807) : (Lit.int .i64 z).wf = true := by
  have e1 : IntKind.i64.min = -9223372036854775808 := rfl
  have e2 : IntKind.i64.max = 9223372036854775807 := rfl
  simp only [Lit.wf, Bool.and_eq_true, decide_eq_true_eq]
  omega
theorem of_u32 {z : Int} (h : (Lit.int .u32 z).wf = true) : ∃ n : Nat, z = n ∧ n < 4294967296 := by
  have h1 : IntKind.u32.min = 0 := rfl
  have h2 : IntKind.u32.max = 4294967295 := rfl
  simp only [Lit.wf, Bool.and_eq_true, decide_eq_true_eq] at h
  exact ⟨z.toNat, by omega, by omega⟩
theorem of_i64 {z : Int} (h : (Lit.int .i64 z).wf = true) : -9223372036854775808 ≤ z ∧ z ≤ 9223372036854775807 := by
  have e1 : IntKind.i64.min = -9223372036854775808 := rfl
  have e2 : IntKind.i64.max = 9223372036854775807 := rfl
  simp only [Lit.wf, Bool.and_eq_true, decide_eq_true_eq] at h
  omega

theorem lits_int {P : Program} {t : TypeId} {q : IntKind} (ht : P.underlying t = some (.int q)) (d : Nat) (c : Value) (ls : List Lit) : P.keyLits (d + 1) t [c] = some ls ↔ ∃ z, c = .int q z ∧ (Lit.int q z).wf = true ∧ ls = [.int q z] := by
  unfold Program.keyLits
  rw [ht]
  constructor
  · intro h
    cases c with
    | int q' z =>
      simp only at h
      split at h
      · rename_i hc
        obtain ⟨rfl, hw⟩ := hc
        simp only [Option.some.injEq] at h
        exact ⟨z, rfl, hw, h.symm⟩
      · cases h
    | _ => simp at h
  · rintro ⟨z, rfl, hw, rfl⟩
    simp [hw]
theorem list2 {α : Type} {l : List α} (h : l.length = 2) : ∃ a b, l = [a, b] := by
  match l, h with
  | [a, b], _ => exact ⟨a, b, rfl⟩
theorem list3 {α : Type} {l : List α} (h : l.length = 3) : ∃ a b c, l = [a, b, c] := by
  match l, h with
  | [a, b, c], _ => exact ⟨a, b, c, rfl⟩
set_option maxRecDepth 100000 in
theorem lits_pre (d : Nat) (cs : List Value) (ls : List Lit) : Try.prog.keyLits (d + 2) 32 cs = some ls ↔ ∃ p : Pk, p.ok ∧ cs = [.int .u32 p.a, .int .i64 p.n] ∧ ls = [.int .u32 p.a, .int .i64 p.n] := by
  constructor
  · intro h
    unfold Program.keyLits at h
    rw [Try.underlying32] at h
    simp only [cells_pre] at h
    split at h
    case isFalse => cases h
    rename_i hc
    obtain ⟨c0, c1, rfl⟩ := list2 hc.1
    simp [cells_u32, cells_int, Option.bind_eq_some_iff] at h
    obtain ⟨l0, h0, _, ⟨l1, h1, rfl⟩, rfl⟩ := h
    obtain ⟨z0, rfl, w0, rfl⟩ := (lits_int Try.underlying24 d c0 l0).1 h0
    obtain ⟨z1, rfl, w1, rfl⟩ := (lits_int Try.underlying3 d c1 l1).1 h1
    obtain ⟨a, rfl, ha⟩ := of_u32 w0
    exact ⟨⟨a, z1⟩, ⟨ha, of_i64 w1⟩, rfl, rfl⟩
  · rintro ⟨p, ⟨h1, h2, h3⟩, rfl, rfl⟩
    unfold Program.keyLits
    rw [Try.underlying32]
    simp [cells_pre, cells_u32, cells_int, (lits_int Try.underlying24 d _ _).2 ⟨_, rfl, wf_u32 h1, rfl⟩, (lits_int Try.underlying3 d _ _).2 ⟨_, rfl, wf_i64 h2 h3, rfl⟩]
theorem types_many : ∃ d, Try.prog.types.size + 1 = d + 3 := by
  have h : 2 ≤ Try.prog.types.size := of_decide_eq_true (by kernel_rfl)
  exact ⟨Try.prog.types.size - 2, by omega⟩
theorem pk_of (v : Value) (l : Lit) : keyOf Try.prog 32 v = some l ↔ ∃ p : Pk, p.ok ∧ v = p.enc ∧ l = p.lit := by
  obtain ⟨d, hd⟩ := types_many
  unfold keyOf
  rw [Try.underlying32, pk_key, hd]
  simp only [Bool.true_and]
  constructor
  · intro h
    split at h
    case isFalse => cases h
    rename_i hf
    cases e : Try.prog.keyLits (d + 3) 32 v.cells.toList with
    | none => rw [e] at h; cases h
    | some ls =>
      rw [e] at h
      obtain ⟨p, hp, hc, rfl⟩ := (lits_pre (d + 1) _ _).1 e
      simp only [Option.map_some, Option.some.injEq] at h
      cases v with
      | agg cs =>
        refine ⟨p, hp, ?_, h.symm⟩
        have e2 : cs.toList = [.int .u32 p.a, .int .i64 p.n] := by simpa [Value.cells] using hc
        unfold Pk.enc
        have e3 : cs = #[.int .u32 p.a, .int .i64 p.n] := Array.toList_inj.1 e2
        rw [e3]
      | _ => simp [Value.formed, Try.underlying32] at hf
  · rintro ⟨p, hp, rfl, rfl⟩
    have hf : (Pk.enc p).formed Try.prog 32 = true := by simp [Value.formed, Pk.enc, Try.underlying32, cells_pre]
    have hl : Try.prog.keyLits (d + 3) 32 p.enc.cells.toList = some [.int .u32 p.a, .int .i64 p.n] := (lits_pre (d + 1) _ _).2 ⟨p, hp, rfl, rfl⟩
    rw [hf, hl]
    rfl
theorem pk_law : Keyed Try.prog 32 := Keyed.of_law (deep_law_laid st_laidOut (m := 5) (by omega) (of_decide_eq_true (by kernel_rfl)) (by kernel_rfl) (by rw [Try.underlying32]))
def pkE : Ke Try.prog 32 Pk where
  enc := Pk.enc
  lit := Pk.lit
  ok := Pk.ok
  law := pk_law
  made x h := (pk_of _ _).2 ⟨x, h, rfl, rfl⟩
  inv v l h := (pk_of v l).1 h
  inj x y hx hy h := by
    have e := pk_law.inj ((pk_of _ _).2 ⟨x, hx, rfl, rfl⟩) (h ▸ (pk_of _ _).2 ⟨y, hy, rfl, rfl⟩)
    cases x
    cases y
    simp [Pk.enc] at e
    obtain ⟨e1, rfl⟩ := e
    rw [Int.ofNat_inj.1 e1]
theorem cells_key1 : Try.prog.cellsOf 77 = 3 := by kernel_rfl
theorem ky_key1 : Try.prog.keyType 77 = true := by kernel_rfl
set_option maxRecDepth 100000 in
theorem lits_key1 (d : Nat) (cs : List Value) (ls : List Lit) : Try.prog.keyLits (d + 3) 77 cs = some ls ↔ ∃ p : Rk, p.ok ∧ cs = [.int .u32 p.a, .int .i64 p.n, .int .i64 p.fr] ∧ ls = [.int .u32 p.a, .int .i64 p.n, .int .i64 p.fr] := by
  constructor
  · intro h
    unfold Program.keyLits at h
    rw [Try.underlying77] at h
    simp only [cells_key1] at h
    split at h
    case isFalse => cases h
    rename_i hc
    obtain ⟨c0, c1, c2, rfl⟩ := list3 hc.1
    simp [cells_int, cells_pre, Option.bind_eq_some_iff] at h
    obtain ⟨l0, h0, _, ⟨l1, h1, rfl⟩, rfl⟩ := h
    obtain ⟨p, hp, e0, rfl⟩ := (lits_pre d _ l0).1 h0
    obtain ⟨z1, rfl, w1, rfl⟩ := (lits_int Try.underlying3 (d + 1) c2 l1).1 h1
    simp only [List.cons.injEq, and_true] at e0
    obtain ⟨rfl, rfl⟩ := e0
    exact ⟨⟨p.a, p.n, z1⟩, ⟨hp.1, hp.2, of_i64 w1⟩, rfl, rfl⟩
  · rintro ⟨p, ⟨h1, h2, h3, h4⟩, rfl, rfl⟩
    unfold Program.keyLits
    rw [Try.underlying77]
    simp [cells_key1, cells_int, cells_pre, (lits_pre d _ _).2 ⟨⟨p.a, p.n⟩, ⟨h1, h2⟩, rfl, rfl⟩, (lits_int Try.underlying3 (d + 1) _ _).2 ⟨_, rfl, wf_i64 h3 h4, rfl⟩]

theorem ky_of1 (v : Value) (l : Lit) : keyOf Try.prog 77 v = some l ↔ ∃ p : Rk, p.ok ∧ v = p.enc ∧ l = p.lit := by
  obtain ⟨d, hd⟩ := types_many
  unfold keyOf
  rw [Try.underlying77, ky_key1, hd]
  simp only [Bool.true_and]
  constructor
  · intro h
    split at h
    case isFalse => cases h
    rename_i hf
    cases e : Try.prog.keyLits (d + 3) 77 v.cells.toList with
    | none => rw [e] at h; cases h
    | some ls =>
      rw [e] at h
      obtain ⟨p, hp, hc, rfl⟩ := (lits_key1 d _ _).1 e
      simp only [Option.map_some, Option.some.injEq] at h
      cases v with
      | agg cs =>
        refine ⟨p, hp, ?_, h.symm⟩
        have e2 : cs.toList = [.int .u32 p.a, .int .i64 p.n, .int .i64 p.fr] := by simpa [Value.cells] using hc
        unfold Rk.enc
        have e3 : cs = #[.int .u32 p.a, .int .i64 p.n, .int .i64 p.fr] := Array.toList_inj.1 e2
        rw [e3]
      | _ => simp [Value.formed, Try.underlying77] at hf
  · rintro ⟨p, hp, rfl, rfl⟩
    have hf : (Rk.enc p).formed Try.prog 77 = true := by simp [Value.formed, Rk.enc, Try.underlying77, cells_key1]
    have hl : Try.prog.keyLits (d + 3) 77 p.enc.cells.toList = some [.int .u32 p.a, .int .i64 p.n, .int .i64 p.fr] := (lits_key1 d _ _).2 ⟨p, hp, rfl, rfl⟩
    rw [hf, hl]
    rfl

theorem ky_law1 : Keyed Try.prog 77 := Keyed.of_law (deep_law_laid st_laidOut (m := 5) (by omega) (of_decide_eq_true (by kernel_rfl)) (by kernel_rfl) (by rw [Try.underlying77]))
def rkE : Ke Try.prog 77 Rk where
  enc := Rk.enc
  lit := Rk.lit
  ok := Rk.ok
  law := ky_law1
  made x h := (ky_of1 _ _).2 ⟨x, h, rfl, rfl⟩
  inv v l h := (ky_of1 v l).1 h
  inj x y hx hy h := by
    have e := ky_law1.inj ((ky_of1 _ _).2 ⟨x, hx, rfl, rfl⟩) (h ▸ (ky_of1 _ _).2 ⟨y, hy, rfl, rfl⟩)
    cases x
    cases y
    simp [Rk.enc] at e
    obtain ⟨e1, rfl, rfl⟩ := e
    rw [Int.ofNat_inj.1 e1]
theorem cells_key2 : Try.prog.cellsOf 41 = 3 := by kernel_rfl
theorem ky_key2 : Try.prog.keyType 41 = true := by kernel_rfl
set_option maxRecDepth 100000 in
theorem lits_key2 (d : Nat) (cs : List Value) (ls : List Lit) : Try.prog.keyLits (d + 3) 41 cs = some ls ↔ ∃ p : Rk, p.ok ∧ cs = [.int .u32 p.a, .int .i64 p.n, .int .i64 p.fr] ∧ ls = [.int .u32 p.a, .int .i64 p.n, .int .i64 p.fr] := by
  constructor
  · intro h
    unfold Program.keyLits at h
    rw [Try.underlying41] at h
    simp only [cells_key2] at h
    split at h
    case isFalse => cases h
    rename_i hc
    obtain ⟨c0, c1, c2, rfl⟩ := list3 hc.1
    simp [cells_int, cells_pre, Option.bind_eq_some_iff] at h
    obtain ⟨l0, h0, _, ⟨l1, h1, rfl⟩, rfl⟩ := h
    obtain ⟨p, hp, e0, rfl⟩ := (lits_pre d _ l0).1 h0
    obtain ⟨z1, rfl, w1, rfl⟩ := (lits_int Try.underlying3 (d + 1) c2 l1).1 h1
    simp only [List.cons.injEq, and_true] at e0
    obtain ⟨rfl, rfl⟩ := e0
    exact ⟨⟨p.a, p.n, z1⟩, ⟨hp.1, hp.2, of_i64 w1⟩, rfl, rfl⟩
  · rintro ⟨p, ⟨h1, h2, h3, h4⟩, rfl, rfl⟩
    unfold Program.keyLits
    rw [Try.underlying41]
    simp [cells_key2, cells_int, cells_pre, (lits_pre d _ _).2 ⟨⟨p.a, p.n⟩, ⟨h1, h2⟩, rfl, rfl⟩, (lits_int Try.underlying3 (d + 1) _ _).2 ⟨_, rfl, wf_i64 h3 h4, rfl⟩]

theorem ky_of2 (v : Value) (l : Lit) : keyOf Try.prog 41 v = some l ↔ ∃ p : Rk, p.ok ∧ v = p.enc ∧ l = p.lit := by
  obtain ⟨d, hd⟩ := types_many
  unfold keyOf
  rw [Try.underlying41, ky_key2, hd]
  simp only [Bool.true_and]
  constructor
  · intro h
    split at h
    case isFalse => cases h
    rename_i hf
    cases e : Try.prog.keyLits (d + 3) 41 v.cells.toList with
    | none => rw [e] at h; cases h
    | some ls =>
      rw [e] at h
      obtain ⟨p, hp, hc, rfl⟩ := (lits_key2 d _ _).1 e
      simp only [Option.map_some, Option.some.injEq] at h
      cases v with
      | agg cs =>
        refine ⟨p, hp, ?_, h.symm⟩
        have e2 : cs.toList = [.int .u32 p.a, .int .i64 p.n, .int .i64 p.fr] := by simpa [Value.cells] using hc
        unfold Rk.enc
        have e3 : cs = #[.int .u32 p.a, .int .i64 p.n, .int .i64 p.fr] := Array.toList_inj.1 e2
        rw [e3]
      | _ => simp [Value.formed, Try.underlying41] at hf
  · rintro ⟨p, hp, rfl, rfl⟩
    have hf : (Rk.enc p).formed Try.prog 41 = true := by simp [Value.formed, Rk.enc, Try.underlying41, cells_key2]
    have hl : Try.prog.keyLits (d + 3) 41 p.enc.cells.toList = some [.int .u32 p.a, .int .i64 p.n, .int .i64 p.fr] := (lits_key2 d _ _).2 ⟨p, hp, rfl, rfl⟩
    rw [hf, hl]
    rfl

theorem ky_law2 : Keyed Try.prog 41 := Keyed.of_law (deep_law_laid st_laidOut (m := 5) (by omega) (of_decide_eq_true (by kernel_rfl)) (by kernel_rfl) (by rw [Try.underlying41]))
def lkE : Ke Try.prog 41 Rk where
  enc := Rk.enc
  lit := Rk.lit
  ok := Rk.ok
  law := ky_law2
  made x h := (ky_of2 _ _).2 ⟨x, h, rfl, rfl⟩
  inv v l h := (ky_of2 v l).1 h
  inj x y hx hy h := by
    have e := ky_law2.inj ((ky_of2 _ _).2 ⟨x, hx, rfl, rfl⟩) (h ▸ (ky_of2 _ _).2 ⟨y, hy, rfl, rfl⟩)
    cases x
    cases y
    simp [Rk.enc] at e
    obtain ⟨e1, rfl, rfl⟩ := e
    rw [Int.ofNat_inj.1 e1]
end Go.Proofs.Ytblhijgjidfioaa
