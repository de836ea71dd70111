/-
  Plain mathematics of records: which can be written, and the bytes of a sector. No program in sight.
-/
import Derived.Test.YtbjminjcccflcaaAddrM
import Derived.Test.YtbjminjcccflcaaCrc
namespace Go.Proofs.Ytbjminjcccflcaa.Rm

/-- a record -/
structure Rc where
  kind : Int
  gen : Nat
  lsn : Nat
  id : Nat
  a : Nat
  len : Int
  on : Bool
  seq : Nat
  met : Nat
deriving DecidableEq
structure Rc.Fits (r : Rc) : Prop where
  k1 : -9223372036854775808 ≤ r.kind
  k2 : r.kind ≤ 9223372036854775807
  gen : r.gen < 4294967296
  lsn : r.lsn < 4294967296
  id : r.id < 4294967296
  a : r.a < 4294967296
  n1 : -9223372036854775808 ≤ r.len
  n2 : r.len ≤ 9223372036854775807
  seq : r.seq < 4294967296
  met : r.met < 65536
def zero : Rc := ⟨0, 0, 0, 0, 0, 0, false, 0, 0⟩
theorem zero_fits : zero.Fits := by constructor <;> decide

/-- without what its kind hasn't -/
def pared (r : Rc) : Rc :=
  if r.kind = 1 then ⟨r.kind, r.gen, r.lsn, r.id, 0, 0, false, 0, 0⟩
  else if r.kind = 2 then ⟨r.kind, r.gen, r.lsn, 0, r.a, r.len, r.on, 0, 0⟩
  else if r.kind = 3 then ⟨r.kind, r.gen, r.lsn, 0, 0, 0, false, r.seq, 0⟩
  else if r.kind = 4 then ⟨r.kind, r.gen, r.lsn, r.id, r.a, r.len, false, r.seq, r.met⟩
  else ⟨r.kind, r.gen, r.lsn, 0, 0, 0, false, 0, 0⟩
def named (k : Int) : Bool := k == 1 || k == 4
/-- can it be written? -/
def right (r : Rc) : Bool :=
  decide (1 ≤ r.kind) && decide (r.kind ≤ 4) && decide (r = pared r) && (r.id != 0 || !named r.kind) && Am.right r.a r.len && decide (r.seq ≤ 1073741824) && !(r.met == 65535)

/-- the second way to say it -/
def right2 (r : Rc) : Bool :=
  if !Am.right r.a r.len || decide (1073741824 < r.seq) || r.met == 65535 then false
  else if r.kind = 1 then decide (0 < r.id) && (r.a == 0 && r.len == 0) && !r.on && (r.seq == 0 && r.met == 0)
  else if r.kind = 2 then r.id == 0 && (r.seq == 0 && r.met == 0)
  else if r.kind = 3 then r.id == 0 && (r.a == 0 && r.len == 0) && !r.on && r.met == 0
  else if r.kind = 4 then decide (0 < r.id) && !r.on
  else false
theorem right_two (r : Rc) : right2 r = right r := by
  obtain ⟨k, g, l, i, a, n, o, s, m⟩ := r
  unfold right right2
  by_cases hA : Am.right a n = true
  · by_cases hs : 1073741824 < s
    · simp [hs, show ¬ s ≤ 1073741824 by omega]
    · by_cases hm : m = 65535
      · simp [hm]
      · have hs' : s ≤ 1073741824 := by omega
        by_cases h1 : k = 1
        · subst h1; simp [hA, hs, hm, pared, named, hs']; cases o <;> simp <;> grind
        by_cases h2 : k = 2
        · subst h2; simp [hA, hs, hm, pared, named, hs']; grind
        by_cases h3 : k = 3
        · subst h3; simp [hA, hs, hm, pared, named, hs']; cases o <;> simp <;> grind
        by_cases h4 : k = 4
        · subst h4; simp [hA, hs, hm, pared, named, hs']; cases o <;> simp <;> grind
        · have : ¬ (1 ≤ k ∧ k ≤ 4) := by omega
          simp [h1, h2, h3, h4, hA, hs, hm]
          intro h5 h6
          omega
  · simp [hA]

/-! ### the sector -/
def four (n : Nat) : List Nat := [n / 16777216 % 256, n / 65536 % 256, n / 256 % 256, n % 256]
def two (n : Nat) : List Nat := [n / 256 % 256, n % 256]
def low (z : Int) : Nat := (z % 256).toNat
/-- all but the sum -/
def body (r : Rc) : List Nat :=
  [low r.kind, if r.on then 1 else 0] ++ two r.met ++ four r.gen ++ four r.lsn ++ four r.id ++ four r.a ++ [low r.len, 0, 0, 0] ++ four r.seq ++ [0, 0, 0, 0, 0, 0, 0, 0, 0, 0, 0, 0, 0, 0, 0, 0]
def bytes (r : Rc) : List Nat := body r ++ four (Crc.all (body r))
theorem low_lt (z : Int) : low z < 256 := by unfold low; omega
theorem four_lt (n : Nat) : ∀ c ∈ four n, c < 256 := by
  intro c hc
  simp only [four, List.mem_cons, List.not_mem_nil, or_false] at hc
  omega
theorem body_length (r : Rc) : (body r).length = 44 := rfl
theorem bytes_length (r : Rc) : (bytes r).length = 48 := rfl
theorem body_lt (r : Rc) : ∀ c ∈ body r, c < 256 := by
  intro c hc
  have := low_lt r.kind
  have := low_lt r.len
  simp only [body, two, four, List.cons_append, List.nil_append, List.mem_cons, List.not_mem_nil, or_false] at hc
  rcases hc with h | h | h
  · omega
  · split at h <;> omega
  · omega
theorem bytes_lt (r : Rc) : ∀ c ∈ bytes r, c < 256 := by
  intro c hc
  rcases List.mem_append.1 hc with h | h
  · exact body_lt r c h
  · exact four_lt _ c h

/-- the number of four bytes -/
def num4 (b : List Nat) (i : Nat) : Nat := ((b.getD i 0 * 256 + b.getD (i + 1) 0) * 256 + b.getD (i + 2) 0) * 256 + b.getD (i + 3) 0
def num2 (b : List Nat) (i : Nat) : Nat := b.getD i 0 * 256 + b.getD (i + 1) 0
/-- the record that these bytes say, if they say one -/
def parse (b : List Nat) : Rc := ⟨b.getD 0 0, num4 b 4, num4 b 8, num4 b 12, num4 b 16, b.getD 20 0, b.getD 1 0 == 1, num4 b 24, num2 b 2⟩
/-- the record of these bytes -/
def of (b : List Nat) : Option Rc := if b.length = 48 ∧ right (parse b) = true ∧ bytes (parse b) = b then some (parse b) else none

theorem right_kind {r : Rc} (h : right r = true) : 1 ≤ r.kind ∧ r.kind ≤ 4 := by
  simp only [right, Bool.and_eq_true, decide_eq_true_eq] at h
  omega
theorem am_len {a : Nat} {len : Int} (h : Am.right a len = true) : 0 ≤ len ∧ len ≤ 32 := by
  unfold Am.right at h
  simp only [Bool.and_eq_true, decide_eq_true_eq] at h
  exact h.1
theorem right_len {r : Rc} (h : right r = true) : 0 ≤ r.len ∧ r.len ≤ 32 := by
  simp only [right, Bool.and_eq_true, decide_eq_true_eq] at h
  exact am_len h.1.1.2
theorem div4 (n : Nat) (h : n < 4294967296) : ((n / 16777216 % 256 * 256 + n / 65536 % 256) * 256 + n / 256 % 256) * 256 + n % 256 = n := by omega
theorem div2 (n : Nat) (h : n < 65536) : n / 256 % 256 * 256 + n % 256 = n := by omega
theorem parse_bytes {r : Rc} (h : right r = true) (hf : r.Fits) : parse (bytes r) = r := by
  have h1 := right_kind h
  have h2 := right_len h
  obtain ⟨-, -, hg, hl, hi, ha, -, -, hs, hm⟩ := hf
  obtain ⟨k, g, l, i, a, n, o, s, m⟩ := r
  simp only at h1 h2 hg hl hi ha hs hm
  have e1 : ((low k : Nat) : Int) = k := by unfold low; omega
  have e2 : ((low n : Nat) : Int) = n := by unfold low; omega
  have e3 : ((if o = true then 1 else 0 : Nat) == 1) = o := by cases o <;> rfl
  show Rc.mk _ _ _ _ _ _ _ _ _ = _
  simp only [bytes, body, two, four, List.cons_append, List.nil_append, num4, num2, List.getD_cons_zero, List.getD_cons_succ, e1, e2, e3, div4 _ hg, div4 _ hl, div4 _ hi, div4 _ ha, div4 _ hs, div2 _ hm]
theorem of_bytes {r : Rc} (h : right r = true) (hf : r.Fits) : of (bytes r) = some r := by
  unfold of
  rw [parse_bytes h hf, if_pos ⟨bytes_length r, h, rfl⟩]
theorem getD_lt {b : List Nat} (h : ∀ c ∈ b, c < 256) (i : Nat) : b.getD i 0 < 256 := by
  rw [List.getD_eq_getElem?_getD]
  cases e : b[i]? with
  | none => simp
  | some c => simpa using h c (List.mem_of_getElem? e)
theorem num4_lt {b : List Nat} (h : ∀ c ∈ b, c < 256) (i : Nat) : num4 b i < 4294967296 := by
  have g := getD_lt h
  have := g i; have := g (i + 1); have := g (i + 2); have := g (i + 3)
  unfold num4; omega
theorem num2_lt {b : List Nat} (h : ∀ c ∈ b, c < 256) (i : Nat) : num2 b i < 65536 := by
  have g := getD_lt h
  have := g i; have := g (i + 1)
  unfold num2; omega
theorem parse_fits {b : List Nat} (h : ∀ c ∈ b, c < 256) : (parse b).Fits :=
  ⟨by simp only [parse]; omega, by have := getD_lt h 0; simp only [parse]; omega, num4_lt h _, num4_lt h _, num4_lt h _, num4_lt h _,
    by simp only [parse]; omega, by have := getD_lt h 20; simp only [parse]; omega, num4_lt h _, num2_lt h _⟩
end Go.Proofs.Ytbjminjcccflcaa.Rm
