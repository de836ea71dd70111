/-
  Plain mathematics of scripts: what happens as bytes, and back. No program in sight.
-/
import Derived.Test.YtnpocnfmekgieaaAddrM
namespace Go.Proofs.Ytnpocnfmekgieaa.Sc

/-- something that happens -/
structure Ev where
  kind : Int
  i : Int
  k : Int
  n : Int
  a : Nat
  len : Int
  p : List UInt8
deriving DecidableEq
structure Ev.Fits (e : Ev) : Prop where
  kind1 : -9223372036854775808 ≤ e.kind
  kind2 : e.kind ≤ 9223372036854775807
  i1 : -9223372036854775808 ≤ e.i
  i2 : e.i ≤ 9223372036854775807
  k1 : -9223372036854775808 ≤ e.k
  k2 : e.k ≤ 9223372036854775807
  n1 : -9223372036854775808 ≤ e.n
  n2 : e.n ≤ 9223372036854775807
  a : e.a < 4294967296
  len1 : -9223372036854775808 ≤ e.len
  len2 : e.len ≤ 9223372036854775807
def hasI (k : Int) : Bool := decide (0 ≤ k) && decide (k ≤ 6)
def hasK (k : Int) : Bool := k == 3 || k == 7 || k == 8 || k == 9
def hasN (k : Int) : Bool := k == 2 || k == 3 || k == 7
def hasP (k : Int) : Bool := k == 4 || k == 5
def hasS (k : Int) : Bool := k == 1
def small (x : Int) : Bool := decide (0 ≤ x) && decide (x ≤ 65536)
/-- is all zero that the kind hasn't? -/
def bare (e : Ev) : Bool := (hasI e.kind || e.i == 0) && (hasK e.kind || e.k == 0) && (hasN e.kind || e.n == 0) && (hasP e.kind || (e.a == 0 && e.len == 0)) && (hasS e.kind || e.p.isEmpty)
/-- can it be written? -/
def right (e : Ev) : Bool := decide (0 ≤ e.kind) && decide (e.kind ≤ 10) && bare e && small e.i && small e.k && small e.n && Am.right e.a e.len && decide (e.p.length ≤ 240) && decide (e.p.length % 6 = 0)

def val (b : List Nat) : Nat := b.foldl (fun s c => s * 256 + c) 0
def four (n : Nat) : List Nat := [n / 16777216 % 256, n / 65536 % 256, n / 256 % 256, n % 256]
def three (n : Nat) : List Nat := [n / 65536 % 256, n / 256 % 256, n % 256]
def two (n : Nat) : List Nat := [n / 256 % 256, n % 256]
def nats (p : List UInt8) : List Nat := p.map UInt8.toNat
def hd (e : Ev) : List Nat := e.kind.toNat % 256 :: (three e.i.toNat ++ (three e.k.toNat ++ (three e.n.toNat ++ (four e.a ++ [e.len.toNat % 256, e.p.length % 256]))))
def ebytes (e : Ev) : List Nat := hd e ++ nats e.p
def flat (l : List Ev) : List Nat := l.flatMap ebytes
def script (n s : Nat) (l : List Ev) : List Nat := n % 256 :: (two s ++ flat l)
/-- the event with which some bytes begin -/
def parse (b : List Nat) : Ev := ⟨b.getD 0 0, val ((b.drop 1).take 3), val ((b.drop 4).take 3), val ((b.drop 7).take 3), val ((b.drop 10).take 4), b.getD 14 0, ((b.drop 16).take (b.getD 15 0)).map UInt8.ofNat⟩
def room (b : List Nat) : Bool := decide (16 ≤ b.length) && decide (16 + b.getD 15 0 ≤ b.length)
def first (b : List Nat) : Bool := room b && right (parse b)

/-! ### numbers -/
theorem val_nil : val [] = 0 := rfl
theorem val_snoc (b : List Nat) (c : Nat) : val (b ++ [c]) = val b * 256 + c := by simp [val]
theorem val_lt : ∀ (k : Nat) (b : List Nat), b.length ≤ k → (∀ c ∈ b, c < 256) → val b < 256 ^ k
  | 0, b, h, _ => by rw [List.length_eq_zero_iff.1 (Nat.le_zero.1 h)]; simp [val]
  | k + 1, b, h, hb => by
    by_cases hne : b = []
    · subst hne
      simp only [val, List.foldl_nil]
      exact Nat.pow_pos (by omega)
    · have e := (List.dropLast_concat_getLast hne).symm
      have ih := val_lt k b.dropLast (by simp; omega) (fun c hc => hb c ((List.dropLast_sublist b).mem hc))
      have hc := hb _ (List.getLast_mem hne)
      rw [e, val_snoc, Nat.pow_succ]
      omega
theorem getD_lt {b : List Nat} (h : ∀ c ∈ b, c < 256) (i : Nat) : b.getD i 0 < 256 := by
  rw [List.getD_eq_getElem?_getD]
  cases e : b[i]? with
  | none => simp
  | some c => simpa using h c (List.mem_of_getElem? e)
theorem three_lt (n : Nat) : ∀ c ∈ three n, c < 256 := by
  intro c hc
  simp only [three, List.mem_cons, List.not_mem_nil, or_false] at hc
  omega
theorem four_lt (n : Nat) : ∀ c ∈ four n, c < 256 := by
  intro c hc
  simp only [four, List.mem_cons, List.not_mem_nil, or_false] at hc
  omega
theorem two_lt (n : Nat) : ∀ c ∈ two n, c < 256 := by
  intro c hc
  simp only [two, List.mem_cons, List.not_mem_nil, or_false] at hc
  omega
theorem nats_length (p : List UInt8) : (nats p).length = p.length := by simp [nats]
theorem nats_lt (p : List UInt8) : ∀ c ∈ nats p, c < 256 := by
  intro c hc
  obtain ⟨x, _, rfl⟩ := List.mem_map.1 hc
  exact x.toNat_lt
theorem nats_back (p : List UInt8) : (nats p).map UInt8.ofNat = p := by
  unfold nats
  rw [List.map_map]
  conv => rhs; rw [← List.map_id p]
  exact List.map_congr_left fun x _ => by simp
theorem back_nats {b : List Nat} (h : ∀ c ∈ b, c < 256) : nats (b.map UInt8.ofNat) = b := by
  unfold nats
  rw [List.map_map]
  conv => rhs; rw [← List.map_id b]
  exact List.map_congr_left fun x hx => by simp [Nat.mod_eq_of_lt (h x hx)]
theorem hd_length (e : Ev) : (hd e).length = 16 := rfl
theorem ebytes_length (e : Ev) : (ebytes e).length = 16 + e.p.length := by rw [ebytes, List.length_append, hd_length, nats_length]
theorem ebytes_lt (e : Ev) : ∀ c ∈ ebytes e, c < 256 := by
  intro c hc
  simp only [ebytes, hd, List.cons_append, List.mem_cons, List.mem_append, List.not_mem_nil, or_false] at hc
  rcases hc with rfl | (h | h | h | h | rfl | rfl) | h
  · omega
  · exact three_lt _ c h
  · exact three_lt _ c h
  · exact three_lt _ c h
  · exact four_lt _ c h
  · omega
  · omega
  · exact nats_lt _ c h
theorem flat_nil : flat [] = [] := rfl
theorem flat_cons (e : Ev) (l : List Ev) : flat (e :: l) = ebytes e ++ flat l := by simp [flat]
theorem flat_snoc (l : List Ev) (e : Ev) : flat (l ++ [e]) = flat l ++ ebytes e := by simp [flat]
theorem flat_append (l m : List Ev) : flat (l ++ m) = flat l ++ flat m := by simp [flat]
theorem flat_lt (l : List Ev) : ∀ c ∈ flat l, c < 256 := by
  intro c hc
  obtain ⟨e, _, h⟩ := List.mem_flatMap.1 hc
  exact ebytes_lt e c h
theorem script_lt (n s : Nat) (l : List Ev) : ∀ c ∈ script n s l, c < 256 := by
  intro c hc
  simp only [script, List.mem_cons, List.mem_append] at hc
  rcases hc with rfl | h | h
  · omega
  · exact two_lt _ c h
  · exact flat_lt _ c h
theorem script_length (n s : Nat) (l : List Ev) : (script n s l).length = 3 + (flat l).length := by simp [script, two]; omega

/-! ### what can be written -/
structure Ok (e : Ev) : Prop where
  kind1 : 0 ≤ e.kind
  kind2 : e.kind ≤ 10
  bare : bare e = true
  i1 : 0 ≤ e.i
  i2 : e.i ≤ 65536
  k1 : 0 ≤ e.k
  k2 : e.k ≤ 65536
  n1 : 0 ≤ e.n
  n2 : e.n ≤ 65536
  am : Am.right e.a e.len = true
  len1 : 0 ≤ e.len
  len2 : e.len ≤ 32
  few : e.p.length ≤ 240
  six : e.p.length % 6 = 0
theorem right_ok {e : Ev} (h : right e = true) : Ok e := by
  unfold right small at h
  simp only [Bool.and_eq_true, decide_eq_true_eq] at h
  obtain ⟨⟨⟨⟨⟨⟨⟨⟨h1, h2⟩, h3⟩, h4, h5⟩, h6, h7⟩, h8, h9⟩, h10⟩, h11⟩, h12⟩ := h
  have h13 := h10
  unfold Am.right at h13
  simp only [Bool.and_eq_true, decide_eq_true_eq] at h13
  exact ⟨h1, h2, h3, h4, h5, h6, h7, h8, h9, h10, h13.1.1, h13.1.2, h11, h12⟩
theorem val_three {x : Nat} (h : x ≤ 65536) : val (three x) = x := by simp only [val, three, List.foldl]; omega
theorem val_four {x : Nat} (h : x < 4294967296) : val (four x) = x := by simp only [val, four, List.foldl]; omega
theorem three_val {x y z : Nat} (hx : x < 256) (hy : y < 256) (hz : z < 256) : three (val [x, y, z]) = [x, y, z] := by
  simp only [val, three, List.foldl, List.cons.injEq, and_true]; omega
theorem four_val {x y z u : Nat} (hx : x < 256) (hy : y < 256) (hz : z < 256) (hu : u < 256) : four (val [x, y, z, u]) = [x, y, z, u] := by
  simp only [val, four, List.foldl, List.cons.injEq, and_true]; omega
theorem sixteen {b : List Nat} (h : 16 ≤ b.length) : ∃ b0 b1 b2 b3 b4 b5 b6 b7 b8 b9 b10 b11 b12 b13 b14 b15 r, b = b0 :: b1 :: b2 :: b3 :: b4 :: b5 :: b6 :: b7 :: b8 :: b9 :: b10 :: b11 :: b12 :: b13 :: b14 :: b15 :: r := by
  match b, h with
  | b0 :: b1 :: b2 :: b3 :: b4 :: b5 :: b6 :: b7 :: b8 :: b9 :: b10 :: b11 :: b12 :: b13 :: b14 :: b15 :: r, _ => exact ⟨_, _, _, _, _, _, _, _, _, _, _, _, _, _, _, _, _, rfl⟩
theorem parse_cons (b0 b1 b2 b3 b4 b5 b6 b7 b8 b9 b10 b11 b12 b13 b14 b15 : Nat) (r : List Nat) :
    parse (b0 :: b1 :: b2 :: b3 :: b4 :: b5 :: b6 :: b7 :: b8 :: b9 :: b10 :: b11 :: b12 :: b13 :: b14 :: b15 :: r) = ⟨b0, val [b1, b2, b3], val [b4, b5, b6], val [b7, b8, b9], val [b10, b11, b12, b13], b14, (r.take b15).map UInt8.ofNat⟩ := rfl
theorem parse_back {e : Ev} (h : right e = true) (ha : e.a < 4294967296) (r : List Nat) : parse (ebytes e ++ r) = e ∧ room (ebytes e ++ r) = true := by
  have O := right_ok h
  have e1 : ebytes e ++ r = (e.kind.toNat % 256) :: (e.i.toNat / 65536 % 256) :: (e.i.toNat / 256 % 256) :: (e.i.toNat % 256) :: (e.k.toNat / 65536 % 256) :: (e.k.toNat / 256 % 256) :: (e.k.toNat % 256) :: (e.n.toNat / 65536 % 256) :: (e.n.toNat / 256 % 256) :: (e.n.toNat % 256) ::
      (e.a / 16777216 % 256) :: (e.a / 65536 % 256) :: (e.a / 256 % 256) :: (e.a % 256) :: (e.len.toNat % 256) :: (e.p.length % 256) :: (nats e.p ++ r) := rfl
  have hi := val_three (x := e.i.toNat) (by have := O.i2; omega)
  have hk := val_three (x := e.k.toNat) (by have := O.k2; omega)
  have hn := val_three (x := e.n.toNat) (by have := O.n2; omega)
  have h4 := val_four ha
  have hp : e.p.length % 256 = e.p.length := Nat.mod_eq_of_lt (by have := O.few; omega)
  constructor
  · rw [e1, parse_cons]
    unfold three at hi hk hn
    unfold four at h4
    rw [hi, hk, hn, h4, hp]
    have e2 : (nats e.p ++ r).take e.p.length = nats e.p := by rw [← nats_length, List.take_left]
    rw [e2, nats_back]
    obtain ⟨kind, i, k, n, a, len, p⟩ := e
    have := O.kind1; have := O.kind2; have := O.i1; have := O.k1; have := O.n1; have := O.len1; have := O.len2
    simp only [Ev.mk.injEq, and_true, true_and] at *
    refine ⟨by omega, by omega, by omega, by omega, by omega⟩
  · unfold room
    rw [e1]
    simp only [List.length_cons, List.length_append, nats_length, List.getD_cons_succ, List.getD_cons_zero, Bool.and_eq_true, decide_eq_true_eq, hp]
    omega
theorem first_back {e : Ev} (h : right e = true) (ha : e.a < 4294967296) (r : List Nat) : first (ebytes e ++ r) = true := by
  obtain ⟨h1, h2⟩ := parse_back h ha r
  rw [first, h1, h2, h]; rfl
theorem parse_fits {b : List Nat} (hb : ∀ c ∈ b, c < 256) : (parse b).Fits ∧ (parse b).a < 4294967296 := by
  have l3 : ∀ o, val ((b.drop o).take 3) < 16777216 := fun o => val_lt 3 _ (by simp; omega) (fun c hc => hb c (List.mem_of_mem_drop (List.mem_of_mem_take hc)))
  have l4 : val ((b.drop 10).take 4) < 4294967296 := val_lt 4 _ (by simp; omega) (fun c hc => hb c (List.mem_of_mem_drop (List.mem_of_mem_take hc)))
  have := l3 1; have := l3 4; have := l3 7
  have := getD_lt hb 0; have := getD_lt hb 14
  refine ⟨⟨?_, ?_, ?_, ?_, ?_, ?_, ?_, ?_, l4, ?_, ?_⟩, l4⟩ <;> (simp only [parse]; omega)
theorem parse_p {b : List Nat} (h : room b = true) : (parse b).p.length = b.getD 15 0 := by
  unfold room at h
  simp only [Bool.and_eq_true, decide_eq_true_eq] at h
  simp only [parse, List.length_map, List.length_take, List.length_drop]
  omega
theorem parse_bytes {b : List Nat} (hb : ∀ c ∈ b, c < 256) (h : room b = true) : b = ebytes (parse b) ++ b.drop (16 + (parse b).p.length) := by
  have hp := parse_p h
  have h0 := h
  unfold room at h
  simp only [Bool.and_eq_true, decide_eq_true_eq] at h
  obtain ⟨b0, b1, b2, b3, b4, b5, b6, b7, b8, b9, b10, b11, b12, b13, b14, b15, r, rfl⟩ := sixteen h.1
  simp only [List.getD_cons_succ, List.getD_cons_zero, List.length_cons] at h hp
  rw [hp]
  simp only [List.mem_cons, forall_eq_or_imp] at hb
  obtain ⟨h0, h1, h2, h3, h4, h5, h6, h7, h8, h9, h10, h11, h12, h13, h14, h15, hr⟩ := hb
  have hr' : ∀ c ∈ r.take b15, c < 256 := fun c hc => hr c (List.mem_of_mem_take hc)
  rw [parse_cons]
  unfold ebytes hd
  simp only [Int.toNat_natCast]
  rw [three_val h1 h2 h3, three_val h4 h5 h6, three_val h7 h8 h9, four_val h10 h11 h12 h13, back_nats hr', List.length_map, List.length_take, Nat.mod_eq_of_lt h0, Nat.mod_eq_of_lt h14,
    show min b15 r.length % 256 = b15 by rw [Nat.min_eq_left (by omega)]; exact Nat.mod_eq_of_lt h15]
  simp only [List.cons_append, List.nil_append, Nat.add_comm 16 b15, List.drop_succ_cons, List.take_append_drop]

/-! ### many of them -/
/-- what is read of bytes: these, where that ends, and how -/
structure Evs (bs : List Nat) (l : List Ev) (k e : Nat) : Prop where
  right : ∀ x ∈ l, right x = true ∧ x.a < 4294967296
  few : l.length ≤ 8192
  at_ : k = 3 + (flat l).length
  le : k ≤ bs.length
  parts : bs.drop 3 = flat l ++ bs.drop k
  how : (e = 0 ∧ k = bs.length) ∨ (e = 6 ∧ k < bs.length ∧ first (bs.drop k) = false) ∨ (e = 7 ∧ k < bs.length ∧ l.length = 8192 ∧ first (bs.drop k) = true)
theorem ebytes_ne (e : Ev) (r : List Nat) : ebytes e ++ r ≠ [] := fun h => by
  have := congrArg List.length h
  simp [ebytes_length] at this
theorem flat_split : ∀ (l L : List Ev) (r : List Nat), (∀ x ∈ l, right x = true ∧ x.a < 4294967296) → (∀ x ∈ L, right x = true ∧ x.a < 4294967296) → flat l ++ r = flat L → ∃ L', L = l ++ L' ∧ r = flat L'
  | [], L, r, _, _, h => ⟨L, rfl, by simpa [flat_nil] using h⟩
  | x :: l, [], r, _, _, h => by
    rw [flat_cons, flat_nil, List.append_assoc] at h
    exact absurd h (ebytes_ne _ _)
  | x :: l, y :: L, r, hl, hL, h => by
    rw [flat_cons, flat_cons, List.append_assoc] at h
    have hx := hl x (List.mem_cons_self ..)
    have hy := hL y (List.mem_cons_self ..)
    have e : x = y := by
      have h1 := (parse_back hx.1 hx.2 (flat l ++ r)).1
      have h2 := (parse_back hy.1 hy.2 (flat L)).1
      rw [← h1, h, h2]
    subst e
    obtain ⟨L', h1, h2⟩ := flat_split l L r (fun z hz => hl z (List.mem_cons_of_mem _ hz)) (fun z hz => hL z (List.mem_cons_of_mem _ hz)) (List.append_cancel_left h)
    exact ⟨L', by rw [h1, List.cons_append], h2⟩
theorem Evs.split {bs : List Nat} {l L : List Ev} {k e : Nat} (h : Evs bs l k e) (hL : ∀ x ∈ L, Sc.right x = true ∧ x.a < 4294967296) (hb : bs.drop 3 = flat L) : ∃ L', L = l ++ L' ∧ bs.drop k = flat L' ∧ (L' = [] ∨ first (bs.drop k) = true) ∧ (L' = [] ↔ k = bs.length) := by
  obtain ⟨L', h1, h2⟩ := flat_split l L (bs.drop k) h.right hL (by rw [← h.parts, hb])
  refine ⟨L', h1, h2, ?_, ?_⟩
  · cases L' with
    | nil => exact .inl rfl
    | cons y r =>
      refine .inr ?_
      have hy := hL y (by rw [h1]; simp)
      rw [h2, flat_cons]
      exact first_back hy.1 hy.2 _
  · have hlen := congrArg List.length h2
    rw [List.length_drop] at hlen
    have hle := h.le
    constructor
    · intro e; subst e; simp [flat_nil] at hlen; omega
    · intro e
      cases L' with
      | nil => rfl
      | cons y r =>
        rw [flat_cons, List.length_append, ebytes_length] at hlen
        omega
theorem Evs.back {bs : List Nat} {l L : List Ev} {k e : Nat} (h : Evs bs l k e) (hL : ∀ x ∈ L, Sc.right x = true ∧ x.a < 4294967296) (hb : bs.drop 3 = flat L) (hf : L.length ≤ 8192) : l = L ∧ e = 0 ∧ k = bs.length := by
  obtain ⟨L', h1, h2, h3, h4⟩ := h.split hL hb
  have hl := congrArg List.length h1
  rw [List.length_append] at hl
  have key : L' = [] := by
    rcases h.how with ⟨_, h5⟩ | ⟨_, h5, h6⟩ | ⟨_, h5, h6, _⟩
    · exact h4.2 h5
    · rcases h3 with h3 | h3
      · exact h3
      · rw [h3] at h6; cases h6
    · exact List.length_eq_zero_iff.1 (by omega)
  have hk := h4.1 key
  refine ⟨by rw [h1, key, List.append_nil], ?_, hk⟩
  rcases h.how with ⟨h5, _⟩ | ⟨_, h5, _⟩ | ⟨_, h5, _⟩
  · exact h5
  · omega
  · omega
theorem Evs.many {bs : List Nat} {l L : List Ev} {k e : Nat} (h : Evs bs l k e) (hL : ∀ x ∈ L, Sc.right x = true ∧ x.a < 4294967296) (hb : bs.drop 3 = flat L) (hf : 8192 < L.length) : l = L.take 8192 ∧ e = 7 ∧ l.length = 8192 := by
  obtain ⟨L', h1, h2, h3, h4⟩ := h.split hL hb
  have hl := congrArg List.length h1
  rw [List.length_append] at hl
  have hfew := h.few
  have hne : ¬ L' = [] := fun e => by subst e; simp at hl; omega
  have hk : ¬ k = bs.length := fun e => hne (h4.2 e)
  rcases h.how with ⟨_, h5⟩ | ⟨_, h5, h6⟩ | ⟨h7, h5, h6, _⟩
  · exact absurd h5 hk
  · rcases h3 with h3 | h3
    · exact absurd h3 hne
    · rw [h3] at h6; cases h6
  · exact ⟨by rw [h1, ← h6, List.take_left], h7, h6⟩
end Go.Proofs.Ytnpocnfmekgieaa.Sc
