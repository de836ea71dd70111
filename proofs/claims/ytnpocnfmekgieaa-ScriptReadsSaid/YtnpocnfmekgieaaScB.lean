/-
  Bytes in memory; the contracts of package number's Put and Get; bytes that a call owns.
-/
import Derived.Test.YtnpocnfmekgieaaProg
import Derived.Test.YtnpocnfmekgieaaOl
import Derived.Test.YtnpocnfmekgieaaTakeL
import Derived.Test.YtnpocnfmekgieaaScM
import Derived.Laws.BytesArg
import Derived.Laws.BitsAllLaws
import Derived.Lib.AppendStr
import Derived.Lib.ConvBytes
namespace Go.Proofs.Ytnpocnfmekgieaa
open Go.RowKit Go.Maps Sc

/-- A slice's value that reads as these bytes; nil let in. -/
def BytesAt (w : World) (A : Option Addr) (n : Nat) (bs : List Nat) : Prop :=
  bs.length = n ∧ n ≤ maxLen ∧ (∀ c, c ∈ bs → c < 256) ∧ ∀ k, k < n → ∃ ad, A = some ad ∧ w.cell? (ad.add k) = some (.int .u8 (bs.getD k 0 : Nat))
theorem BytesAt.take_succ {w : World} {A : Option Addr} {n : Nat} {bs : List Nat} (h : BytesAt w A n bs) {k : Nat} (hk : k < n) : bs.take (k + 1) = bs.take k ++ [bs.getD k 0] := by
  have hl : k < bs.length := by have := h.1; omega
  rw [List.take_succ_eq_append_getElem hl]
  simp [List.getD, hl]
theorem BytesAt.takeAll {w : World} {A : Option Addr} {n : Nat} {bs : List Nat} (h : BytesAt w A n bs) : bs.take n = bs := by rw [← h.1, List.take_length]
theorem BytesAt.lt {w : World} {A : Option Addr} {n : Nat} {bs : List Nat} (h : BytesAt w A n bs) (k : Nat) : bs.getD k 0 < 256 := by
  rw [List.getD_eq_getElem?_getD]
  cases e : bs[k]? with
  | none => simp
  | some c => simpa using h.2.2.1 c (List.mem_of_getElem? e)
theorem BytesAt.take_lt {w : World} {A : Option Addr} {n : Nat} {bs : List Nat} (h : BytesAt w A n bs) (k : Nat) : ∀ c, c ∈ bs.take k → c < 256 :=
  fun c hc => h.2.2.1 c (List.mem_of_mem_take hc)

/-- bytes as cells -/
def cell (c : Nat) : Value := .int .u8 (c : Int)
def cls (b : List Nat) : Array Value := (b.map cell).toArray
/-- bytes as a string's -/
def toU (b : List Nat) : List UInt8 := b.map UInt8.ofNat
theorem toU_length (b : List Nat) : (toU b).length = b.length := by simp [toU]
theorem toU_at {b : List Nat} (hb : ∀ c ∈ b, c < 256) {j : Nat} (hj : j < (toU b).length) : ((toU b)[j].toNat : Int) = ((b.getD j 0 : Nat) : Int) := by
  have hj' : j < b.length := by rw [toU_length] at hj; exact hj
  have h1 : b[j] < 256 := hb _ (List.getElem_mem hj')
  simp [toU, hj', Nat.mod_eq_of_lt h1]
theorem toU_inj {b c : List Nat} (hb : ∀ x ∈ b, x < 256) (hc : ∀ x ∈ c, x < 256) (h : toU b = toU c) : b = c := by
  induction b generalizing c with
  | nil => cases c <;> simp [toU] at h ⊢
  | cons x r ih =>
    cases c with
    | nil => simp [toU] at h
    | cons y r' =>
      simp only [toU, List.map_cons, List.cons.injEq] at h
      have e : x = y := by
        have := congrArg UInt8.toNat h.1
        simpa [Nat.mod_eq_of_lt (hb x (by simp)), Nat.mod_eq_of_lt (hc y (by simp))] using this
      rw [e, ih (fun z hz => hb z (by simp [hz])) (fun z hz => hc z (by simp [hz])) h.2]
theorem BytesAt.held {w w' : World} {A : Option Addr} {n : Nat} {bs : List Nat} (h : BytesAt w A n bs) (hb : Below w.heap.size w w') : BytesAt w' A n bs :=
  ⟨h.1, h.2.1, h.2.2.1, fun k hk => by
    obtain ⟨ad, e, hc⟩ := h.2.2.2 k hk
    exact ⟨ad, e, Go.Proofs.Ytnpocnfmekgieaa.held hb hc⟩⟩
theorem BytesAt.of_blk {w : World} {g : Nat} {t : TypeId} {C : Array Value} (h : Blk t w g C) (bs : List Nat) (o n : Nat) (hn : n ≤ maxLen) (hl : bs.length = n) (hb : ∀ c ∈ bs, c < 256) (hC : ∀ k, k < n → C[o + k]? = some (cell (bs.getD k 0))) : BytesAt w (some ⟨g, o, none⟩) n bs :=
  ⟨hl, hn, hb, fun k hk => ⟨_, rfl, by rw [Addr.add_mid, h.at_ (o + k)]; exact hC k hk⟩⟩
theorem maxLen_small {n : Nat} (h : n ≤ 5000) : n ≤ maxLen := by unfold maxLen; omega
theorem cls_at (b : List Nat) (k : Nat) (hk : k < b.length) : (cls b)[k]? = some (cell (b.getD k 0)) := by simp [cls, hk]
theorem BytesAt.cls {w : World} {g : Nat} {t : TypeId} {b : List Nat} (h : Blk t w g (Go.Proofs.Ytnpocnfmekgieaa.cls b)) (hb : ∀ c ∈ b, c < 256) (hl : b.length ≤ 5000) : BytesAt w (some ⟨g, 0, none⟩) b.length b :=
  .of_blk h b 0 b.length (maxLen_small hl) rfl hb (fun k hk => by rw [Nat.zero_add]; exact cls_at b k hk)

theorem conv_str {w : World} {A : Option Addr} {n cap : Nat} {bs : List Nat} (h : BytesAt w A n bs) : (convert 32 9 (.slice A n cap)).run Try.prog w = .ok (.string ⟨(toU bs).toArray⟩) w := by
  obtain ⟨hl, hm, hb, hc⟩ := h
  rcases Nat.eq_zero_or_pos n with rfl | h0
  · obtain rfl := List.length_eq_zero_iff.1 hl
    rw [run_convert_bytes_string w 32 9 5 A 0 cap (by kernel_rfl) (by kernel_rfl) (by kernel_rfl)]
    cases A <;> rfl
  · obtain ⟨ad, rfl, -⟩ := hc 0 h0
    have e : n = (toU bs).length := by rw [toU_length, hl]
    rw [e]
    refine run_convert_bytes_back (P := Try.prog) w 32 9 5 ad cap (toU bs) (by kernel_rfl) (by kernel_rfl) (by kernel_rfl) (fun j hj => ?_)
    obtain ⟨ad', e', h'⟩ := hc j (by omega)
    cases e'
    rw [h', toU_at hb hj]

set_option maxHeartbeats 1000000 in
theorem put_four (g off cap : Nat) (v : Nat) (hv : v < 4294967296) (C : Array Value) (w : World) (h : Blk 5 w g C) (hs : off + 4 ≤ C.size) :
    Calls Try.prog 24 #[.slice (some ⟨g, off, none⟩) 4 cap, .int .u32 v] w fun e w' => e = .returned (.tuple #[]) ∧
      w' = (((w.setCell ⟨g, off, none⟩ (cell (v / 16777216 % 256))).setCell ⟨g, off + 1, none⟩ (cell (v / 65536 % 256))).setCell ⟨g, off + 2, none⟩ (cell (v / 256 % 256))).setCell ⟨g, off + 3, none⟩ (cell (v % 256)) := by
  have c0 : w.cell? ⟨g, off, none⟩ = some C[off] := (h.at_ off).trans (by simp)
  have c1 : w.cell? ⟨g, off + 1, none⟩ = some C[off + 1] := (h.at_ _).trans (by simp)
  have c2 : w.cell? ⟨g, off + 2, none⟩ = some C[off + 2] := (h.at_ _).trans (by simp)
  have c3 : w.cell? ⟨g, off + 3, none⟩ = some C[off + 3] := (h.at_ _).trans (by simp)
  have f0 := h.free off
  have f1 := h.free (off + 1)
  have f2 := h.free (off + 2)
  have f3 := h.free (off + 3)
  clear h
  generalize C[off] = v0 at *
  generalize C[off + 1] = v1 at *
  generalize C[off + 2] = v2 at *
  generalize C[off + 3] = v3 at *
  clear hs
  go_enter Try.func24, Try.ntmps24
  go_wp2
  refine wp_loop_rounds 5 ?_
  iterate 5
    rw [rounds_succ]
    go_wp2
  go_end0
  refine ⟨rfl, ?_⟩
  unfold cell
  rw [show ((v / 16777216 % 256 : Nat) : Int) = (v : Int) / 16777216 by omega, show ((v / 65536 % 256 : Nat) : Int) = (v : Int) / 65536 % 256 by omega, show ((v / 256 % 256 : Nat) : Int) = (v : Int) / 256 % 256 by omega, show ((v % 256 : Nat) : Int) = (v : Int) % 256 by omega]

set_option maxHeartbeats 1000000 in
theorem put_three (g off cap : Nat) (v : Nat) (hv : v < 16777216) (C : Array Value) (w : World) (h : Blk 5 w g C) (hs : off + 3 ≤ C.size) :
    Calls Try.prog 24 #[.slice (some ⟨g, off, none⟩) 3 cap, .int .u32 v] w fun e w' => e = .returned (.tuple #[]) ∧
      w' = ((w.setCell ⟨g, off, none⟩ (cell (v / 65536 % 256))).setCell ⟨g, off + 1, none⟩ (cell (v / 256 % 256))).setCell ⟨g, off + 2, none⟩ (cell (v % 256)) := by
  have c0 : w.cell? ⟨g, off, none⟩ = some C[off] := (h.at_ off).trans (by simp)
  have c1 : w.cell? ⟨g, off + 1, none⟩ = some C[off + 1] := (h.at_ _).trans (by simp)
  have c2 : w.cell? ⟨g, off + 2, none⟩ = some C[off + 2] := (h.at_ _).trans (by simp)
  have f0 := h.free off
  have f1 := h.free (off + 1)
  have f2 := h.free (off + 2)
  clear h
  generalize C[off] = v0 at *
  generalize C[off + 1] = v1 at *
  generalize C[off + 2] = v2 at *
  clear hs
  go_enter Try.func24, Try.ntmps24
  go_wp2
  refine wp_loop_rounds 4 ?_
  iterate 4
    rw [rounds_succ]
    go_wp2
  go_end0
  refine ⟨rfl, ?_⟩
  unfold cell
  rw [show ((v / 65536 % 256 : Nat) : Int) = (v : Int) / 65536 by omega, show ((v / 256 % 256 : Nat) : Int) = (v : Int) / 256 % 256 by omega, show ((v % 256 : Nat) : Int) = (v : Int) % 256 by omega]

set_option maxHeartbeats 1000000 in
theorem put_two (g off cap : Nat) (v : Nat) (hv : v < 65536) (C : Array Value) (w : World) (h : Blk 5 w g C) (hs : off + 2 ≤ C.size) :
    Calls Try.prog 24 #[.slice (some ⟨g, off, none⟩) 2 cap, .int .u32 v] w fun e w' => e = .returned (.tuple #[]) ∧
      w' = (w.setCell ⟨g, off, none⟩ (cell (v / 256 % 256))).setCell ⟨g, off + 1, none⟩ (cell (v % 256)) := by
  have c0 : w.cell? ⟨g, off, none⟩ = some C[off] := (h.at_ off).trans (by simp)
  have c1 : w.cell? ⟨g, off + 1, none⟩ = some C[off + 1] := (h.at_ _).trans (by simp)
  have f0 := h.free off
  have f1 := h.free (off + 1)
  clear h
  generalize C[off] = v0 at *
  generalize C[off + 1] = v1 at *
  clear hs
  go_enter Try.func24, Try.ntmps24
  go_wp2
  refine wp_loop_rounds 3 ?_
  iterate 3
    rw [rounds_succ]
    go_wp2
  go_end0
  refine ⟨rfl, ?_⟩
  unfold cell
  try rw [show ((v / 256 % 256 : Nat) : Int) = (v : Int) / 256 by omega, show ((v % 256 : Nat) : Int) = (v : Int) % 256 by omega]

/-! ### Get -/
theorem or_in (s c : Nat) (hs : s < 16777216) (hc : c < 256) : bits .or .u32 ((s : Int) * 256) (c : Int) = ((s * 256 + c : Nat) : Int) := by
  rw [show ((s : Int) * 256) = ((s * 256 : Nat) : Int) from by omega, u32_or_nat (s * 256) c (by omega) (by omega)]
  congr 1
  have h := Nat.two_pow_add_eq_or_of_lt (i := 8) (b := c) (by omega) s
  rw [show 2 ^ 8 * s = s * 256 by omega] at h
  exact h.symm
theorem pow_small {k : Nat} (hk : k ≤ 3) : 256 ^ k ≤ 16777216 := by
  have : k = 0 ∨ k = 1 ∨ k = 2 ∨ k = 3 := by omega
  rcases this with rfl | rfl | rfl | rfl <;> decide
set_option maxHeartbeats 400000 in
theorem get_any (A : Option Addr) (n cap : Nat) (bs : List Nat) (w : World) (h : BytesAt w A n bs) (hn : n ≤ 4) :
    Calls Try.prog 26 #[.slice A n cap] w fun e w' => e = .returned (.int .u32 (val bs : Nat)) ∧ w = w' := by
  have H := Lib.hid h
  clear h
  go_enter Try.func26, Try.ntmps26
  go_wp2
  go_loop [3, 8] (fun s i => ∃ k : Nat, k ≤ n ∧ i = .int .i64 k ∧ s = .int .u32 (val (bs.take k) : Nat)) (fun _ i => n - (intOf i).toNat)
  case atStart => exact ⟨0, by omega, rfl, rfl⟩
  case round =>
    obtain ⟨k, hk, rfl, rfl⟩ := hrel
    by_cases hlt : k < n
    · obtain ⟨ad, ha, hcell⟩ := H.out.2.2.2 k hlt
      have hc := H.out.lt k
      have hm : val (bs.take k) < 16777216 := Nat.lt_of_lt_of_le (val_lt k _ (by rw [List.length_take]; omega) (H.out.take_lt k)) (pow_small (by omega))
      have E : Hid (val (bs.take (k + 1)) = val (bs.take k) * 256 + bs.getD k 0) := Lib.hid (by rw [H.out.take_succ hlt, val_snoc])
      generalize val (bs.take k) = s at hm E ⊢
      generalize bs.getD k 0 = c at hc E hcell
      subst ha
      go_wp2
      go_round
      case rel => exact ⟨k + 1, by omega, by go_num, by rw [E.out, or_in s c hm hc]⟩
      case measure => simp [intOf]; omega
    · go_wp2
      go_ret
      obtain rfl : k = n := by omega
      exact ⟨ret_int (by rw [H.out.takeAll]), rfl⟩

/-! ### bytes at a place -/
/-- a slice's value that reads as these bytes; its address is plain where there is one -/
structure Sl (w : World) (A : Option Addr) (n cap : Nat) (bs : List Nat) : Prop where
  bytes : BytesAt w A n bs
  cap : n ≤ cap
  plain : 0 < n → ∃ b off, A = some ⟨b, off, none⟩
theorem Sl.held {w w' : World} {A : Option Addr} {n cap : Nat} {bs : List Nat} (h : Sl w A n cap bs) (hb : Below w.heap.size w w') : Sl w' A n cap bs := ⟨h.bytes.held hb, h.cap, h.plain⟩
theorem Sl.at_ {w : World} {b off n cap : Nat} {bs : List Nat} (h : Sl w (some ⟨b, off, none⟩) n cap bs) {k : Nat} (hk : k < n) : w.cell? ⟨b, off + k, none⟩ = some (.int .u8 (bs.getD k 0 : Nat)) := by
  obtain ⟨ad', e, hc⟩ := h.bytes.2.2.2 k hk
  cases e
  rwa [Addr.add_mid] at hc
theorem Sl.part {w : World} {b off n cap : Nat} {bs : List Nat} (h : Sl w (some ⟨b, off, none⟩) n cap bs) (o m : Nat) (hm : o + m ≤ n) : Sl w (some ⟨b, off + o, none⟩) m (cap - o) ((bs.drop o).take m) := by
  obtain ⟨⟨h1, h2, h3, h4⟩, h5, -⟩ := h
  refine ⟨⟨by simp; omega, by omega, fun c hc => h3 c (List.mem_of_mem_drop (List.mem_of_mem_take hc)), fun k hk => ?_⟩, by omega, fun _ => ⟨_, _, rfl⟩⟩
  obtain ⟨ad', e, hc⟩ := h4 (o + k) (by omega)
  cases e
  refine ⟨_, rfl, ?_⟩
  rw [Addr.add_mid] at hc ⊢
  rw [Nat.add_assoc, hc]
  congr 3
  have h5 : o + k < bs.length := by omega
  simp [List.getD, hk, h5]
theorem Sl.rest {w : World} {b off n cap : Nat} {bs : List Nat} (h : Sl w (some ⟨b, off, none⟩) n cap bs) (o : Nat) (ho : o ≤ n) : Sl w (some ⟨b, off + o, none⟩) (n - o) (cap - o) (bs.drop o) := by
  have k := h.part o (n - o) (by omega)
  have e : (bs.drop o).take (n - o) = bs.drop o := List.take_of_length_le (by rw [List.length_drop, h.bytes.1]; omega)
  rwa [e] at k
theorem get_part {w : World} {b off n cap : Nat} {bs : List Nat} (h : Sl w (some ⟨b, off, none⟩) n cap bs) (o m : Nat) (hm : o + m ≤ n) (h4 : m ≤ 4) (c : Nat) :
    Calls Try.prog 26 #[.slice (some ⟨b, off + o, none⟩) m c] w fun e w' => e = .returned (.int .u32 (val ((bs.drop o).take m) : Nat)) ∧ w = w' :=
  get_any _ m c _ w (h.part o m hm).bytes h4


/-! ### bytes that a call owns -/
def bcl (c : Nat) : List Value := [cell c]
theorem elemB : Elem Try.prog 32 5 bcl 1 1 := ⟨by kernel_rfl, elem_info (z := .int .u8 0) (by kernel_rfl) rfl, by omega, fun _ => rfl, fun x v hv => by simp only [bcl, List.mem_cons, List.not_mem_nil, or_false] at hv; subst hv; rfl, by omega⟩
abbrev Ob := Ol 5 bcl 1
theorem flat_bcl (b : List Nat) : b.flatMap bcl = b.map cell := by
  induction b with
  | nil => rfl
  | cons x r ih => rw [List.flatMap_cons, ih]; rfl
theorem strCells_nats (s : List UInt8) : Lib.strCells ⟨s.toArray⟩ = (nats s).flatMap bcl := by
  rw [flat_bcl]
  simp [Lib.strCells, nats, cell]
section
variable {B : Nat} {v : Value} {bs : List Nat} {W W' : World}
/-- a new block of just these bytes -/
theorem Ob.new (W : World) (bs : List Nat) (hl : bs.length ≤ 5000) : Ob W.heap.size (.slice (some ⟨W.heap.size, 0, none⟩) bs.length bs.length) bs (W.alloc (.cells (cls bs) 5)) :=
  ⟨by rw [flat_bcl]; simp, .inr ⟨W.heap.size, bs.length, cls bs, rfl, Nat.le_refl _, Blk.new W _ _, Nat.le_refl _, maxLen_small hl, by simp [cls], by rw [flat_bcl]; simp [cls, List.take_of_length_le]⟩⟩
theorem Ob.bytes {p : Option Addr} {n cap : Nat} (h : Ob B (.slice p n cap) bs W) (hb : ∀ c ∈ bs, c < 256) : BytesAt W p n bs := by
  rcases h.2 with ⟨h0, h1⟩ | ⟨g', cap', cur, e, h4, h5, h6, h7, h8, h9⟩
  · cases h0
    obtain rfl := List.length_eq_zero_iff.1 h1
    exact ⟨rfl, by unfold maxLen; omega, by simp, fun k hk => by omega⟩
  · cases e
    have h5' : Blk 5 W g' cur := h5
    refine .of_blk h5' bs 0 _ (by omega) rfl hb (fun k hk => ?_)
    rw [flat_bcl, Nat.mul_one] at h9
    have e : (cur.toList.take bs.length)[k]? = some (cell (bs.getD k 0)) := by rw [h9]; simp [hk]
    rw [List.getElem?_take, if_pos hk] at e
    simpa using e
/-- 'append(b, x...)', x bytes -/
theorem Ob.app (h : Ob B v bs W) (hB : B ≤ W.heap.size) {A : Option Addr} {m c : Nat} {news : List Nat} (hx : BytesAt W A m news) (h0 : 0 < m) (hbig : bs.length + m ≤ 1000000) (ty : TypeId) :
    ∃ g' cap' W', (Builtin.append_ #[32, 32] ty #[v, .slice A m c]).run Try.prog W = .ok (.slice (some ⟨g', 0, none⟩) (bs.length + m) cap') W' ∧ Ob B (.slice (some ⟨g', 0, none⟩) (bs.length + m) cap') (bs ++ news) W' ∧ W.grownBy W' v.ownBlock ∧ (v.ownBlock = some g' ∨ g' = W.heap.size) := by
  obtain ⟨i0, z, hi, hz0, hz1, hz2, hz3⟩ := elemB.info
  obtain ⟨hnl, -, -, hc⟩ := hx
  obtain ⟨ad, rfl⟩ : ∃ ad, A = some ad := by
    obtain ⟨ad', e, _⟩ := hc 0 h0
    exact ⟨_, e⟩
  obtain ⟨v', W', hr, hown, hgr, hnil, hat⟩ := run_append_own_at (P := Try.prog) W B 32 ty 5 i0 z 1 1 elemB.ht hi hz0 hz1 hz2 hz3 elemB.pos v bs.length (bs.flatMap bcl) h ad m c (news.flatMap bcl) (by rw [flat_bcl]; simp [hnl]) (fun j v hv => by
      rw [flat_bcl] at hv
      have hj : j < m := by
        have := (List.getElem?_eq_some_iff.1 hv).1
        simp at this; omega
      obtain ⟨ad', e, h'⟩ := hc j hj
      cases e
      rw [h', ← hv]
      have hj' : j < news.length := by omega
      simp [hj', cell]) (fun v hv => by
      rw [flat_bcl] at hv
      obtain ⟨c, _, rfl⟩ := List.mem_map.1 hv
      rfl)
    (by unfold maxLen; omega) (by omega) hB
  have hne : ¬ v' = .slice none 0 0 := fun e => by have := (hnil.1 e).2; omega
  rcases hown.2 with ⟨rfl, _⟩ | ⟨g', cap', cur, rfl, h4, h5, h6, h7, h8, h9⟩
  · exact absurd rfl hne
  · have e1 : (bs ++ news).flatMap bcl = bs.flatMap bcl ++ news.flatMap bcl := by simp
    have e2 : (bs ++ news).length = bs.length + m := by simp [hnl]
    refine ⟨g', cap', W', hr, ⟨by rw [e1, e2]; exact hown.1, .inr ⟨g', cap', cur, by rw [e2], h4, h5, by rw [e2]; exact h6, h7, h8, by rw [e1, e2]; exact h9⟩⟩, hgr, ?_⟩
    rcases hat with h | h
    · exact .inl (h.symm.trans rfl)
    · exact .inr (by simpa [Value.ownBlock] using h)
/-- 'append(b, s...)', s a string -/
theorem Ob.str (h : Ob B v bs W) (hB : B ≤ W.heap.size) (h0 : 0 < bs.length) (s : List UInt8) (hbig : bs.length + s.length ≤ 1000000) (ty : TypeId) :
    ∃ g' cap' W', (Builtin.append_ #[32, 9] ty #[v, .string ⟨s.toArray⟩]).run Try.prog W = .ok (.slice (some ⟨g', 0, none⟩) (bs.length + s.length) cap') W' ∧ Ob B (.slice (some ⟨g', 0, none⟩) (bs.length + s.length) cap') (bs ++ nats s) W' ∧ W.grownBy W' v.ownBlock := by
  obtain ⟨i0, z, hi, hz0, hz1, hz2, hz3⟩ := elemB.info
  have hz : i0.zero = some (.int .u8 0) := by
    have : (Try.prog.info? 5).map (fun i => i.zero) = some (some (.int .u8 0)) := by kernel_rfl
    rw [hi] at this
    simpa using this
  have hs : (⟨s.toArray⟩ : ByteArray).size = s.length := by simp [ByteArray.size]
  obtain ⟨v', W', hr, hown, hgr, hnil⟩ := Lib.run_append_own_string (P := Try.prog) W B 32 9 ty 5 i0 elemB.ht (by kernel_rfl) hi hz hz1 hz2 v bs.length (bs.flatMap bcl) h ⟨s.toArray⟩ (by rw [hs]; unfold maxLen; omega) (by rw [hs]; omega) hB
  rw [hs] at hown hnil
  have hne : ¬ v' = .slice none 0 0 := fun e => by
    have e2 := (hnil.1 e).1
    subst e2
    rcases h.2 with ⟨_, h1⟩ | ⟨g', cap', cur, e3, _⟩
    · omega
    · cases e3
  rcases hown.2 with ⟨rfl, _⟩ | ⟨g', cap', cur, rfl, h4, h5, h6, h7, h8, h9⟩
  · exact absurd rfl hne
  · have e1 : (bs ++ nats s).flatMap bcl = bs.flatMap bcl ++ Lib.strCells ⟨s.toArray⟩ := by rw [strCells_nats]; simp
    have e2 : (bs ++ nats s).length = bs.length + s.length := by simp [nats_length]
    exact ⟨g', cap', W', hr, ⟨by rw [e1, e2]; exact hown.1, .inr ⟨g', cap', cur, by rw [e2], h4, h5, by rw [e2]; exact h6, h7, h8, by rw [e1, e2]; exact h9⟩⟩, hgr⟩
end
end Go.Proofs.Ytnpocnfmekgieaa
