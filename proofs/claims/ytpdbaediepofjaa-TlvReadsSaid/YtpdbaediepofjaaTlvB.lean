/-
  Bytes in memory; the contracts of package number's Put and Get, and of the statement's four.
-/
import Derived.Test.YtpdbaediepofjaaProg
import Derived.Test.YtpdbaediepofjaaTurn
import Derived.Test.YtpdbaediepofjaaTlvN
import Derived.Laws.BytesArg
import Derived.Laws.BitsAllLaws
namespace Go.Proofs.Ytpdbaediepofjaa
open Go.RowKit Tm

/-- A slice's value that reads as these bytes; nil let in. -/
def BytesAt (w : World) (A : Option Addr) (n : Nat) (bs : List Nat) : Prop :=
  bs.length = n ∧ n ≤ maxLen ∧ (∀ c, c ∈ bs → c < 256) ∧ ∀ k, k < n → ∃ ad, A = some ad ∧ w.cell? (ad.add k) = some (.int .u8 (bs.getD k 0 : Nat))
theorem BytesAt.take_succ {w : World} {A : Option Addr} {n : Nat} {bs : List Nat} (h : BytesAt w A n bs) {k : Nat} (hk : k < n) : bs.take (k + 1) = bs.take k ++ [bs.getD k 0] := by
  have hl : k < bs.length := by have := h.1; omega
  rw [List.take_succ_eq_append_getElem hl]
  simp [List.getD, hl]
theorem BytesAt.takeAll {w : World} {A : Option Addr} {n : Nat} {bs : List Nat} (h : BytesAt w A n bs) : bs.take n = bs := by rw [← h.1, List.take_length]
theorem BytesAt.lt {w : World} {A : Option Addr} {n : Nat} {bs : List Nat} (h : BytesAt w A n bs) (k : Nat) : bs.getD k 0 < 256 := by
  rw [List.getD_eq_getElem?_getD]
  cases e : bs[k]? with
  | none => simp
  | some c => simpa using h.2.2.1 c (List.mem_of_getElem? e)
theorem BytesAt.take_lt {w : World} {A : Option Addr} {n : Nat} {bs : List Nat} (h : BytesAt w A n bs) (k : Nat) : ∀ c, c ∈ bs.take k → c < 256 :=
  fun c hc => h.2.2.1 c (List.mem_of_mem_take hc)

/-- bytes as cells -/
def cell (c : Nat) : Value := .int .u8 (c : Int)
def cls (b : List Nat) : Array Value := (b.map cell).toArray
/-- bytes as a string's -/
def toU (b : List Nat) : List UInt8 := b.map UInt8.ofNat
theorem toU_length (b : List Nat) : (toU b).length = b.length := by simp [toU]
theorem toU_at {b : List Nat} (hb : ∀ c ∈ b, c < 256) {j : Nat} (hj : j < (toU b).length) : ((toU b)[j].toNat : Int) = ((b.getD j 0 : Nat) : Int) := by
  have hj' : j < b.length := by rw [toU_length] at hj; exact hj
  have h1 : b[j] < 256 := hb _ (List.getElem_mem hj')
  simp [toU, hj', Nat.mod_eq_of_lt h1]
theorem toU_inj {b c : List Nat} (hb : ∀ x ∈ b, x < 256) (hc : ∀ x ∈ c, x < 256) (h : toU b = toU c) : b = c := by
  induction b generalizing c with
  | nil => cases c <;> simp [toU] at h ⊢
  | cons x r ih =>
    cases c with
    | nil => simp [toU] at h
    | cons y r' =>
      simp only [toU, List.map_cons, List.cons.injEq] at h
      have e : x = y := by
        have := congrArg UInt8.toNat h.1
        simpa [Nat.mod_eq_of_lt (hb x (by simp)), Nat.mod_eq_of_lt (hc y (by simp))] using this
      rw [e, ih (fun z hz => hb z (by simp [hz])) (fun z hz => hc z (by simp [hz])) h.2]
theorem BytesAt.held {w w' : World} {A : Option Addr} {n : Nat} {bs : List Nat} (h : BytesAt w A n bs) (hb : Below w.heap.size w w') : BytesAt w' A n bs :=
  ⟨h.1, h.2.1, h.2.2.1, fun k hk => by
    obtain ⟨ad, e, hc⟩ := h.2.2.2 k hk
    exact ⟨ad, e, Go.Proofs.Ytpdbaediepofjaa.held hb hc⟩⟩
theorem BytesAt.of_blk {w : World} {g : Nat} {t : TypeId} {C : Array Value} (h : Blk t w g C) (bs : List Nat) (o n : Nat) (hn : n ≤ maxLen) (hl : bs.length = n) (hb : ∀ c ∈ bs, c < 256) (hC : ∀ k, k < n → C[o + k]? = some (cell (bs.getD k 0))) : BytesAt w (some ⟨g, o, none⟩) n bs :=
  ⟨hl, hn, hb, fun k hk => ⟨_, rfl, by rw [Addr.add_mid, h.at_ (o + k)]; exact hC k hk⟩⟩
theorem maxLen_small {n : Nat} (h : n ≤ 5000) : n ≤ maxLen := by unfold maxLen; omega
theorem cls_at (b : List Nat) (k : Nat) (hk : k < b.length) : (cls b)[k]? = some (cell (b.getD k 0)) := by simp [cls, hk]
theorem BytesAt.cls {w : World} {g : Nat} {t : TypeId} {b : List Nat} (h : Blk t w g (Go.Proofs.Ytpdbaediepofjaa.cls b)) (hb : ∀ c ∈ b, c < 256) (hl : b.length ≤ 5000) : BytesAt w (some ⟨g, 0, none⟩) b.length b :=
  .of_blk h b 0 b.length (maxLen_small hl) rfl hb (fun k hk => by rw [Nat.zero_add]; exact cls_at b k hk)

theorem conv_str {w : World} {A : Option Addr} {n cap : Nat} {bs : List Nat} (h : BytesAt w A n bs) : (convert 35 9 (.slice A n cap)).run Try.prog w = .ok (.string ⟨(toU bs).toArray⟩) w := by
  obtain ⟨hl, hm, hb, hc⟩ := h
  rcases Nat.eq_zero_or_pos n with rfl | h0
  · obtain rfl := List.length_eq_zero_iff.1 hl
    rw [run_convert_bytes_string w 35 9 5 A 0 cap (by kernel_rfl) (by kernel_rfl) (by kernel_rfl)]
    cases A <;> rfl
  · obtain ⟨ad, rfl, -⟩ := hc 0 h0
    have e : n = (toU bs).length := by rw [toU_length, hl]
    rw [e]
    refine run_convert_bytes_back (P := Try.prog) w 35 9 5 ad cap (toU bs) (by kernel_rfl) (by kernel_rfl) (by kernel_rfl) (fun j hj => ?_)
    obtain ⟨ad', e', h'⟩ := hc j (by omega)
    cases e'
    rw [h', toU_at hb hj]

theorem four_any (n : Nat) (hn : n < 4294967296) (w : World) :
    Calls Try.prog 25 #[.int .u32 n] w fun e w' => e = .returned (.slice (some ⟨w.heap.size, 0, none⟩) 4 4) ∧ w' = w.alloc (.cells (cls (four n)) 5) := by
  go_enter Try.func25, Try.ntmps25
  have E : Hid (cls (four n) = #[.int .u8 ((n : Int) / 16777216), .int .u8 ((n : Int) / 65536 % 256), .int .u8 ((n : Int) / 256 % 256), .int .u8 ((n : Int) % 256)]) := Lib.hid (by
    show #[cell (n / 16777216 % 256), cell (n / 65536 % 256), cell (n / 256 % 256), cell (n % 256)] = _
    unfold cell
    rw [show ((n / 16777216 % 256 : Nat) : Int) = (n : Int) / 16777216 by omega, show ((n / 65536 % 256 : Nat) : Int) = (n : Int) / 65536 % 256 by omega, show ((n / 256 % 256 : Nat) : Int) = (n : Int) / 256 % 256 by omega, show ((n % 256 : Nat) : Int) = (n : Int) % 256 by omega])
  go_wp2
  go_ret
  exact ⟨rfl, by rw [E.out]⟩

set_option maxHeartbeats 1000000 in
theorem put_four (g off cap : Nat) (v : Nat) (hv : v < 4294967296) (C : Array Value) (w : World) (h : Blk 5 w g C) (hs : off + 4 ≤ C.size) :
    Calls Try.prog 20 #[.slice (some ⟨g, off, none⟩) 4 cap, .int .u32 v] w fun e w' => e = .returned (.tuple #[]) ∧
      w' = (((w.setCell ⟨g, off, none⟩ (cell (v / 16777216 % 256))).setCell ⟨g, off + 1, none⟩ (cell (v / 65536 % 256))).setCell ⟨g, off + 2, none⟩ (cell (v / 256 % 256))).setCell ⟨g, off + 3, none⟩ (cell (v % 256)) := by
  have c0 : w.cell? ⟨g, off, none⟩ = some C[off] := (h.at_ off).trans (by simp)
  have c1 : w.cell? ⟨g, off + 1, none⟩ = some C[off + 1] := (h.at_ _).trans (by simp)
  have c2 : w.cell? ⟨g, off + 2, none⟩ = some C[off + 2] := (h.at_ _).trans (by simp)
  have c3 : w.cell? ⟨g, off + 3, none⟩ = some C[off + 3] := (h.at_ _).trans (by simp)
  have f0 := h.free off
  have f1 := h.free (off + 1)
  have f2 := h.free (off + 2)
  have f3 := h.free (off + 3)
  clear h
  generalize C[off] = v0 at *
  generalize C[off + 1] = v1 at *
  generalize C[off + 2] = v2 at *
  generalize C[off + 3] = v3 at *
  clear hs
  go_enter Try.func20, Try.ntmps20
  go_wp2
  refine wp_loop_rounds 5 ?_
  iterate 5
    rw [rounds_succ]
    go_wp2
  go_end0
  refine ⟨rfl, ?_⟩
  unfold cell
  rw [show ((v / 16777216 % 256 : Nat) : Int) = (v : Int) / 16777216 by omega, show ((v / 65536 % 256 : Nat) : Int) = (v : Int) / 65536 % 256 by omega, show ((v / 256 % 256 : Nat) : Int) = (v : Int) / 256 % 256 by omega, show ((v % 256 : Nat) : Int) = (v : Int) % 256 by omega]

set_option maxHeartbeats 1000000 in
theorem put_two (g off cap : Nat) (v : Nat) (hv : v < 65536) (C : Array Value) (w : World) (h : Blk 5 w g C) (hs : off + 2 ≤ C.size) :
    Calls Try.prog 20 #[.slice (some ⟨g, off, none⟩) 2 cap, .int .u32 v] w fun e w' => e = .returned (.tuple #[]) ∧
      w' = (w.setCell ⟨g, off, none⟩ (cell (v / 256 % 256))).setCell ⟨g, off + 1, none⟩ (cell (v % 256)) := by
  have c0 : w.cell? ⟨g, off, none⟩ = some C[off] := (h.at_ off).trans (by simp)
  have c1 : w.cell? ⟨g, off + 1, none⟩ = some C[off + 1] := (h.at_ _).trans (by simp)
  have f0 := h.free off
  have f1 := h.free (off + 1)
  clear h
  generalize C[off] = v0 at *
  generalize C[off + 1] = v1 at *
  clear hs
  go_enter Try.func20, Try.ntmps20
  go_wp2
  refine wp_loop_rounds 3 ?_
  iterate 3
    rw [rounds_succ]
    go_wp2
  go_end0
  refine ⟨rfl, ?_⟩
  unfold cell
  try rw [show ((v / 256 % 256 : Nat) : Int) = (v : Int) / 256 by omega, show ((v % 256 : Nat) : Int) = (v : Int) % 256 by omega]

/-! ### Get -/
theorem or_in (s c : Nat) (hs : s < 16777216) (hc : c < 256) : bits .or .u32 ((s : Int) * 256) (c : Int) = ((s * 256 + c : Nat) : Int) := by
  rw [show ((s : Int) * 256) = ((s * 256 : Nat) : Int) from by omega, u32_or_nat (s * 256) c (by omega) (by omega)]
  congr 1
  have h := Nat.two_pow_add_eq_or_of_lt (i := 8) (b := c) (by omega) s
  rw [show 2 ^ 8 * s = s * 256 by omega] at h
  exact h.symm
theorem pow_small {k : Nat} (hk : k ≤ 3) : 256 ^ k ≤ 16777216 := by
  have : k = 0 ∨ k = 1 ∨ k = 2 ∨ k = 3 := by omega
  rcases this with rfl | rfl | rfl | rfl <;> decide
set_option maxHeartbeats 400000 in
theorem get_any (A : Option Addr) (n cap : Nat) (bs : List Nat) (w : World) (h : BytesAt w A n bs) (hn : n ≤ 4) :
    Calls Try.prog 23 #[.slice A n cap] w fun e w' => e = .returned (.int .u32 (val bs : Nat)) ∧ w = w' := by
  have H := Lib.hid h
  clear h
  go_enter Try.func23, Try.ntmps23
  go_wp2
  go_loop [3, 8] (fun s i => ∃ k : Nat, k ≤ n ∧ i = .int .i64 k ∧ s = .int .u32 (val (bs.take k) : Nat)) (fun _ i => n - (intOf i).toNat)
  case atStart => exact ⟨0, by omega, rfl, rfl⟩
  case round =>
    obtain ⟨k, hk, rfl, rfl⟩ := hrel
    by_cases hlt : k < n
    · obtain ⟨ad, ha, hcell⟩ := H.out.2.2.2 k hlt
      have hc := H.out.lt k
      have hm : val (bs.take k) < 16777216 := Nat.lt_of_lt_of_le (val_lt k _ (by rw [List.length_take]; omega) (H.out.take_lt k)) (pow_small (by omega))
      have E : Hid (val (bs.take (k + 1)) = val (bs.take k) * 256 + bs.getD k 0) := Lib.hid (by rw [H.out.take_succ hlt, val_snoc])
      generalize val (bs.take k) = s at hm E ⊢
      generalize bs.getD k 0 = c at hc E hcell
      subst ha
      go_wp2
      go_round
      case rel => exact ⟨k + 1, by omega, by go_num, by rw [E.out, or_in s c hm hc]⟩
      case measure => simp [intOf]; omega
    · go_wp2
      go_ret
      obtain rfl : k = n := by omega
      exact ⟨ret_int (by rw [H.out.takeAll]), rfl⟩
end Go.Proofs.Ytpdbaediepofjaa
