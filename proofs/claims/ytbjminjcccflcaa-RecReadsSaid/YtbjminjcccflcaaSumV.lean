/-
  The contracts of sum.Of and of the statement's own Of: what each answers, of whatever bytes: the sums of the plain text Crc.
-/
import Derived.Test.YtbjminjcccflcaaProg
import Derived.Test.YtbjminjcccflcaaCrc
import Derived.Test.YtbjminjcccflcaaBase
import Derived.WalkKit
import Derived.WalkSpells
import Derived.WalkLawsBesides
import Derived.Lib.Hide
import Derived.Outline
import Derived.Laws.BitsAllLaws
namespace Go.Proofs.Ytbjminjcccflcaa
open Go.RowKit

/-- A slice's value that reads as these bytes; nil let in. -/
def BytesAt (w : World) (A : Option Addr) (n : Nat) (bs : List Nat) : Prop :=
  bs.length = n ∧ n ≤ maxLen ∧ (∀ c, c ∈ bs → c < 256) ∧ ∀ k, k < n → ∃ ad, A = some ad ∧ w.cell? (ad.add k) = some (.int .u8 (bs.getD k 0 : Nat))
theorem BytesAt.take_succ {w : World} {A : Option Addr} {n : Nat} {bs : List Nat} (h : BytesAt w A n bs) {k : Nat} (hk : k < n) : bs.take (k + 1) = bs.take k ++ [bs.getD k 0] := by
  have hl : k < bs.length := by have := h.1; omega
  rw [List.take_succ_eq_append_getElem hl]
  simp [List.getD, hl]
theorem BytesAt.takeAll {w : World} {A : Option Addr} {n : Nat} {bs : List Nat} (h : BytesAt w A n bs) : bs.take n = bs := by rw [← h.1, List.take_length]
theorem BytesAt.lt {w : World} {A : Option Addr} {n : Nat} {bs : List Nat} (h : BytesAt w A n bs) (k : Nat) : bs.getD k 0 < 256 := by
  rw [List.getD_eq_getElem?_getD]
  cases e : bs[k]? with
  | none => simp
  | some c => simpa using h.2.2.1 c (List.mem_of_getElem? e)
theorem BytesAt.take_lt {w : World} {A : Option Addr} {n : Nat} {bs : List Nat} (h : BytesAt w A n bs) (k : Nat) : ∀ c, c ∈ bs.take k → c < 256 :=
  fun c hc => h.2.2.1 c (List.mem_of_mem_take hc)

/-! ### eightHigher -/
theorem and_top (m : Nat) (hm : m < 4294967296) : (bits .and .u32 (m : Int) 2147483648 != 0) = decide (2147483648 ≤ m) := by
  rw [show (2147483648 : Int) = ((2147483648 : Nat) : Int) from rfl, u32_and_nat m 2147483648 hm (by omega)]
  have h := nat_bit 31 m
  simp only [Nat.reducePow] at h
  rw [h]
  by_cases hh : 2147483648 ≤ m
  · have : m / 2147483648 % 2 = 1 := by omega
    simp [this, hh]
  · have : m / 2147483648 % 2 = 0 := by omega
    simp [this, hh]
theorem dbl (m : Nat) : (m : Int) * 2 % 4294967296 = ((2 * m % 4294967296 : Nat) : Int) := by omega
theorem xor_turn (m : Nat) : bits .xor .u32 ((m : Int) * 2 % 4294967296) 79764919 = (((2 * m % 4294967296) ^^^ 79764919 : Nat) : Int) := by
  rw [dbl]
  exact u32_xor_nat (2 * m % 4294967296) 79764919 (Nat.mod_lt _ (by omega)) (by omega)

set_option maxHeartbeats 400000 in
theorem eight_any (n : Nat) (hn : n < 4294967296) (w : World) :
    Calls Try.prog 23 #[.int .u32 n] w fun e w' => e = .returned (.int .u32 (Crc.steps 8 n : Nat)) ∧ w = w' := by
  go_enter Try.func23, Try.ntmps23
  go_wp2
  go_loop [0, 3, 4] (fun s _ i => ∃ k : Nat, k ≤ 8 ∧ i = .int .i64 k ∧ s = .int .u32 (Crc.steps k n : Nat)) (fun _ _ i => 8 - (intOf i).toNat)
  case atStart => exact ⟨0, by omega, rfl, rfl⟩
  case round =>
    obtain ⟨k, hk, rfl, rfl⟩ := hrel
    by_cases hlt : k < 8
    · have hm := Crc.steps_lt k n hn
      have E : Hid (Crc.steps (k + 1) n = Crc.step (Crc.steps k n)) := Lib.hid rfl
      generalize Crc.steps k n = m at hm E
      go_wp2
      · have ht : 2147483648 ≤ m := by
          have h : (bits .and .u32 (m : Int) 2147483648 != 0) = true := by assumption
          rw [and_top m hm] at h; simpa using h
        go_round
        case rel => exact ⟨k + 1, by omega, by go_num, by rw [E.out, Crc.step, if_pos ht, xor_turn]⟩
        case measure => simp [intOf]; omega
      · have ht : ¬ 2147483648 ≤ m := by
          have h : (bits .and .u32 (m : Int) 2147483648 != 0) = false := by assumption
          rw [and_top m hm] at h; simpa using h
        go_round
        case rel => exact ⟨k + 1, by omega, by go_num, by rw [E.out, Crc.step, if_neg ht, dbl]⟩
        case measure => simp [intOf]; omega
    · obtain rfl : k = 8 := by omega
      go_wp2
      go_ret
      exact ⟨rfl, rfl⟩

/-! ### Of -/
theorem put_in (s c : Nat) (hs : s < 4294967296) (hc : c < 256) : bits .xor .u32 (s : Int) ((c : Int) * 16777216) = ((s ^^^ (c * 16777216) : Nat) : Int) := by
  rw [show ((c : Int) * 16777216) = ((c * 16777216 : Nat) : Int) from by omega]
  exact u32_xor_nat s (c * 16777216) hs (by omega)

set_option maxHeartbeats 400000 in
theorem of_any (A : Option Addr) (n cap : Nat) (bs : List Nat) (w : World) (h : BytesAt w A n bs) :
    Calls Try.prog 15 #[.slice A n cap] w fun e w' => e = .returned (.int .u32 (Crc.all bs : Nat)) ∧ w = w' := by
  have hn : n ≤ 9223372036854775807 := by have := h.2.1; unfold maxLen at this; omega
  have H := Lib.hid h
  clear h
  go_enter Try.func15, Try.ntmps15
  go_wp2
  go_loop [3, 8] (fun s i => ∃ k : Nat, k ≤ n ∧ i = .int .i64 k ∧ s = .int .u32 (Crc.all (bs.take k) : Nat)) (fun _ i => n - (intOf i).toNat)
  case atStart => exact ⟨0, by omega, rfl, rfl⟩
  case round =>
    obtain ⟨k, hk, rfl, rfl⟩ := hrel
    have hm := Crc.all_lt _ (H.out.take_lt k)
    by_cases hlt : k < n
    · obtain ⟨ad, ha, hcell⟩ := H.out.2.2.2 k hlt
      have hc := H.out.lt k
      have E : Hid (Crc.all (bs.take (k + 1)) = Crc.byteAt (Crc.all (bs.take k)) (bs.getD k 0)) := Lib.hid (by rw [H.out.take_succ hlt, Crc.all_snoc])
      generalize Crc.all (bs.take k) = s at hm E ⊢
      generalize bs.getD k 0 = c at hc E hcell
      subst ha
      go_wp2_with fail
      rw [put_in s c hm hc]
      refine (eight_any _ (Crc.start_lt s c hm hc) _).mono ?_
      rintro e w' ⟨rfl, rfl⟩
      go_wp2
      go_round
      case rel => exact ⟨k + 1, by omega, by go_num, by rw [E.out]; rfl⟩
      case measure => simp [intOf]; omega
    · go_wp2
      go_ret
      obtain rfl : k = n := by omega
      exact ⟨ret_int (by rw [H.out.takeAll]), rfl⟩

/-! ### the statement's own Of -/
theorem bit_test (c x i : Nat) (hc : c < 256) : (!(bits .and .u8 ((c : Int) / 2 ^ i) 1 == 1) == decide (2147483648 ≤ (x : Int))) = decide ((c / 2 ^ i % 2 = 1) ≠ (2147483648 ≤ x)) := by
  have hd : c / 2 ^ i < 256 := Nat.lt_of_le_of_lt (Nat.div_le_self _ _) hc
  rw [show ((c : Int) / 2 ^ i) = ((c / 2 ^ i : Nat) : Int) from by simp [Int.natCast_ediv]]
  rw [show (1 : Int) = ((1 : Nat) : Int) from rfl, u8_and_nat _ 1 hd (by omega), nat_mask1]
  have e1 : (((c / 2 ^ i % 2 : Nat) : Int) == ((1 : Nat) : Int)) = decide (c / 2 ^ i % 2 = 1) := by
    rw [Bool.eq_iff_iff]; simp only [beq_iff_eq, decide_eq_true_eq]; omega
  have e2 : decide (((2147483648 : Nat) : Int) ≤ (x : Int)) = decide (2147483648 ≤ x) := by
    rw [Bool.eq_iff_iff]; simp only [decide_eq_true_eq]; omega
  rw [e1]
  rw [show (2147483648 : Int) = ((2147483648 : Nat) : Int) from rfl, e2]
  by_cases h1 : c / 2 ^ i % 2 = 1 <;> by_cases h2 : 2147483648 ≤ x <;> simp [h1, h2]
set_option maxHeartbeats 400000 in
theorem ref_any (A : Option Addr) (n cap : Nat) (bs : List Nat) (w : World) (h : BytesAt w A n bs) :
    Calls Try.prog 12 #[.slice A n cap] w fun e w' => e = .returned (.int .u32 (Crc.all bs : Nat)) ∧ w = w' := by
  have hn : n ≤ 9223372036854775807 := by have := h.2.1; unfold maxLen at this; omega
  have H := Lib.hid h
  clear h
  go_enter Try.func12, Try.ntmps12
  go_wp2
  go_loop [3, 11] (fun s i => ∃ k : Nat, k ≤ n ∧ i = .int .i64 k ∧ s = .int .u32 (Crc.all (bs.take k) : Nat)) (fun _ i => n - (intOf i).toNat)
  case atStart => exact ⟨0, by omega, rfl, rfl⟩
  case round =>
    obtain ⟨k, hk, rfl, rfl⟩ := hrel
    have hm := Crc.all_lt _ (H.out.take_lt k)
    by_cases hlt : k < n
    · obtain ⟨ad, ha, hcell⟩ := H.out.2.2.2 k hlt
      have hc := H.out.lt k
      have E : Hid (Crc.all (bs.take (k + 1)) = Crc.bitsIn (Crc.all (bs.take k)) (bs.getD k 0) 8) := Lib.hid (by rw [H.out.take_succ hlt, Crc.all_snoc, Crc.byteAt_eq _ _ hm hc])
      generalize Crc.all (bs.take k) = s at hm E ⊢
      generalize bs.getD k 0 = c at hc E hcell
      subst ha
      go_wp2
      go_loop [3, 6] (fun x i => ∃ j : Nat, j ≤ 8 ∧ i = .int .i64 (7 - (j : Int)) ∧ x = .int .u32 (Crc.bitsIn s c j : Nat)) (fun _ i => (intOf i + 1).toNat)
      case atStart => exact ⟨0, by omega, rfl, rfl⟩
      case round =>
        obtain ⟨j, hj, rfl, rfl⟩ := hrel
        by_cases hj8 : j < 8
        · have hx := Crc.bitsIn_lt j s c hm
          have E2 : Hid (Crc.bitsIn s c (j + 1) = Crc.bitIn (Crc.bitsIn s c j) c (7 - j)) := Lib.hid rfl
          generalize Crc.bitsIn s c j = x at hx E2 ⊢
          go_wp2
          · have ht : (c / 2 ^ (7 - j) % 2 = 1) ≠ (2147483648 ≤ x) := by
              have h : (!(bits .and .u8 ((c : Int) / 2 ^ (7 - j)) 1 == 1) == decide (2147483648 ≤ (x : Int))) = true := by assumption
              rw [bit_test c x _ hc] at h; exact of_decide_eq_true h
            go_round
            case rel => exact ⟨j + 1, by omega, by go_num, by rw [E2.out, Crc.bitIn, if_pos ht, xor_turn]⟩
            case measure => simp [intOf]; omega
          · have ht : ¬ ((c / 2 ^ (7 - j) % 2 = 1) ≠ (2147483648 ≤ x)) := by
              have h : (!(bits .and .u8 ((c : Int) / 2 ^ (7 - j)) 1 == 1) == decide (2147483648 ≤ (x : Int))) = false := by assumption
              rw [bit_test c x _ hc] at h; exact of_decide_eq_false h
            go_round
            case rel => exact ⟨j + 1, by omega, by go_num, by rw [E2.out, Crc.bitIn, if_neg ht, dbl]⟩
            case measure => simp [intOf]; omega
        · obtain rfl : j = 8 := by omega
          go_wp2
          go_round
          case rel => exact ⟨k + 1, by omega, by go_num, by rw [E.out]⟩
          case measure => simp [intOf]; omega
    · go_wp2
      go_ret
      obtain rfl : k = n := by omega
      exact ⟨ret_int (by rw [H.out.takeAll]), rfl⟩
end Go.Proofs.Ytbjminjcccflcaa
