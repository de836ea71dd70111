/-
  The statement's own turned: a sector with bits turned, as a string.
-/
import Derived.Test.YtnoolpgklenhaaaDskH
import Derived.Laws.IdiomStrings
namespace Go.Proofs.Ytnoolpgklenhaaa
open Go.RowKit

/-- a slice's bytes, that may be written -/
def ByFree (w : World) (g : Nat) (s : List UInt8) : Prop := Bys w (some ⟨g, 0, none⟩) s.length s ∧ ∀ j, j < s.length → w.frozen? ⟨g, j, none⟩ = false
theorem ByFree.at_ {w : World} {g : Nat} {s : List UInt8} (h : ByFree w g s) {j : Nat} (hj : j < s.length) : w.cell? ⟨g, j, none⟩ = some (.int .u8 ((s.getD j 0).toNat : Int)) := by
  obtain ⟨ad, e, hc⟩ := h.1.cell hj
  cases e
  rw [Addr.add_mid, Nat.zero_add] at hc
  exact hc
theorem ByFree.store {w : World} {g : Nat} {s : List UInt8} (h : ByFree w g s) {j : Nat} (hj : j < s.length) (b : UInt8) : ByFree (w.setCell ⟨g, j, none⟩ (.int .u8 (b.toNat : Int))) g (s.set j b) := by
  refine ⟨⟨rfl, fun _ => ⟨_, rfl, fun k v hv => ?_⟩⟩, fun k hk => ?_⟩
  · rw [Addr.add_mid, Nat.zero_add]
    have hk : k < s.length := by
      have := (List.getElem?_eq_some_iff.1 hv).1
      simpa [sec_length] using this
    by_cases e : k = j
    · subst e
      rw [World.cell?_setCell_same _ _ _ (h.at_ hk)]
      rw [sec_get] at hv
      simp [hk] at hv
      rw [← hv]
    · rw [World.cell?_setCell_other _ _ _ _ (by intro e2; cases e2; exact e rfl), h.at_ hk]
      rw [sec_get, List.getElem?_set_ne (by omega)] at hv
      simp [hk] at hv
      simp [List.getD, hk, hv]
  · rw [World.frozen?_setCell]
    exact h.2 k (by simpa using hk)
theorem new_bytes (w : World) (s : List UInt8) (hs : s.length = 48) : ∃ cap w', (convert 9 28 (.string ⟨s.toArray⟩)).run Try.prog w = .ok (.slice (some ⟨w.heap.size, 0, none⟩) 48 cap) w' ∧ ByFree w' w.heap.size s ∧ Below w.heap.size w w' := by
  have h := run_bytes_of_string (P := Try.prog) w 9 28 5 ⟨s.toArray⟩ (by kernel_rfl) (by kernel_rfl) (by kernel_rfl)
  have hsz : (⟨s.toArray⟩ : ByteArray).size = 48 := by show s.toArray.size = 48; simp [hs]
  rw [hsz] at h
  refine ⟨_, _, h, ⟨⟨rfl, fun _ => ⟨_, rfl, fun j v hv => ?_⟩⟩, fun j hj => ?_⟩, (Below.refl _ _).drew.alloc (Nat.le_refl _) _⟩
  · rw [Addr.add_mid, Nat.zero_add]
    refine (World.cell?_alloc_mark w.drew _ _ _ j).trans ?_
    have hj : j < s.length := by
      have := (List.getElem?_eq_some_iff.1 hv).1
      simpa [sec_length] using this
    unfold bytesRow
    rw [Array.getElem?_append_left (by simpa using hj)]
    rw [sec_get] at hv
    simpa using hv
  · have hge := grownCap_ge w 48 0 5
    have hsize : (bytesRow ⟨s.toArray⟩ (grownCap w 48 0 5)).size = grownCap w 48 0 5 := by
      unfold bytesRow
      simp [hsz]
      omega
    rw [hsize]
    have hb : (w.drew.alloc (.cells (bytesRow ⟨s.toArray⟩ (grownCap w 48 0 5)) 5 (grownCap w 48 0 5, grownCap w 48 0 5 + 1))).heap[w.heap.size]? = some (.cells (bytesRow ⟨s.toArray⟩ (grownCap w 48 0 5)) 5 (grownCap w 48 0 5, grownCap w 48 0 5 + 1)) := heap_alloc_new w.drew _
    simp only [World.frozen?, hb]
    simp
    omega
theorem two_pow {m : Nat} (h : m < 8) : (2 : Int) ^ (7 - m) % 256 = 128 / 2 ^ m := by
  have : m = 0 ∨ m = 1 ∨ m = 2 ∨ m = 3 ∨ m = 4 ∨ m = 5 ∨ m = 6 ∨ m = 7 := by omega
  rcases this with rfl | rfl | rfl | rfl | rfl | rfl | rfl | rfl <;> decide
theorem bitT (T : Nat) (ht : T < 4294967296) : (bits .and .u32 (T : Int) 1 == 1) = decide (T % 2 = 1) := by
  rw [show (1 : Int) = ((1 : Nat) : Int) from rfl, u32_and_nat _ 1 ht (by omega), nat_mask1]
  rw [Bool.eq_iff_iff]; simp only [beq_iff_eq, decide_eq_true_eq]; omega

set_option maxHeartbeats 1000000 in
set_option maxRecDepth 100000 in
theorem turned_any (w : World) (s : List UInt8) (hs : s.length = 48) (a : Int) (t : Nat) (ht : t < 4294967296) :
    Calls Try.prog 10 #[.string ⟨s.toArray⟩, .int .i64 a, .int .u32 (t : Int)] w fun e w' => e = .returned (.string ⟨(spoil s (firstOf a) t 32).toArray⟩) ∧ Below w.heap.size w w' := by
  obtain ⟨cap, w1, hrun, hX, hb⟩ := new_bytes w s hs
  have K := Lib.hid (And.intro hX hb)
  clear hX hb
  go_enter Try.func10, Try.ntmps10
  go_wp2_with fail
  rw [first_eq]
  have hF := firstOf_lt a
  generalize hF0 : firstOf a = F at *
  have HF := Lib.hid hF0
  clear hF0 hrun
  generalize IntKind.u64.wrap a = A
  generalize hg : w.heap.size = g at *
  have HG := Lib.hid hg
  clear hg
  go_loopw [2, 9] (fun tn i u => ∃ k : Nat, k ≤ 32 ∧ i = .int .u64 k ∧ tn = .int .u32 (t / 2 ^ k : Nat) ∧ (ByFree u g (spoil s F t k) ∧ Below g w u)) (fun _ i _ => 32 - (intOf i).toNat)
  case atStart => exact ⟨0, by omega, rfl, by simp, K.out⟩
  case round =>
    clear K
    obtain ⟨k, hk, rfl, rfl, hX, hb⟩ := hrel
    have Z := Lib.hid (And.intro hX hb)
    clear hX hb
    by_cases hlt : k < 32
    · have hT : t / 2 ^ k < 4294967296 := Nat.lt_of_le_of_lt (Nat.div_le_self _ _) ht
      have hl : (spoil s F t k).length = 48 := by rw [spoil_length, hs]
      have ET : Hid (t / 2 ^ k / 2 = t / 2 ^ (k + 1)) := Lib.hid (by rw [Nat.div_div_eq_div_mul, Nat.pow_succ])
      by_cases hbit : t / 2 ^ k % 2 = 1
      · have hb1 : (bits .and .u32 ((t / 2 ^ k : Nat) : Int) 1 == 1) = true := by rw [bitT _ hT]; simpa using hbit
        by_cases hc : F + k < 384
        · have d1 : decide ((F : Int) + k < 384) = true := decide_eq_true (by omega)
          have E : Hid (spoil s F t (k + 1) = flipS (spoil s F t k) (F + k)) := Lib.hid (spoil_yes hc hbit)
          have c0 : wr.cell? ⟨g, (F + k) / 8, none⟩ = some (.int .u8 (((spoil s F t k).getD ((F + k) / 8) 0).toNat : Int)) := Z.out.1.at_ (by omega)
          have f0 : wr.frozen? ⟨g, (F + k) / 8, none⟩ = false := Z.out.1.2 _ (by omega)
          clear hbit
          generalize t / 2 ^ k = T at *
          go_wp2_with fail
          go_roundw
          case rel =>
            have e1 := flip_eq (spoil s F t k) ((F + k) / 8) ((F + k) % 8)
            rw [← two_pow (Nat.mod_lt _ (by omega)), List.getD_eq_getElem?_getD] at e1
            have hX2 := Z.out.1.store (j := (F + k) / 8) (by omega) (flipB ((spoil s F t k).getD ((F + k) / 8) 0) ((F + k) % 8))
            refine ⟨k + 1, by omega, by go_num, by rw [← ET.out]; go_num, ?_⟩
            rw [E.out, e1]
            exact ⟨hX2, Z.out.2.setCell (by simp) _⟩
          case measure => simp [intOf]; omega
        · have d1 : decide ((F : Int) + k < 384) = false := decide_eq_false (by omega)
          have E : Hid (spoil s F t (k + 1) = spoil s F t k) := Lib.hid (spoil_no (fun h => hc h.1))
          clear hbit
          generalize t / 2 ^ k = T at *
          go_wp2_with fail
          go_roundw
          case rel => exact ⟨k + 1, by omega, by go_num, by rw [← ET.out]; go_num, by rw [E.out]; exact Z.out⟩
          case measure => simp [intOf]; omega
      · have E : Hid (spoil s F t (k + 1) = spoil s F t k) := Lib.hid (spoil_no (fun h => hbit h.2))
        have hb0 : (bits .and .u32 ((t / 2 ^ k : Nat) : Int) 1 == 1) = false := by rw [bitT _ hT]; simp; omega
        clear hbit
        generalize t / 2 ^ k = T at *
        go_wp2_with fail
        go_roundw
        case rel => exact ⟨k + 1, by omega, by go_num, by rw [← ET.out]; go_num, by rw [E.out]; exact Z.out⟩
        case measure => simp [intOf]; omega
    · obtain rfl : k = 32 := by omega
      have hl : (spoil s F t 32).length = 48 := by rw [spoil_length, hs]
      have hB := Z.out.1.1
      rw [hl] at hB
      have hcv := conv_back (cap := cap) hB (by omega)
      have EF : Hid (spoil s (firstOf a) t 32 = spoil s F t 32) := Lib.hid (by rw [HF.out])
      clear hB hl
      go_wp2_with fail
      go_ret
      obtain rfl := HG.out
      exact ⟨by rw [EF.out]; rfl, Z.out.2⟩
end Go.Proofs.Ytnoolpgklenhaaa
