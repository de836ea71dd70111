/-
  DiskSafe: the walk.
-/
import Derived.Test.YtnoolpgklenhaaaDskH
namespace Go.Proofs.Ytnoolpgklenhaaa
open Go.RowKit

/-- k sectors from b on are written, each full of a byte -/
def laid (b : Nat) (bs : List UInt8) (k : Nat) : Int → Option (List UInt8) := fun z => if (b : Int) ≤ z ∧ z < b + k then some (full (bs.getD (z - b).toNat 0)) else none
theorem laid_zero (b : Nat) (bs : List UInt8) : laid b bs 0 = fun _ => none := by
  funext z
  unfold laid
  rw [if_neg (by omega)]
theorem laid_next (b : Nat) (bs : List UInt8) (k : Nat) : upd (laid b bs k) (b + k : Int) (full (bs.getD k 0)) = laid b bs (k + 1) := by
  funext z
  by_cases h : z = b + k
  · subst h
    rw [upd_same]
    unfold laid
    rw [if_pos (by omega), show ((b : Int) + k - b).toNat = k by omega]
  · rw [upd_other _ h]
    unfold laid
    by_cases h2 : (b : Int) ≤ z ∧ z < b + k
    · rw [if_pos h2, if_pos (by omega)]
    · rw [if_neg h2, if_neg (by omega)]
theorem laid_at (b : Nat) (bs : List UInt8) (k i : Nat) (h : b ≤ i) (h2 : i < b + k) : laid b bs k i = some (full (bs.getD (i - b) 0)) := by
  unfold laid
  rw [if_pos (by omega), show ((i : Int) - b).toNat = i - b by omega]
theorem laid_off (b : Nat) (bs : List UInt8) (k i : Nat) (h : i < b ∨ b + k ≤ i) : laid b bs k i = none := by
  unfold laid
  rw [if_neg (by omega)]
section
variable {w : World} {A1 A2 A3 : Option Addr} {c1 c2 c3 : Nat} {xs ys : List UInt8} {ps : List Pk}
/-- what DiskSafe is handed -/
def SafeArgs (w : World) (A1 A2 A3 : Option Addr) (xs ys : List UInt8) (ps : List Pk) : Prop :=
  Bys w A1 xs.length xs ∧ Bys w A2 ys.length ys ∧ PicksAt w A3 ps ∧ (∀ ad, A3 = some ad → 0 < ps.length → ad.block < w.heap.size)

set_option maxHeartbeats 4000000 in
set_option maxRecDepth 100000 in
theorem safe_big (h : 20 < xs.length ∨ 20 < ys.length) (h1 : xs.length ≤ 9223372036854775807) (h2 : ys.length ≤ 9223372036854775807) :
    Calls Try.prog 4 #[.slice A1 xs.length c1, .slice A2 ys.length c2, .slice A3 ps.length c3] w fun e w' => e = .returned (.bool true) ∧ Below w.heap.size w w' := by
  by_cases hx : 20 < xs.length
  · clear h
    go_enter Try.func4, Try.ntmps4
    go_wp2_with fail
    refine (disk_head _).mono ?_
    rintro e w1 ⟨rfl, hb⟩
    have HB := Lib.hid hb
    clear hb
    go_wp2_with fail
    go_ret
    exact ⟨rfl, HB.out⟩
  · have hy : 20 < ys.length := by omega
    have dx : decide (20 < (xs.length : Int)) = false := decide_eq_false (by omega)
    clear h
    go_enter Try.func4, Try.ntmps4
    go_wp2_with fail
    refine (disk_head _).mono ?_
    rintro e w1 ⟨rfl, hb⟩
    have HB := Lib.hid hb
    clear hb
    go_wp2_with fail
    go_ret
    exact ⟨rfl, HB.out⟩

set_option maxHeartbeats 4000000 in
set_option maxRecDepth 100000 in
theorem safe_any (hx : xs.length ≤ 20) (hy : ys.length ≤ 20) (h : SafeArgs w A1 A2 A3 xs ys ps) (hc3 : ps.length ≤ c3) (hc4 : c3 ≤ 9223372036854775807) :
    Calls Try.prog 4 #[.slice A1 xs.length c1, .slice A2 ys.length c2, .slice A3 ps.length c3] w fun e w' => e = .returned (.bool true) ∧ Below w.heap.size w w' := by
  have dx : decide (20 < (xs.length : Int)) = false := decide_eq_false (by omega)
  have dy : decide (20 < (ys.length : Int)) = false := decide_eq_false (by omega)
  have AA := Lib.hid h
  clear h
  go_enter Try.func4, Try.ntmps4
  go_wp2_with fail
  refine (disk_head _).mono ?_
  rintro e w1 ⟨rfl, hb⟩
  have HB := Lib.hid hb
  clear hb
  go_wp2_with fail
  refine (new_ans 40 (by omega) (by omega) _).mono ?_
  rintro e w2 ⟨d, S, M, rfl, hD, hge, hb⟩
  have hge2 : w.heap.size ≤ d ∧ w.heap.size ≤ S ∧ w.heap.size ≤ M := by have := HB.out.size; omega
  have K := Lib.hid (And.intro hD (next HB.out hb))
  have G := Lib.hid hge2
  clear hD hge hge2 hb
  go_wp2_with fail
  go_loopw [29] (fun i u => ∃ k : Nat, k ≤ xs.length ∧ i = .int .i64 k ∧ (Dk u d S M 40 (fun _ => full 0) (laid 0 xs k) (-1) ∧ Below w.heap.size w u)) (fun i _ => xs.length - (intOf i).toNat)
  case atStart => exact ⟨0, by omega, rfl, by rw [laid_zero]; exact K.out⟩
  case round =>
    clear K
    obtain ⟨k, hk, rfl, hD, hb⟩ := hrel
    by_cases hlt : k < xs.length
    · obtain ⟨ad, ha, hc⟩ := (AA.out.1.held hb).cell hlt
      subst ha
      have Z := Lib.hid (And.intro hD hb)
      have E := Lib.hid (laid_next 0 xs k)
      clear hD hb
      generalize xs.getD k 0 = c at hc E
      have hbyte := c.toNat_lt
      go_wp2_with fail
      refine (full_ans c rfl _).mono ?_
      rintro e w3 ⟨g, rfl, hg, hB, hb3⟩
      have hgd : ∀ a, (some ⟨g, 0, none⟩ : Option Addr) = some a → a.block ≠ d := fun a e => by cases e; have := Z.out.1.head.lt; show g ≠ d; omega
      have K3 := Lib.hid (And.intro (Z.out.1.held hb3) (And.intro hB (And.intro (next Z.out.2 hb3) hgd)))
      clear hB hb3 hgd
      go_wp2_with fail
      refine (write_ok K3.out.1 (i := k) (by omega) (by omega) (by omega) K3.out.2.1 K3.out.2.2.2).mono ?_
      rintro e w4 ⟨rfl, hD, hT⟩
      have K4 := Lib.hid (And.intro hD (K3.out.2.2.1.trans (hT.below (mem2 G.out) K3.out.2.2.1.size)))
      clear hD hT
      go_wp2_with fail
      go_roundw
      case rel => exact ⟨k + 1, by omega, by go_num, by rw [← E.out]; simpa [dec] using K4.out.1, K4.out.2⟩
      case measure => simp [intOf]; omega
    · obtain rfl : k = xs.length := by omega
      have Z := Lib.hid (And.intro hD hb)
      clear hD hb
      go_wp2_with fail
      refine (sync_ok Z.out.1 (by decide)).mono ?_
      rintro e w3 ⟨rfl, hD, hT⟩
      have K3 := Lib.hid (And.intro hD (Z.out.2.trans (hT.below (mem3 G.out) Z.out.2.size)))
      clear hD hT
      go_wp2_with fail
      go_loopw [45] (fun i u => ∃ k : Nat, k ≤ ys.length ∧ i = .int .i64 k ∧ (Dk u d S M 40 (synced (fun _ => full 0) (laid 0 xs xs.length)) (laid 20 ys k) (-1) ∧ Below w.heap.size w u)) (fun i _ => ys.length - (intOf i).toNat)
      case atStart => exact ⟨0, by omega, rfl, by rw [laid_zero]; simpa [dec] using K3.out.1, K3.out.2⟩
      case round =>
        clear K3 Z
        obtain ⟨k, hk, rfl, hD, hb⟩ := hrel
        by_cases hlt : k < ys.length
        · obtain ⟨ad, ha, hc⟩ := (AA.out.2.1.held hb).cell hlt
          subst ha
          have Z := Lib.hid (And.intro hD hb)
          have E := Lib.hid (laid_next 20 ys k)
          clear hD hb
          generalize ys.getD k 0 = c at hc E
          have hbyte := c.toNat_lt
          go_wp2_with fail
          refine (full_ans c rfl _).mono ?_
          rintro e w3 ⟨g, rfl, hg, hB, hb3⟩
          have hgd : ∀ a, (some ⟨g, 0, none⟩ : Option Addr) = some a → a.block ≠ d := fun a e => by cases e; have := Z.out.1.head.lt; show g ≠ d; omega
          have K3 := Lib.hid (And.intro (Z.out.1.held hb3) (And.intro hB (And.intro (next Z.out.2 hb3) hgd)))
          clear hB hb3 hgd
          go_wp2_with fail
          refine (write_ok K3.out.1 (i := 20 + k) (by omega) (by omega) (by omega) K3.out.2.1 K3.out.2.2.2).mono ?_
          rintro e w4 ⟨rfl, hD, hT⟩
          have K4 := Lib.hid (And.intro hD (K3.out.2.2.1.trans (hT.below (mem2 G.out) K3.out.2.2.1.size)))
          clear hD hT
          go_wp2_with fail
          go_roundw
          case rel => exact ⟨k + 1, by omega, by go_num, by rw [← E.out]; simpa [dec] using K4.out.1, K4.out.2⟩
          case measure => simp [intOf]; omega
        · obtain rfl : k = ys.length := by omega
          have Z := Lib.hid (And.intro hD hb)
          have hP := AA.out.2.2.1.held hb
          have hA3 : ps = [] ∨ ∀ a, A3 = some a → a.block ∉ [d, S, M] := by
            cases ps with
            | nil => exact .inl rfl
            | cons p r => exact .inr (fun a e => by have := AA.out.2.2.2 a e (by simp); have := G.out; simp; omega)
          clear hD hb
          go_wp2_with fail
          refine (crash_any Z.out.1 A3 ps c3 hP hA3 hc3 hc4).mono ?_
          rintro e w4 ⟨rfl, hD, hT⟩
          have K4 := Lib.hid (And.intro hD (Z.out.2.trans (hT.below (mem3 G.out) Z.out.2.size)))
          clear hD hT hP hA3 Z
          have E4 : Hid (∀ i, i < xs.length → synced (crashed (synced (fun _ => full 0) (laid 0 xs xs.length)) (laid 20 ys ys.length) ps) (fun _ => none) i = full (xs.getD i 0)) := Lib.hid (fun i hi => by
            show crashed _ _ ps i = _
            unfold crashed
            rw [laid_off 20 ys ys.length i (by omega)]
            show synced _ _ i = _
            unfold synced
            rw [laid_at 0 xs xs.length i (by omega) (by omega)]
            rfl)
          generalize crashed (synced (fun _ => full 0) (laid 0 xs xs.length)) (laid 20 ys ys.length) ps = sf at *
          go_wp2_with fail
          go_loopw [62] (fun i u => ∃ k : Nat, k ≤ xs.length ∧ i = .int .i64 k ∧ (Dk u d S M 40 sf (fun _ => none) (-1) ∧ Below w.heap.size w u)) (fun i _ => xs.length - (intOf i).toNat)
          case atStart => exact ⟨0, by omega, rfl, K4.out⟩
          case round =>
            clear K4
            obtain ⟨k, hk, rfl, hD, hb⟩ := hrel
            by_cases hlt : k < xs.length
            · obtain ⟨ad, ha, hc⟩ := (AA.out.1.held hb).cell hlt
              subst ha
              have Z := Lib.hid (And.intro hD hb)
              have E := Lib.hid (E4.out k hlt)
              clear hD hb
              generalize xs.getD k 0 = c at hc E
              have hbyte := c.toNat_lt
              go_wp2_with fail
              refine (read_ok Z.out.1 (i := k) (by omega)).mono ?_
              rintro e w5 ⟨g1, cap1, rfl, hg1, hB, hb5⟩
              rw [E.out] at hB
              have K5 := Lib.hid (And.intro (Z.out.1.held hb5) (next Z.out.2 hb5))
              clear hb5
              go_wp2_with fail
              refine wp_region_held_drew (S := fun u => Bys u (some ⟨g1, 0, none⟩) 48 (full c)) (by kernel_rfl) hB (fun hHeld => ?_)
              refine take_list (i := 0) (v := .int .i64 0) rfl (by kernel_rfl) (by kernel_rfl) (by kernel_rfl) (fun _ _ _ h => h) (.inl ⟨rfl, ?_⟩) hHeld ?_
              · (intro w hSw; go_simp)
              go_frame
              refine take_list (i := 1) (v := .bool false) rfl (by kernel_rfl) (by kernel_rfl) (by kernel_rfl) (fun _ _ _ h => h) (.inl ⟨rfl, ?_⟩) hHeld ?_
              · (intro w hSw; go_simp)
              go_frame
              refine take_list (i := 2) (v := .bool false) rfl (by kernel_rfl) (by kernel_rfl) (by kernel_rfl) (fun _ _ _ h => h) (.inl ⟨rfl, ?_⟩) hHeld ?_
              · (intro w hSw; go_simp)
              go_frame
              refine take_list (i := 3) (v := .slice (some ⟨g1, 0, none⟩) 48 cap1) rfl (by kernel_rfl) (by kernel_rfl) (by kernel_rfl) (fun _ _ _ h => h) (.inl ⟨rfl, ?_⟩) hHeld ?_
              · (intro w hSw; go_simp)
              go_frame
              refine take_list (i := 4) (v := .string ⟨(full c).toArray⟩) rfl (by kernel_rfl) (by kernel_rfl) (by kernel_rfl) (fun _ _ _ h => h) (.inl ⟨rfl, ?_⟩) hHeld ?_
              · (intro w hSw; have h := conv_back (cap := cap1) hSw (by omega); go_simp)
              go_frame
              refine take_list (i := 5) (v := .int .u8 (c.toNat : Int)) rfl (by kernel_rfl) (by kernel_rfl) (by kernel_rfl) (fun _ _ _ h => h) (.inl ⟨rfl, ?_⟩) hHeld ?_
              · (intro w hSw; go_simp)
              go_frame
              refine ready_list (i := 6) rfl (by kernel_rfl) (fun K hK => ?_)
              go_simp
              refine (full_ans c rfl _).mono ?_
              rintro e wa ⟨ga, rfl, -, hBn, hba⟩
              refine hK.out _ _ (hHeld.held hba) (fun hHeld => ?_)
              clear hK K
              try go_frame
              refine ready_list (i := 7) rfl (by kernel_rfl) (fun K hK => ?_)
              have hcv := conv_back (cap := 48) hBn (by omega)
              go_simp
              refine hK.out _ _ hHeld (fun hHeld => ?_)
              clear hK K hcv
              try go_frame
              refine take_list (i := 8) (v := .bool false) rfl (by kernel_rfl) (by kernel_rfl) (by kernel_rfl) (fun _ _ _ h => h) (.inl ⟨rfl, ?_⟩) hHeld ?_
              · (intro w hSw; go_simp)
              go_frame
              refine take_list (i := 9) (v := .bool false) rfl (by kernel_rfl) (by kernel_rfl) (by kernel_rfl) (fun _ _ _ h => h) (.inl ⟨rfl, ?_⟩) hHeld ?_
              · (intro w hSw; go_simp)
              go_frame

              refine wpAnyH_done (by kernel_rfl) ?_ _
              have K6 := Lib.hid (And.intro (K5.out.1.drew.held hba) (next K5.out.2.drew hba))
              clear hHeld hba hBn hB
              go_wp2_with fail
              go_roundw
              case rel => exact ⟨k + 1, by omega, by go_num, K6.out⟩
              case measure => simp [intOf]; omega
            · obtain rfl : k = xs.length := by omega
              have Z := Lib.hid hb
              clear hD hb
              go_wp2_with fail
              go_ret
              exact ⟨rfl, Z.out⟩
end
end Go.Proofs.Ytnoolpgklenhaaa
