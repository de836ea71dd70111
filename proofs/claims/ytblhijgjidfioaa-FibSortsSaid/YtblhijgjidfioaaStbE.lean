/-
  A sort that keeps the order of equals: merging, the way that calls itself, where the first part is the longer one.
-/
import Derived.Test.YtblhijgjidfioaaStbD
namespace Go.Proofs.Ytblhijgjidfioaa
open Go.RowKit Go.Lib Go.Sort Fm Sb

set_option maxHeartbeats 4000000 in
set_option maxRecDepth 1000000 in
theorem symC1_any {blk off cap a m b mid sz : Nat} {d0 d : Array De} {w0 w : World} (R : RW w0 blk off d0) (hs : d.size = d0.size) (hz : d.size = sz) (S : SW w0 blk off d w) (hb : b ≤ d.size) (ham : a + 1 < m) (hmb : m + 1 < b) (hsz : d.size < 4611686018427387904) (hM : Mer a m b d) (hmid : mid = (a + b) / 2) (hcase : mid < m)
    (IH : SymIH b a blk off cap sz w0 d0) :
    Calls Try.prog 64 #[.slice (some ⟨blk, off, none⟩) sz cap, .int .i64 a, .int .i64 m, .int .i64 b, FV] w fun e w' => e = .returned (.tuple #[]) ∧ ∃ d', SW w0 blk off d' w' ∧ PermIn a b d d' ∧ Srt a b d' := by
  have mixed := mixed_orders
  have HS := Lib.hid (And.intro S (And.intro hs (And.intro hz (And.intro hM IH))))
  have hb2 : b < 4611686018427387904 := by omega
  have hbz : b ≤ sz := by omega
  have r1 : IntKind.i64.wrap ((m : Int) - (a : Int)) = (m : Int) - (a : Int) := by rw [IntKind.wrap_i64]; omega
  have q1 : ((m : Int) - (a : Int) == 1) = false := by simp; omega
  have r2 : IntKind.i64.wrap ((b : Int) - (m : Int)) = (b : Int) - (m : Int) := by rw [IntKind.wrap_i64]; omega
  have q2 : ((b : Int) - (m : Int) == 1) = false := by simp; omega
  have e3 : ((a : Int) + (b : Int)) / 2 = (mid : Int) := by omega
  have hm1 : a < mid := by omega
  have hm2 : mid < b := by omega
  obtain ⟨lo, hlo⟩ : ∃ lo, lo = mid + m - b := ⟨_, rfl⟩
  have hlo1 : a ≤ lo := by omega
  have hlu : lo ≤ mid := by omega
  have hmp : mid + m - lo ≤ b := by omega
  unfold FV
  clear S hs hz hM hb hmid IH
  go_enter Try.func64, Try.ntmps64
  have h0 : (mid : Int) < (m : Int) := by omega
  go_wp2
  go_loopg [20, 21] b (fun g vi vj wr => ∃ (i j : Nat), vi = .int .i64 i ∧ vj = .int .i64 j ∧ j - i ≤ g ∧ lo ≤ i ∧ i ≤ j ∧ j ≤ mid ∧ Hid (SW w0 blk off d wr ∧ (i = lo ∨ ¬ Kl d[mid + m - i]! d[i - 1]!) ∧ (j = mid ∨ Kl d[mid + m - 1 - j]! d[j]!)))
  case atStart => exact ⟨lo, mid, by congr 1; omega, rfl, by omega, Nat.le_refl _, hlu, Nat.le_refl _, HS.out.1, .inl rfl, .inl rfl⟩
  case round =>
    obtain ⟨i, j, rfl, rfl, hg, hai, hij, hjb, H⟩ := hrel
    have hds : b ≤ d.size := by rw [HS.out.2.2.1]; exact hbz
    by_cases hlt : i < j
    · have hltz : (i : Int) < (j : Int) := by omega
      obtain ⟨h, hh⟩ : ∃ h : Nat, h = (i + j) / 2 := ⟨_, rfl⟩
      have hh2 : ((i : Int) + (j : Int)) / 2 = (h : Int) := by omega
      have h1 : i ≤ h := by omega
      have h2 : h < j := by omega
      clear hh
      obtain ⟨p, hp⟩ : ∃ p : Nat, p = mid + m - 1 - h := ⟨_, rfl⟩
      have r6 : IntKind.i64.wrap ((mid : Int) + (m : Int) - 1 - (h : Int)) = (mid : Int) + (m : Int) - 1 - (h : Int) := by rw [IntKind.wrap_i64]; omega
      have e6 : ((mid : Int) + (m : Int) - 1 - (h : Int)).toNat = p := by omega
      have e6a : (0 : Int) ≤ (mid : Int) + (m : Int) - 1 - (h : Int) := by omega
      have e6c : (h : Int) ≤ (mid : Int) + (m : Int) - 1 := by omega
      have e6b : (mid : Int) + (m : Int) - 1 - (h : Int) < (sz : Int) := by omega
      have hhz : (h : Int) < (sz : Int) := by omega
      have hpz : (p : Int) < (sz : Int) := by omega
      have hpp : mid + m - (h + 1) = p := by omega
      have hpl : p < b := by omega
      have G1 := grown_at H.out.1 R HS.out.2.1 (show p < d.size by omega) rfl
      have G2 := grown_at H.out.1 R HS.out.2.1 (show h < d.size by omega) rfl
      have HC := fun n os => cmpE_gr d[p]! d[h]! (grow (wr.drewN n) os)
      have hK := cf_lt d[p]! d[h]!
      obtain ⟨c, hc⟩ : ∃ c, cf d[p]! d[h]! = c := ⟨_, rfl⟩
      simp only [hc, dcl, ecl] at HC
      rw [hc] at hK
      generalize d[p]!.e = xh at G1 HC
      generalize d[h]!.e = xa at G2 HC
      obtain ⟨a0, a1, a2, a3⟩ := xh
      obtain ⟨b0, b1, b2, b3⟩ := xa
      have HC' := Lib.hid (And.intro HC (And.intro hK hds))
      have c0 := fun n os => (G1 n os).c0
      have c1 := fun n os => (G1 n os).c1
      have c2 := fun n os => (G1 n os).c2
      have c3 := fun n os => (G1 n os).c3
      have c4 := fun n os => (G2 n os).c0
      have c5 := fun n os => (G2 n os).c1
      have c6 := fun n os => (G2 n os).c2
      have c7 := fun n os => (G2 n os).c3
      dsimp only at c0 c1 c2 c3 c4 c5 c6 c7
      clear HC hK hc G1 G2 hds
      have HP := Lib.hid (And.intro hp hpp)
      clear hp hpp
      by_cases hlv : c < 0
      · have hKl := Lib.hid (HC'.out.2.1.1 hlv)
        have hnd : decide (c < 0) = true := decide_eq_true hlv
        go_wp2_with fail
        go_quiet_grown (first | (go_at_call 38; refine Calls.grown_of (HC'.out.1 _ _)))
        have H2 := Lib.hid (H.out.1.grown nq osq)
        clear c0 c1 c2 c3 c4 c5 c6 c7 HC'
        go_wp2
        go_roundg (h - i)
        case measure => omega
        case rel => exact ⟨i, h, rfl, rfl, Nat.le_refl _, hai, h1, by omega, H2.out, H.out.2.1, .inr (by rw [← HP.out.1]; exact hKl.out)⟩
      · have hKl := Lib.hid (fun hk => hlv (HC'.out.2.1.2 hk))
        have hnd : decide (c < 0) = false := decide_eq_false hlv
        go_wp2_with fail
        go_quiet_grown (first | (go_at_call 38; refine Calls.grown_of (HC'.out.1 _ _)))
        have H2 := Lib.hid (H.out.1.grown nq osq)
        clear c0 c1 c2 c3 c4 c5 c6 c7 HC'
        go_wp2
        go_roundg (j - (h + 1))
        case measure => omega
        case rel => exact ⟨h + 1, j, by go_num, rfl, Nat.le_refl _, by omega, by omega, hjb, H2.out, .inr (by rw [HP.out.2, Nat.add_sub_cancel]; exact hKl.out), H.out.2.2⟩
    · obtain rfl : i = j := by omega
      obtain ⟨t, ht⟩ : ∃ t : Nat, t = mid + m - i := ⟨_, rfl⟩
      have r7 : IntKind.i64.wrap ((mid : Int) + (m : Int) - (i : Int)) = (t : Int) := by rw [IntKind.wrap_i64]; omega
      have e7 : (mid : Int) + (m : Int) - (i : Int) = (t : Int) := by omega
      have him : i ≤ m := by omega
      have him2 : i ≤ mid := by omega
      have hai2 : a ≤ i := by omega
      have hmt : m ≤ t := by omega
      have htb : t ≤ b := by omega
      have hmt2 : mid ≤ t := by omega
      have hst : i + t = mid + m := by omega
      have hMS : ∀ d2, Rot i m t d d2 → Step a i m t b mid d d2 := fun d2 hr => merge_step HS.out.2.2.2.1 hr hai2 him hmt htb hds hst
        (by rcases H.out.2.1 with h | h; exact .inr (.inl (by omega)); exact .inr (.inr (by rw [ht]; exact h)))
        (by rcases H.out.2.2 with h | h; exact .inr (.inl (by omega)); exact .inr (.inr (by rw [ht, show mid + m - i - 1 = mid + m - 1 - i by omega]; exact h)))
      have MS := Lib.hid (And.intro hMS (And.intro H.out.1 hds))
      clear H hds ht hMS
      go_upto_region 39 with (fail)
      go_cut [185] from 149 (fun s u => s = .bool (decide (i < m) && decide (m < t)) ∧ u = wr)
      case first =>
        by_cases q1 : i < m
        · have z1 : decide ((i : Int) < (m : Int)) = true := decide_eq_true (by omega)
          by_cases q2 : m < t
          · have z2 : decide ((m : Int) < (t : Int)) = true := decide_eq_true (by omega)
            go_wp2_with fail
            go_meet
            case rel => exact ⟨by simp [q1, q2], rfl⟩
          · have z2 : decide ((m : Int) < (t : Int)) = false := decide_eq_false (by omega)
            go_wp2_with fail
            go_meet
            case rel => exact ⟨by simp [q1, q2], rfl⟩
        · have z1 : decide ((i : Int) < (m : Int)) = false := decide_eq_false (by omega)
          go_wp2_with fail
          go_meet
          case rel => exact ⟨by simp [q1], rfl⟩
      case rest =>
        obtain ⟨rfl, rfl⟩ := hcut
        obtain ⟨sb, hsb⟩ : ∃ sb, sb = (decide (i < m) && decide (m < t)) := ⟨_, rfl⟩
        rw [← hsb]
        have SB := Lib.hid hsb
        clear hsb
        go_upto_if 185 with fail
        go_cut [] from 149 (fun u => ∃ d2, SW w0 blk off d2 u ∧ Step a i m t b mid d d2)
        case first =>
          cases sb
          · have hor : i = m ∨ m = t := by have := SB.out; simp at this; omega
            go_wp2_with fail
            go_meet
            case rel => exact ⟨d, MS.out.2.1, MS.out.1 d (.none him hmt hor)⟩
          · have hand : i < m ∧ m < t := by have := SB.out; simp at this; omega
            go_wp2_with fail
            refine (rotate_any R HS.out.2.1 HS.out.2.2.1 MS.out.2.1 hand.1 hand.2 (by have := MS.out.2.2; omega) hsz _).mono ?_
            rintro e w2 ⟨rfl, d2, hS2, hR2⟩
            have T := Lib.hid (And.intro hS2 (MS.out.1 d2 hR2))
            clear hS2 hR2
            go_wp2_with fail
            go_meet
            case rel => exact ⟨d2, T.out⟩
        case rest =>
          obtain ⟨d2, hS2, hP2⟩ := hcut
          have hd2 : d2.size = d.size := hP2.perm.1
          have k0 : d2.size = d0.size := hd2.trans HS.out.2.1
          have k1 : d2.size = sz := hd2.trans HS.out.2.2.1
          have kb : b ≤ d2.size := by rw [hd2]; exact MS.out.2.2
          have W2 := Lib.hid (And.intro hS2 (And.intro hP2 (And.intro k0 (And.intro k1 kb))))
          clear hS2 hP2 hd2 k0 k1 kb SB
          go_upto_region 41 with (fail)
          go_cut [199] from 149 (fun s u => s = .bool (decide (a < i) && decide (i < mid)) ∧ u = wc)
          case first =>
            by_cases q1 : a < i
            · have z1 : decide ((a : Int) < (i : Int)) = true := decide_eq_true (by omega)
              by_cases q2 : i < mid
              · have z2 : decide ((i : Int) < (mid : Int)) = true := decide_eq_true (by omega)
                go_wp2_with fail
                go_meet
                case rel => exact ⟨by simp [q1, q2], rfl⟩
              · have z2 : decide ((i : Int) < (mid : Int)) = false := decide_eq_false (by omega)
                go_wp2_with fail
                go_meet
                case rel => exact ⟨by simp [q1, q2], rfl⟩
            · have z1 : decide ((a : Int) < (i : Int)) = false := decide_eq_false (by omega)
              go_wp2_with fail
              go_meet
              case rel => exact ⟨by simp [q1], rfl⟩
          case rest =>
            obtain ⟨rfl, rfl⟩ := hcut
            obtain ⟨sb, hsb⟩ : ∃ sb, sb = (decide (a < i) && decide (i < mid)) := ⟨_, rfl⟩
            rw [← hsb]
            have SB := Lib.hid hsb
            clear hsb
            go_upto_if 199 with fail
            go_cut [] from 149 (fun u => ∃ d3, SW w0 blk off d3 u ∧ Halfway a t b mid d d3)
            case first =>
              cases sb
              · have hor : a = i ∨ i = mid := by have := SB.out; simp at this; omega
                go_wp2_with fail
                go_meet
                case rel => exact ⟨d2, W2.out.1, W2.out.2.1.half W2.out.2.2.2.2 (by omega) hmt2 htb (permIn_refl _ _ _) (W2.out.2.1.ldone hor)⟩
              · have hand : a < i ∧ i < mid := by have := SB.out; simp at this; omega
                go_wp2_with fail
                refine (HS.out.2.2.2.2 a i mid _ _ (by omega) W2.out.2.2.1 W2.out.2.2.2.1 W2.out.1 hand.1 hand.2 (by have := W2.out.2.2.2.2; omega) W2.out.2.1.l).mono ?_
                rintro e w3 ⟨rfl, d3, hS3, hP3, hT3⟩
                have V3 := Lib.hid (And.intro hS3 (W2.out.2.1.half W2.out.2.2.2.2 (by omega) hmt2 htb hP3 hT3))
                clear hS3 hP3 hT3
                go_wp2_with fail
                go_meet
                case rel => exact ⟨d3, V3.out⟩
            case rest =>
              obtain ⟨d3, hS3, hH3⟩ := hcut
              have hd3 : d3.size = d.size := hH3.perm.1
              have k0 : d3.size = d0.size := hd3.trans HS.out.2.1
              have k1 : d3.size = sz := hd3.trans HS.out.2.2.1
              have kb : b ≤ d3.size := by rw [hd3]; exact MS.out.2.2
              have W3 := Lib.hid (And.intro hS3 (And.intro hH3 (And.intro k0 (And.intro k1 kb))))
              clear hS3 hH3 hd3 k0 k1 kb W2 SB
              by_cases c3 : mid < t ∧ t < b
              · obtain ⟨c3a, c3b⟩ := c3
                have x1 : decide ((mid : Int) < (t : Int)) = true := decide_eq_true (by omega)
                have x2 : decide ((t : Int) < (b : Int)) = true := decide_eq_true (by omega)
                go_wp2_with fail
                refine (HS.out.2.2.2.2 mid t b _ _ (by omega) W3.out.2.2.1 W3.out.2.2.2.1 W3.out.1 c3a c3b W3.out.2.2.2.2 W3.out.2.1.r).mono ?_
                rintro e w4 ⟨rfl, d4, hS4, hP4, hT4⟩
                have V := Lib.hid (And.intro hS4 (W3.out.2.1.fin W3.out.2.2.2.2 hP4 hT4))
                clear hS4 hP4 hT4
                go_wp2
                go_end0
                exact ⟨rfl, d4, V.out⟩
              · have V := Lib.hid (And.intro W3.out.1 (W3.out.2.1.fin W3.out.2.2.2.2 (permIn_refl _ _ _) (W3.out.2.1.rdone (by omega))))
                by_cases c3a : mid < t
                · have x1 : decide ((mid : Int) < (t : Int)) = true := decide_eq_true (by omega)
                  have x2 : decide ((t : Int) < (b : Int)) = false := decide_eq_false (by omega)
                  go_wp2
                  go_end0
                  exact ⟨rfl, d3, V.out⟩
                · have x1 : decide ((mid : Int) < (t : Int)) = false := decide_eq_false (by omega)
                  go_wp2
                  go_end0
                  exact ⟨rfl, d3, V.out⟩
end Go.Proofs.Ytblhijgjidfioaa
