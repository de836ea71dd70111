/-
  A sort that keeps the order of equals: merging where the second part is one entry.
-/
import Derived.Test.YtblhijgjidfioaaStbA
namespace Go.Proofs.Ytblhijgjidfioaa
open Go.RowKit Go.Lib Go.Sort Fm Sb

set_option maxHeartbeats 4000000 in
set_option maxRecDepth 1000000 in
theorem symB_any {blk off cap a m sz : Nat} {d0 d : Array De} {w0 w : World} (R : RW w0 blk off d0) (hs : d.size = d0.size) (hz : d.size = sz) (S : SW w0 blk off d w) (hb : m + 1 ≤ d.size) (ham : a + 1 < m) (hsz : d.size < 4611686018427387904) (hM : Mer a m (m + 1) d) :
    Calls Try.prog 64 #[.slice (some ⟨blk, off, none⟩) sz cap, .int .i64 a, .int .i64 m, .int .i64 ((m : Int) + 1), FV] w fun e w' => e = .returned (.tuple #[]) ∧ ∃ d', SW w0 blk off d' w' ∧ PermIn a (m + 1) d d' ∧ Srt a (m + 1) d' := by
  have mixed := mixed_orders
  have HS := Lib.hid (And.intro S (And.intro hs (And.intro hz hM)))
  have hb2 : m < 4611686018427387904 := by omega
  have hbz : m + 1 ≤ sz := by omega
  have r1 : IntKind.i64.wrap ((m : Int) - (a : Int)) = (m : Int) - (a : Int) := by rw [IntKind.wrap_i64]; omega
  have q1 : ((m : Int) - (a : Int) == 1) = false := by simp; omega
  have r2 : IntKind.i64.wrap ((m : Int) + 1 - (m : Int)) = 1 := by rw [IntKind.wrap_i64]; omega
  have e2 : (m : Int) + 1 - (m : Int) = 1 := by omega
  unfold FV
  clear S hs hz hM hb
  go_enter Try.func64, Try.ntmps64
  go_wp2
  go_loopg [14, 15] m (fun g vi vj wr => ∃ (i j : Nat), vi = .int .i64 i ∧ vj = .int .i64 j ∧ j - i ≤ g ∧ a ≤ i ∧ i ≤ j ∧ j ≤ m ∧ Hid (SW w0 blk off d wr ∧ (i = a ∨ ¬ Kl d[m]! d[i - 1]!) ∧ (j = m ∨ Kl d[m]! d[j]!)))
  case atStart => exact ⟨a, m, rfl, rfl, by omega, Nat.le_refl _, by omega, Nat.le_refl _, HS.out.1, .inl rfl, .inl rfl⟩
  case round =>
    obtain ⟨i, j, rfl, rfl, hg, hai, hij, hjb, H⟩ := hrel
    have hds : m + 1 ≤ d.size := by rw [HS.out.2.2.1]; exact hbz
    by_cases hlt : i < j
    · have hltz : (i : Int) < (j : Int) := by omega
      obtain ⟨h, hh⟩ : ∃ h : Nat, h = (i + j) / 2 := ⟨_, rfl⟩
      have hh2 : ((i : Int) + (j : Int)) / 2 = (h : Int) := by omega
      have h1 : i ≤ h := by omega
      have h2 : h < j := by omega
      clear hh
      have hhz : (h : Int) < (sz : Int) := by omega
      have hmz : (m : Int) < (sz : Int) := by omega
      have G1 := grown_at H.out.1 R HS.out.2.1 (show m < d.size by omega) rfl
      have G2 := grown_at H.out.1 R HS.out.2.1 (show h < d.size by omega) rfl
      have HC := fun n os => cmpE_gr d[m]! d[h]! (grow (wr.drewN n) os)
      have hK := cf_lt d[m]! d[h]!
      obtain ⟨c, hc⟩ : ∃ c, cf d[m]! d[h]! = c := ⟨_, rfl⟩
      simp only [hc, dcl, ecl] at HC
      rw [hc] at hK
      generalize d[m]!.e = xh at G1 HC
      generalize d[h]!.e = xa at G2 HC
      obtain ⟨a0, a1, a2, a3⟩ := xh
      obtain ⟨b0, b1, b2, b3⟩ := xa
      have HC' := Lib.hid (And.intro HC (And.intro hK hds))
      have c0 := fun n os => (G1 n os).c0
      have c1 := fun n os => (G1 n os).c1
      have c2 := fun n os => (G1 n os).c2
      have c3 := fun n os => (G1 n os).c3
      have c4 := fun n os => (G2 n os).c0
      have c5 := fun n os => (G2 n os).c1
      have c6 := fun n os => (G2 n os).c2
      have c7 := fun n os => (G2 n os).c3
      dsimp only at c0 c1 c2 c3 c4 c5 c6 c7
      clear HC hK hc G1 G2 hds
      by_cases hlv : c < 0
      · have hKl := Lib.hid (HC'.out.2.1.1 hlv)
        have hnd : decide (c < 0) = true := decide_eq_true hlv
        go_wp2_with fail
        go_quiet_grown (first | (go_at_call 38; refine Calls.grown_of (HC'.out.1 _ _)))
        have H2 := Lib.hid (H.out.1.grown nq osq)
        clear c0 c1 c2 c3 c4 c5 c6 c7 HC'
        go_wp2
        go_roundg (h - i)
        case measure => omega
        case rel => exact ⟨i, h, rfl, rfl, Nat.le_refl _, hai, h1, by omega, H2.out, H.out.2.1, .inr hKl.out⟩
      · have hKl := Lib.hid (fun hk => hlv (HC'.out.2.1.2 hk))
        have hnd : decide (c < 0) = false := decide_eq_false hlv
        go_wp2_with fail
        go_quiet_grown (first | (go_at_call 38; refine Calls.grown_of (HC'.out.1 _ _)))
        have H2 := Lib.hid (H.out.1.grown nq osq)
        clear c0 c1 c2 c3 c4 c5 c6 c7 HC'
        go_wp2
        go_roundg (j - (h + 1))
        case measure => omega
        case rel => exact ⟨h + 1, j, by go_num, rfl, Nat.le_refl _, by omega, by omega, hjb, H2.out, .inr hKl.out, H.out.2.2⟩
    · obtain rfl : i = j := by omega
      have HD := Lib.hid (And.intro H.out.2.1 (And.intro H.out.2.2 hds))
      have S1 := Lib.hid H.out.1
      clear H hds
      go_wp2
      go_loopg [17] m (fun g vk wr2 => ∃ (k : Nat) (dk : Array De), vk = .int .i64 k ∧ k ≤ g ∧ i ≤ k ∧ k ≤ m ∧ Hid (SW w0 blk off dk wr2 ∧ Dn i m k d dk))
      case atStart => exact ⟨m, d, rfl, Nat.le_refl _, hjb, Nat.le_refl _, S1.out, .start _ _ _⟩
      case round =>
        clear S1
        obtain ⟨k, dk, rfl, hg2, hik, hkm, H2⟩ := hrel
        by_cases hk : i < k
        · obtain ⟨k, rfl⟩ : ∃ k', k = k' + 1 := ⟨k - 1, by omega⟩
          have hkz : (i : Int) < (k : Int) + 1 := by omega
          have r5 : IntKind.i64.wrap ((k : Int) + 1 - 1) = (k : Int) := by rw [IntKind.wrap_i64]; omega
          have e5 : (k : Int) + 1 - 1 = (k : Int) := by omega
          have ea : ((k : Int) + 1).toNat = k + 1 := by omega
          have pa : (0 : Int) ≤ (k : Int) + 1 := by omega
          have ba : (k : Int) + 1 < (sz : Int) := by omega
          have bb : (k : Int) < (sz : Int) := by omega
          have hdk : dk.size = d.size := H2.out.2.perm.1
          have ia : k < dk.size := by rw [hdk]; have := HD.out.2.2; omega
          have ib : k + 1 < dk.size := by rw [hdk]; have := HD.out.2.2; omega
          have S2 : Aside (SW w0 blk off (swp dk (k + 1) k) ((wr.setCells blk (off + (k + 1) * 4) (dcl dk[k]!)).setCells blk (off + k * 4) (dcl dk[k + 1]!))) := H2.out.1.swap R.hk R.hblk (k + 1) k ib ia
          have A1 : At4 wr blk (off + k * 4) dk[k]!.e := sw_at H2.out.1 R (hdk.trans HS.out.2.1) ia rfl
          have A2 : At4 wr blk (off + (k + 1) * 4) dk[k + 1]!.e := sw_at H2.out.1 R (hdk.trans HS.out.2.1) ib rfl
          have U := Lib.hid (H2.out.2.step (by omega) hkm (by have := HD.out.2.2; omega))
          simp only [dcl, ecl, setCells4] at S2
          generalize dk[k]!.e = xI at S2 A1
          generalize dk[k + 1]!.e = xJ at S2 A2
          obtain ⟨a0, a1, a2, a3⟩ := xI
          obtain ⟨b0, b1, b2, b3⟩ := xJ
          obtain ⟨c0, c1, c2, c3, f0, f1, f2, f3⟩ := A1
          obtain ⟨c4, c5, c6, c7, f4, f5, f6, f7⟩ := A2
          clear H2 hdk ia ib
          go_wp2_with fail
          go_big_region_o
          all_goals go_wp2
          go_roundg k
          case measure => omega
          case rel => exact ⟨k, swp dk (k + 1) k, by go_num, Nat.le_refl _, by omega, by omega, S2.out.drew, U.out⟩
        · obtain rfl : k = i := by omega
          have hkz : ¬ ((k : Int) < (k : Int)) := by omega
          have E := Lib.hid (And.intro H2.out.1 (symB_done HS.out.2.2.2 HD.out.2.2 hai hjb HD.out.1 HD.out.2.1 (H2.out.2.done hjb)))
          clear H2
          go_wp2
          refine bodyPost_ret (results_none rfl _ _ _) rfl ?_
          exact ⟨rfl, dk, E.out.1, E.out.2⟩
end Go.Proofs.Ytblhijgjidfioaa
