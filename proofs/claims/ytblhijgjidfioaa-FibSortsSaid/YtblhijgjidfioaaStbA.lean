/-
  A sort that keeps the order of equals: merging where the first part is one entry.
-/
import Derived.Test.YtblhijgjidfioaaStbC
namespace Go.Proofs.Ytblhijgjidfioaa
open Go.RowKit Go.Lib Go.Sort Fm Sb

def FV : Value := .func (.func 38) #[] #[]
set_option maxHeartbeats 4000000 in
set_option maxRecDepth 1000000 in
theorem symA_any {blk off cap a b sz : Nat} {d0 d : Array De} {w0 w : World} (R : RW w0 blk off d0) (hs : d.size = d0.size) (hz : d.size = sz) (S : SW w0 blk off d w) (hb : b ≤ d.size) (hab : a + 1 < b) (hsz : d.size < 4611686018427387904) (hM : Mer a (a + 1) b d) :
    Calls Try.prog 64 #[.slice (some ⟨blk, off, none⟩) sz cap, .int .i64 a, .int .i64 ((a : Int) + 1), .int .i64 b, FV] w fun e w' => e = .returned (.tuple #[]) ∧ ∃ d', SW w0 blk off d' w' ∧ PermIn a b d d' ∧ Srt a b d' := by
  have mixed := mixed_orders
  have HS := Lib.hid (And.intro S (And.intro hs (And.intro hz hM)))
  have hb2 : b < 4611686018427387904 := by omega
  have hbz : b ≤ sz := by omega
  have r1 : IntKind.i64.wrap ((a : Int) + 1 - (a : Int)) = 1 := by rw [IntKind.wrap_i64]; omega
  have e1 : (a : Int) + 1 - (a : Int) = 1 := by omega
  unfold FV
  clear S hs hz hM hb
  go_enter Try.func64, Try.ntmps64
  go_wp2
  go_loopg [10, 11] b (fun g vi vj wr => ∃ (i j : Nat), vi = .int .i64 i ∧ vj = .int .i64 j ∧ j - i ≤ g ∧ a + 1 ≤ i ∧ i ≤ j ∧ j ≤ b ∧ Hid (SW w0 blk off d wr ∧ (i = a + 1 ∨ Kl d[i - 1]! d[a]!) ∧ (j = b ∨ ¬ Kl d[j]! d[a]!)))
  case atStart => exact ⟨a + 1, b, by go_num, rfl, by omega, Nat.le_refl _, by omega, Nat.le_refl _, HS.out.1, .inl rfl, .inl rfl⟩
  case round =>
    obtain ⟨i, j, rfl, rfl, hg, hai, hij, hjb, H⟩ := hrel
    have hds : b ≤ d.size := by rw [HS.out.2.2.1]; exact hbz
    by_cases hlt : i < j
    · have hltz : (i : Int) < (j : Int) := by omega
      obtain ⟨h, hh⟩ : ∃ h : Nat, h = (i + j) / 2 := ⟨_, rfl⟩
      have hh2 : ((i : Int) + (j : Int)) / 2 = (h : Int) := by omega
      have h1 : i ≤ h := by omega
      have h2 : h < j := by omega
      have hhz : (h : Int) < (sz : Int) := by omega
      have haz : (a : Int) < (sz : Int) := by omega
      clear hh
      have G1 := grown_at H.out.1 R HS.out.2.1 (show h < d.size by omega) rfl
      have G2 := grown_at H.out.1 R HS.out.2.1 (show a < d.size by omega) rfl
      have HC := fun n os => cmpE_gr d[h]! d[a]! (grow (wr.drewN n) os)
      have hK := cf_lt d[h]! d[a]!
      obtain ⟨c, hc⟩ : ∃ c, cf d[h]! d[a]! = c := ⟨_, rfl⟩
      simp only [hc, dcl, ecl] at HC
      rw [hc] at hK
      generalize d[h]!.e = xh at G1 HC
      generalize d[a]!.e = xa at G2 HC
      obtain ⟨a0, a1, a2, a3⟩ := xh
      obtain ⟨b0, b1, b2, b3⟩ := xa
      have HC' := Lib.hid (And.intro HC (And.intro hK hds))
      have c0 := fun n os => (G1 n os).c0
      have c1 := fun n os => (G1 n os).c1
      have c2 := fun n os => (G1 n os).c2
      have c3 := fun n os => (G1 n os).c3
      have c4 := fun n os => (G2 n os).c0
      have c5 := fun n os => (G2 n os).c1
      have c6 := fun n os => (G2 n os).c2
      have c7 := fun n os => (G2 n os).c3
      dsimp only at c0 c1 c2 c3 c4 c5 c6 c7
      clear HC hK hc G1 G2 hds
      by_cases hlv : c < 0
      · have hKl := Lib.hid (HC'.out.2.1.1 hlv)
        go_wp2_with fail
        go_quiet_grown (first | (go_at_call 38; refine Calls.grown_of (HC'.out.1 _ _)))
        have H2 := Lib.hid (H.out.1.grown nq osq)
        clear c0 c1 c2 c3 c4 c5 c6 c7 HC'
        go_wp2
        go_roundg (j - (h + 1))
        case measure => omega
        case rel => exact ⟨h + 1, j, by go_num, rfl, Nat.le_refl _, by omega, by omega, hjb, H2.out, .inr hKl.out, H.out.2.2⟩
      · have hKl := Lib.hid (fun hk => hlv (HC'.out.2.1.2 hk))
        go_wp2_with fail
        go_quiet_grown (first | (go_at_call 38; refine Calls.grown_of (HC'.out.1 _ _)))
        have H2 := Lib.hid (H.out.1.grown nq osq)
        clear c0 c1 c2 c3 c4 c5 c6 c7 HC'
        go_wp2
        go_roundg (h - i)
        case measure => omega
        case rel => exact ⟨i, h, rfl, rfl, Nat.le_refl _, hai, h1, by omega, H2.out, H.out.2.1, .inr hKl.out⟩
    · obtain rfl : i = j := by omega
      have hi1 : IntKind.i64.wrap ((i : Int) - 1) = (i : Int) - 1 := by rw [IntKind.wrap_i64]; omega
      have HD := Lib.hid (And.intro H.out.2.1 (And.intro H.out.2.2 hds))
      have S1 := Lib.hid H.out.1
      clear H hds
      go_wp2
      go_loopg [13] b (fun g vk wr2 => ∃ (k : Nat) (dk : Array De), vk = .int .i64 k ∧ b - k ≤ g ∧ a ≤ k ∧ k + 1 ≤ i ∧ Hid (SW w0 blk off dk wr2 ∧ Up a i k d dk))
      case atStart => exact ⟨a, d, rfl, by omega, Nat.le_refl _, hai, S1.out, .start _ _ _⟩
      case round =>
        clear S1
        obtain ⟨k, dk, rfl, hg2, hak, hki, H2⟩ := hrel
        by_cases hk : k + 1 < i
        · have hkz : (k : Int) < (i : Int) - 1 := by omega
          have r5 : IntKind.i64.wrap ((k : Int) + 1) = (k : Int) + 1 := by rw [IntKind.wrap_i64]; omega
          have ea : ((k : Int) + 1).toNat = k + 1 := by omega
          have pa : (0 : Int) ≤ (k : Int) + 1 := by omega
          have ba : (k : Int) + 1 < (sz : Int) := by omega
          have bb : (k : Int) < (sz : Int) := by omega
          have hdk : dk.size = d.size := H2.out.2.perm.1
          have ia : k < dk.size := by rw [hdk]; have := HD.out.2.2; omega
          have ib : k + 1 < dk.size := by rw [hdk]; have := HD.out.2.2; omega
          have S2 : Aside (SW w0 blk off (swp dk k (k + 1)) ((wr.setCells blk (off + k * 4) (dcl dk[k + 1]!)).setCells blk (off + (k + 1) * 4) (dcl dk[k]!))) := H2.out.1.swap R.hk R.hblk k (k + 1) ia ib
          have A1 : At4 wr blk (off + k * 4) dk[k]!.e := sw_at H2.out.1 R (hdk.trans HS.out.2.1) ia rfl
          have A2 : At4 wr blk (off + (k + 1) * 4) dk[k + 1]!.e := sw_at H2.out.1 R (hdk.trans HS.out.2.1) ib rfl
          have U := Lib.hid (H2.out.2.step hak hk (by have := HD.out.2.2; omega))
          simp only [dcl, ecl, setCells4] at S2
          generalize dk[k]!.e = xI at S2 A1
          generalize dk[k + 1]!.e = xJ at S2 A2
          obtain ⟨a0, a1, a2, a3⟩ := xI
          obtain ⟨b0, b1, b2, b3⟩ := xJ
          obtain ⟨c0, c1, c2, c3, f0, f1, f2, f3⟩ := A1
          obtain ⟨c4, c5, c6, c7, f4, f5, f6, f7⟩ := A2
          clear H2 hdk ia ib
          go_wp2_with fail
          go_big_region_o
          all_goals go_wp2
          go_roundg (b - (k + 1))
          case measure => omega
          case rel => exact ⟨k + 1, swp dk k (k + 1), by go_num, Nat.le_refl _, by omega, by omega, S2.out.drew, U.out⟩
        · obtain rfl : k = i - 1 := by omega
          have hkz : ¬ (((i - 1 : Nat) : Int) < (i : Int) - 1) := by omega
          have E := Lib.hid (And.intro H2.out.1 (symA_done HS.out.2.2.2 HD.out.2.2 hai hjb HD.out.1 HD.out.2.1 (H2.out.2.done hai)))
          clear H2
          go_wp2
          refine bodyPost_ret (results_none rfl _ _ _) rfl ?_
          exact ⟨rfl, dk, E.out.1, E.out.2⟩
end Go.Proofs.Ytblhijgjidfioaa
