/-
  A sort that keeps the order of equals: two neighbours exchanged.
-/
import Derived.Test.YtblhijgjidfioaaStbW
namespace Go.Proofs.Ytblhijgjidfioaa
open Go.RowKit Go.Lib Go.Sort Fm Sb

/-- what lies at x once [a, m) and [m, b) are exchanged -/
def turned (d : Array De) (a m b x : Nat) : De := if x < a + (b - m) then d[x + (m - a)]! else d[x - (b - m)]!
/-- how far a rotation is -/
structure Rtd (a m b i j : Nat) (d dk : Array De) : Prop where
  i0 : 0 < i
  j0 : 0 < j
  im : a + i ≤ m
  jb : m + j ≤ b
  perm : PermIn a b d dk
  o : ∀ x, a ≤ x → x < b → x < m - i ∨ m + j ≤ x → dk[x]! = turned d a m b x
  l : ∀ x, m - i ≤ x → x < m - i + j → turned d a m b x = dk[x + i]!
  r : ∀ x, m - i + j ≤ x → x < m + j → turned d a m b x = dk[x - j]!
theorem Rtd.start {a m b : Nat} (d : Array De) (h1 : a < m) (h2 : m < b) : Rtd a m b (m - a) (b - m) d d :=
  ⟨by omega, by omega, by omega, by omega, permIn_refl _ _ _, fun x _ _ h5 => by omega, fun x h3 h4 => by unfold turned; rw [if_pos (by omega)], fun x h3 h4 => by unfold turned; rw [if_neg (by omega)]⟩
theorem Swd.outL {a b n : Nat} {d dk : Array De} (h : Swd a b n n d dk) {x : Nat} (hx : x < a) : dk[x]! = d[x]! := h.perm.2.1 x (.inl hx)
theorem Rtd.more {a m b i j : Nat} {d dk dk' : Array De} (h : Rtd a m b i j d dk) (hij : j < i) (hb : b ≤ d.size) (hS : Swd (m - i) m j j dk dk') : Rtd a m b (i - j) j d dk' := by
  obtain ⟨i0, j0, im, jb, perm, o, l, r⟩ := h
  have hs := perm.1
  refine ⟨by omega, j0, by omega, jb, permIn_trans _ _ _ _ _ perm (permIn_mono _ _ _ _ _ _ (by omega) jb (by omega) hS.perm), fun x h1 h2 h3 => ?_, fun x h1 h2 => ?_, fun x h1 h2 => ?_⟩
  · rcases h3 with h3 | h3
    · by_cases c : x < m - i
      · rw [hS.outL c]; exact o x h1 h2 (.inl c)
      · rw [hS.l x (by omega) (by omega), l x (by omega) (by omega)]; congr 1; omega
    · rw [hS.o x h3]; exact o x h1 h2 (.inr h3)
  · rw [r x (by omega) (by omega), hS.r (x + (i - j)) (by omega) (by omega)]; congr 1; omega
  · rw [r x (by omega) (by omega), hS.m (x - j) (by omega) (by omega)]
theorem Rtd.less {a m b i j : Nat} {d dk dk' : Array De} (h : Rtd a m b i j d dk) (hij : i < j) (hb : b ≤ d.size) (hS : Swd (m - i) (m + j - i) i i dk dk') : Rtd a m b i (j - i) d dk' := by
  obtain ⟨i0, j0, im, jb, perm, o, l, r⟩ := h
  have hs := perm.1
  refine ⟨i0, by omega, im, by omega, permIn_trans _ _ _ _ _ perm (permIn_mono _ _ _ _ _ _ (by omega) (by omega) (by omega) hS.perm), fun x h1 h2 h3 => ?_, fun x h1 h2 => ?_, fun x h1 h2 => ?_⟩
  · rcases h3 with h3 | h3
    · rw [hS.outL h3]; exact o x h1 h2 (.inl h3)
    · by_cases c : m + j ≤ x
      · rw [hS.o x (by omega)]; exact o x h1 h2 (.inr c)
      · rw [hS.r x (by omega) (by omega), r x (by omega) (by omega)]; congr 1; omega
  · rw [l x (by omega) (by omega), hS.m (x + i) (by omega) (by omega)]
  · rw [l x (by omega) (by omega), hS.l (x - (j - i)) (by omega) (by omega)]; congr 1; omega
theorem Rtd.last {a m b i : Nat} {d dk dk' : Array De} (h : Rtd a m b i i d dk) (hb : b ≤ d.size) (hS : Swd (m - i) m i i dk dk') : Rot a m b d dk' := by
  obtain ⟨i0, j0, im, jb, perm, o, l, r⟩ := h
  have hs := perm.1
  have all : ∀ x, a ≤ x → x < b → dk'[x]! = turned d a m b x := fun x h1 h2 => by
    by_cases c : x < m - i
    · rw [hS.outL c]; exact o x h1 h2 (.inl c)
    · by_cases c2 : m + i ≤ x
      · rw [hS.o x c2]; exact o x h1 h2 (.inr c2)
      · by_cases c3 : x < m
        · rw [hS.l x (by omega) (by omega), l x (by omega) (by omega)]; congr 1; omega
        · rw [hS.r x (by omega) (by omega), r x (by omega) (by omega)]; congr 1; omega
  refine ⟨permIn_trans _ _ _ _ _ perm (permIn_mono _ _ _ _ _ _ (by omega) (by omega) (by omega) hS.perm), fun x h1 h2 => ?_, fun x h1 h2 => ?_⟩
  · rw [all x h1 (by omega)]; unfold turned; rw [if_pos h2]
  · rw [all x (by omega) h2]; unfold turned; rw [if_neg (by omega)]

theorem swapRange_at {blk off cap a b n : Nat} {za zb zn : Int} {sz : Nat} {d0 d : Array De} {w0 w : World} (R : RW w0 blk off d0) (hs : d.size = d0.size) (hz : d.size = sz) (S : SW w0 blk off d w) (hab : a + n ≤ b) (hb : b + n ≤ d.size) (hsz : d.size < 4611686018427387904) (F : Value) (ha : za = (a : Int)) (hbz : zb = (b : Int)) (hn : zn = (n : Int)) :
    Calls Try.prog 72 #[.slice (some ⟨blk, off, none⟩) sz cap, .int .i64 za, .int .i64 zb, .int .i64 zn, F] w fun e w' => e = .returned (.tuple #[]) ∧ ∃ d', SW w0 blk off d' w' ∧ Swd a b n n d d' := by
  subst ha hbz hn hz
  exact swapRange_any R hs S hab hb hsz F

set_option maxHeartbeats 2000000 in
set_option maxRecDepth 100000 in
theorem rotate_any {blk off cap a m b sz : Nat} {d0 d : Array De} {w0 w : World} (R : RW w0 blk off d0) (hs : d.size = d0.size) (hz : d.size = sz) (S : SW w0 blk off d w) (ham : a < m) (hmb : m < b) (hb : b ≤ d.size) (hsz : d.size < 4611686018427387904) (F : Value) :
    Calls Try.prog 70 #[.slice (some ⟨blk, off, none⟩) sz cap, .int .i64 a, .int .i64 m, .int .i64 b, F] w fun e w' => e = .returned (.tuple #[]) ∧ ∃ d', SW w0 blk off d' w' ∧ Rot a m b d d' := by
  have S0 := Lib.hid (And.intro S (Rtd.start d ham hmb))
  have HS := Lib.hid (And.intro hs hz)
  have eA : IntKind.i64.wrap ((m : Int) - (a : Int)) = (m : Int) - (a : Int) := by rw [IntKind.wrap_i64]; omega
  have eB : IntKind.i64.wrap ((b : Int) - (m : Int)) = (b : Int) - (m : Int) := by rw [IntKind.wrap_i64]; omega
  have hb2 : b < 4611686018427387904 := by omega
  have HZ : Hid ((∀ dk : Array De, dk.size = d.size → dk.size < 4611686018427387904) ∧ True) := ⟨fun dk e => by rw [e]; exact hsz, trivial⟩
  clear S hs hz hsz
  go_enter Try.func70, Try.ntmps70
  go_wp2
  go_loopg [10, 11] b (fun g vi vj wr => ∃ (i j : Nat) (dk : Array De), vi = .int .i64 i ∧ vj = .int .i64 j ∧ i + j ≤ g ∧ Hid (SW w0 blk off dk wr ∧ Rtd a m b i j d dk))
  case atStart => exact ⟨m - a, b - m, d, by congr 1; omega, by congr 1; omega, by omega, S0⟩
  case round =>
    clear S0
    obtain ⟨i, j, dk, rfl, rfl, hg, H⟩ := hrel
    have hi0 := H.out.2.i0
    have hj0 := H.out.2.j0
    have him := H.out.2.im
    have hjb := H.out.2.jb
    have hds : dk.size = d.size := H.out.2.perm.1
    have ds0 : dk.size = d0.size := hds.trans HS.out.1
    have dsz : dk.size = sz := hds.trans HS.out.2
    have r1 : IntKind.i64.wrap ((m : Int) - (i : Int)) = (m : Int) - (i : Int) := by rw [IntKind.wrap_i64]; omega
    have hb' : b ≤ dk.size := by omega
    have SR := fun (x y : Nat) (zx zy zn : Int) (n : Nat) (k1 : x + n ≤ y) (k2 : y + n ≤ dk.size) (k3 : zx = (x : Int)) (k4 : zy = (y : Int)) (k5 : zn = (n : Int)) => swapRange_at (cap := cap) R ds0 dsz H.out.1 k1 k2 (HZ.out.1 dk hds) F k3 k4 k5
    have SR' := Lib.hid SR
    have HB := Lib.hid (And.intro hb' hds)
    clear SR hds ds0 dsz hb'
    rcases Nat.lt_trichotomy i j with hij | hij | hij
    · have hne : ((i : Int) != (j : Int)) = true := by simp; omega
      have hgt : ¬ ((j : Int) < (i : Int)) := by omega
      have r2 : IntKind.i64.wrap ((m : Int) + (j : Int)) = (m : Int) + (j : Int) := by rw [IntKind.wrap_i64]; omega
      have r3 : IntKind.i64.wrap ((m : Int) + (j : Int) - (i : Int)) = (m : Int) + (j : Int) - (i : Int) := by rw [IntKind.wrap_i64]; omega
      have r4 : IntKind.i64.wrap ((j : Int) - (i : Int)) = (j : Int) - (i : Int) := by rw [IntKind.wrap_i64]; omega
      go_wp2_with fail
      refine (SR'.out (m - i) (m + j - i) _ _ _ i (by omega) (by have := HB.out.1; omega) (by omega) (by omega) rfl).mono ?_
      rintro e w2 ⟨rfl, d2, hS, hW⟩
      have H2 : Hid (SW w0 blk off d2 w2 ∧ Rtd a m b i (j - i) d d2) := ⟨hS, H.out.2.less hij hb hW⟩
      clear hS hW SR' H HB
      go_wp2
      go_roundg (i + (j - i))
      case measure => omega
      case rel => exact ⟨i, j - i, d2, rfl, by congr 1; omega, Nat.le_refl _, H2⟩
    · subst hij
      go_wp2_with fail
      refine (SR'.out (m - i) m _ _ _ i (by omega) (by have := HB.out.1; omega) (by omega) rfl rfl).mono ?_
      rintro e w2 ⟨rfl, d2, hS, hW⟩
      have H2 : Hid (SW w0 blk off d2 w2 ∧ Rot a m b d d2) := ⟨hS, H.out.2.last hb hW⟩
      clear hS hW SR' H HB
      go_wp2
      go_end0
      exact ⟨rfl, d2, H2.out⟩
    · have hne : ((i : Int) != (j : Int)) = true := by simp; omega
      have hgt : ((j : Int) < (i : Int)) := by omega
      have r4 : IntKind.i64.wrap ((i : Int) - (j : Int)) = (i : Int) - (j : Int) := by rw [IntKind.wrap_i64]; omega
      go_wp2_with fail
      refine (SR'.out (m - i) m _ _ _ j (by omega) (by have := HB.out.1; omega) (by omega) rfl rfl).mono ?_
      rintro e w2 ⟨rfl, d2, hS, hW⟩
      have H2 : Hid (SW w0 blk off d2 w2 ∧ Rtd a m b (i - j) j d d2) := ⟨hS, H.out.2.more hij hb hW⟩
      clear hS hW SR' H HB
      go_wp2
      go_roundg (i - j + j)
      case measure => omega
      case rel => exact ⟨i - j, j, d2, by congr 1; omega, rfl, Nat.le_refl _, H2⟩
end Go.Proofs.Ytblhijgjidfioaa
