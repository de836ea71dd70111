/-
  A sort that keeps the order of equals: two rows exchanged.
-/
import Derived.Test.YtblhijgjidfioaaStbM
import Derived.Test.YtblhijgjidfioaaFibW
import Derived.Test.YtblhijgjidfioaaCmpP
import Derived.Shelf.SlSortCmp.KitK
import Derived.Shelf.RegionOpenPlain
import Derived.Deep.LoopGhost
namespace Go.Proofs.Ytblhijgjidfioaa
open Go.RowKit Go.Lib Go.Sort Fm Sb

def dcl (x : De) : List Value := ecl x.e
theorem dcl_len (x : De) : (dcl x).length = 4 := rfl
theorem dcl_one (x : De) : ∀ v ∈ dcl x, v.oneCell' = true := by
  intro v hv
  simp only [dcl, ecl, List.mem_cons, List.not_mem_nil, or_false] at hv
  rcases hv with rfl | rfl | rfl | rfl <;> rfl
abbrev SW := SWK dcl 4
theorem mixed_orders : Try.prog.follows .mixedOrders = true := by kernel_rfl
abbrev RW := RowK dcl 4

theorem setCells4 (w : World) (b o : Nat) (v0 v1 v2 v3 : Value) : w.setCells b o [v0, v1, v2, v3] = (((w.setCell ⟨b, o, none⟩ v0).setCell ⟨b, o + 1, none⟩ v1).setCell ⟨b, o + 2, none⟩ v2).setCell ⟨b, o + 3, none⟩ v3 := rfl
/-- what a load and a store want of entry i -/
structure At4 (W : World) (b o : Nat) (e : En) : Prop where
  c0 : W.cell? ⟨b, o, none⟩ = some (.int .u32 e.a)
  c1 : W.cell? ⟨b, o + 1, none⟩ = some (.int .i64 e.n)
  c2 : W.cell? ⟨b, o + 2, none⟩ = some (.int .i64 e.how)
  c3 : W.cell? ⟨b, o + 3, none⟩ = some (.int .i64 e.nx)
  f0 : W.frozen? ⟨b, o, none⟩ = false
  f1 : W.frozen? ⟨b, o + 1, none⟩ = false
  f2 : W.frozen? ⟨b, o + 2, none⟩ = false
  f3 : W.frozen? ⟨b, o + 3, none⟩ = false
theorem holds_at {W : World} {blk off : Nat} {dk : Array De} (H : HoldsK dcl 4 W blk off dk) {i : Nat} (hi : i < dk.size) {x : De} (hx : dk[i]! = x) : At4 W blk (off + i * 4) x.e := by
  subst hx
  have k0 := H.cell hi (show 0 < 4 by omega)
  have k1 := H.cell hi (show 1 < 4 by omega)
  have k2 := H.cell hi (show 2 < 4 by omega)
  have k3 := H.cell hi (show 3 < 4 by omega)
  exact ⟨k0.1, k1.1, k2.1, k3.1, k0.2, k1.2, k2.2, k3.2⟩
theorem sw_at {W w0 : World} {blk off : Nat} {d0 dk : Array De} (S : SW w0 blk off dk W) (R : RW w0 blk off d0) (hs : dk.size = d0.size) {i : Nat} (hi : i < dk.size) {x : De} (hx : dk[i]! = x) : At4 W blk (off + i * 4) x.e :=
  holds_at (S.holds R.hblk R.hH hs) hi hx

/-- how far the exchange of two rows is -/
structure Swd (a b n i : Nat) (d dk : Array De) : Prop where
  perm : PermIn a (b + n) d dk
  l : ∀ k, a ≤ k → k < a + i → dk[k]! = d[k + (b - a)]!
  r : ∀ k, b ≤ k → k < b + i → dk[k]! = d[k - (b - a)]!
  m : ∀ k, a + i ≤ k → k < b → dk[k]! = d[k]!
  o : ∀ k, b + i ≤ k → dk[k]! = d[k]!
theorem Swd.none (a b n : Nat) (d : Array De) : Swd a b n 0 d d := ⟨permIn_refl _ _ _, fun k h1 h2 => by omega, fun k h1 h2 => by omega, fun _ _ _ => rfl, fun _ _ => rfl⟩
theorem Swd.step {a b n i : Nat} {d dk : Array De} (h : Swd a b n i d dk) (hi : i < n) (hab : a + n ≤ b) (hb : b + n ≤ d.size) : Swd a b n (i + 1) d (swp dk (a + i) (b + i)) := by
  have hs := h.perm.1
  have x : (swp dk (a + i) (b + i))[a + i]! = d[b + i]! := by rw [swp_left dk _ _ (by omega) (by omega)]; exact h.o _ (by omega)
  have y : (swp dk (a + i) (b + i))[b + i]! = d[a + i]! := by rw [swp_right dk _ _ (by omega)]; exact h.m _ (by omega) (by omega)
  have z : ∀ k, k ≠ a + i → k ≠ b + i → (swp dk (a + i) (b + i))[k]! = dk[k]! := fun k h1 h2 => swp_other dk _ _ k h1 h2
  refine ⟨permIn_trans _ _ _ _ _ h.perm (swp_permIn _ _ _ _ _ (by omega) (by omega) (by omega) (by omega) (by omega)), fun k h1 h2 => ?_, fun k h1 h2 => ?_, fun k h1 h2 => ?_, fun k h1 => ?_⟩
  · by_cases e : k = a + i
    · rw [e, x]; congr 1; omega
    · rw [z k e (by omega)]; exact h.l k h1 (by omega)
  · by_cases e : k = b + i
    · rw [e, y]; congr 1; omega
    · rw [z k (by omega) e]; exact h.r k h1 (by omega)
  · rw [z k (by omega) (by omega)]; exact h.m k (by omega) h2
  · rw [z k (by omega) (by omega)]; exact h.o k (by omega)

set_option maxHeartbeats 2000000 in
set_option maxRecDepth 100000 in
theorem swapRange_any {blk off cap a b n : Nat} {d0 d : Array De} {w0 w : World} (R : RW w0 blk off d0) (hs : d.size = d0.size) (S : SW w0 blk off d w) (hab : a + n ≤ b) (hb : b + n ≤ d.size) (hsz : d.size < 4611686018427387904) (F : Value) :
    Calls Try.prog 72 #[.slice (some ⟨blk, off, none⟩) d.size cap, .int .i64 a, .int .i64 b, .int .i64 n, F] w fun e w' => e = .returned (.tuple #[]) ∧ ∃ d', SW w0 blk off d' w' ∧ Swd a b n n d d' := by
  have mixed := mixed_orders
  have S0 : Aside (SW w0 blk off d w) := S
  have HS := Lib.hid hs
  clear S hs
  go_enter Try.func72, Try.ntmps72
  go_wp2
  go_loopg [10] n (fun g vi wr => ∃ (i : Nat) (dk : Array De), vi = .int .i64 i ∧ i ≤ n ∧ n - i ≤ g ∧ dk.size = d.size ∧ Aside (SW w0 blk off dk wr) ∧ Swd a b n i d dk)
  case atStart => exact ⟨0, d, rfl, by omega, by omega, rfl, S0, .none _ _ _ _⟩
  case round =>
    clear S0
    obtain ⟨i, dk, rfl, hin, hg, hds, S1, h1⟩ := hrel
    have H1 := Lib.hid h1
    have HD := Lib.hid (And.intro hds (hds.trans HS.out))
    clear h1
    by_cases hlt : i < n
    · have hltz : (i : Int) < (n : Int) := by omega
      go_wp2_with fail
      have ea : ((a : Int) + (i : Int)).toNat = a + i := by omega
      have pa : (0 : Int) ≤ (a : Int) + (i : Int) := by omega
      have ba : (a : Int) + (i : Int) < (d.size : Int) := by omega
      have ra : IntKind.i64.wrap ((a : Int) + (i : Int)) = (a : Int) + (i : Int) := by rw [IntKind.wrap_i64]; omega
      have eb : ((b : Int) + (i : Int)).toNat = b + i := by omega
      have pb : (0 : Int) ≤ (b : Int) + (i : Int) := by omega
      have bb : (b : Int) + (i : Int) < (d.size : Int) := by omega
      have rb : IntKind.i64.wrap ((b : Int) + (i : Int)) = (b : Int) + (i : Int) := by rw [IntKind.wrap_i64]; omega
      have ia : a + i < dk.size := by omega
      have ib : b + i < dk.size := by omega
      have S2 : Aside (SW w0 blk off (swp dk (a + i) (b + i)) ((wr.setCells blk (off + (a + i) * 4) (dcl dk[b + i]!)).setCells blk (off + (b + i) * 4) (dcl dk[a + i]!))) := S1.out.swap R.hk R.hblk (a + i) (b + i) ia ib
      have A1 : At4 wr blk (off + (a + i) * 4) dk[a + i]!.e := sw_at S1.out R HD.out.2 (by assumption) rfl
      have A2 : At4 wr blk (off + (b + i) * 4) dk[b + i]!.e := sw_at S1.out R HD.out.2 (by assumption) rfl
      simp only [dcl, ecl, setCells4] at S2
      generalize dk[a + i]!.e = xI at S2 A1
      generalize dk[b + i]!.e = xJ at S2 A2
      obtain ⟨a0, a1, a2, a3⟩ := xI
      obtain ⟨b0, b1, b2, b3⟩ := xJ
      obtain ⟨c0, c1, c2, c3, f0, f1, f2, f3⟩ := A1
      obtain ⟨c4, c5, c6, c7, f4, f5, f6, f7⟩ := A2
      clear S1 hds ia ib
      go_wp2_with fail
      go_big_region_o
      all_goals go_wp2
      go_roundg (n - (i + 1))
      case measure => omega
      case rel => exact ⟨i + 1, swp dk (a + i) (b + i), by go_num, by omega, Nat.le_refl _, by rw [size_swp]; exact HD.out.1, S2.out.drew, H1.out.step hlt hab hb⟩
    · obtain rfl : i = n := by omega
      go_wp2
      go_end0
      exact ⟨rfl, dk, S1.out, H1.out⟩
end Go.Proofs.Ytblhijgjidfioaa
