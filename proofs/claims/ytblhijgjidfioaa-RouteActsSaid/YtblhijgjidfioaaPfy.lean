/-
  Package route's Prefixes: the iterator that it answers.
-/
import Derived.Test.YtblhijgjidfioaaPfx
namespace Go.Proofs.Ytblhijgjidfioaa
open Go.RowKit Go.Maps

set_option maxHeartbeats 2000000 in
set_option maxRecDepth 100000 in
theorem pfx_loop {q : Nat} {lb : Array Value} (eg : ∀ args w, (callFunc q args).run Try.prog w = .ok (.enter q args) w) {B g cap : Nat} {xs : List Pk} {J E : Nat → World → Prop}
    (hrow : ∀ k W, J k W → W.cell? ⟨B, 0, none⟩ = some (.slice (some ⟨g, 0, none⟩) xs.length cap) ∧ ∃ F, PR W g F xs.length ∧ ∀ i (h : i < xs.length), F i = xs[i])
    (hal : ∀ k W o, J k W → J k (W.alloc o))
    (hy : ∀ k (hk : k < xs.length) W, J k W → Calls Try.prog q (#[.agg #[.int .u32 xs[k].a, .int .i64 xs[k].n]] ++ lb) W fun e W' => ∃ b, e = .returned (.bool b) ∧ (b = true → J (k + 1) W') ∧ (b = false → E k W'))
    (hxs : xs.length ≤ 100000) {w : World} (h0 : J 0 w) :
    Calls Try.prog 33 #[.func (.func q) #[] lb, .pointer (some ⟨B, 0, none⟩)] w fun e w' => e = .returned (.tuple #[]) ∧ (J xs.length w' ∨ ∃ k, k < xs.length ∧ E k w') := by
  have c0 := (hrow 0 w h0).1
  have HJ := Lib.hid (And.intro hrow (And.intro hal hy))
  have H0 := Lib.hid h0
  clear hrow hal hy h0
  go_enter Try.func33, Try.ntmps33
  go_wp2_with fail
  go_loopw [4, 7] (fun _ i wr => ∃ k : Nat, i = .int .i64 k ∧ k ≤ xs.length ∧ Hid (J k wr)) (fun _ i _ => xs.length - (intOf i).toNat)
  case atStart => exact ⟨0, rfl, Nat.zero_le _, H0⟩
  case round =>
    clear H0 c0
    obtain ⟨k, rfl, hk, R⟩ := hrel
    by_cases hkl : k < xs.length
    · have hkz : (k : Int) < (xs.length : Int) := by omega
      obtain ⟨F, hP, hF⟩ := (HJ.out.1 k wr R.out).2
      have c1 := hP.c0 k hkl
      have c2 := hP.c1 k hkl
      have hY := HJ.out.2.2 k hkl _ (HJ.out.2.1 k wr (.cells #[.int .u32 xs[k].a, .int .i64 xs[k].n] 32) R.out)
      rw [hF k hkl] at c1 c2
      have Y := Lib.hid hY
      generalize xs[k] = x at *
      obtain ⟨a, n⟩ := x
      dsimp only at c1 c2
      clear hP hF hY
      go_wp2_with fail
      refine Y.out.mono ?_
      rintro e w2 ⟨b, rfl, hb1, hb2⟩
      cases b with
      | true =>
        have R2 := Lib.hid (hb1 rfl)
        clear hb1 hb2 Y c1 c2
        go_wp2_with fail
        go_roundw
        case rel => exact ⟨k + 1, by go_num, by omega, R2⟩
        case measure => simp [intOf]; omega
      | false =>
        have R2 := Lib.hid (hb2 rfl)
        clear hb1 hb2 Y c1 c2
        go_wp2_with fail
        refine bodyPost_ret (results_none rfl _ _ _) rfl ?_
        exact ⟨rfl, .inr ⟨k, hkl, R2.out⟩⟩
    · obtain rfl : k = xs.length := by omega
      go_wp2_with fail
      go_end0
      exact ⟨rfl, .inl R.out⟩
end Go.Proofs.Ytblhijgjidfioaa
