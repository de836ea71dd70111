/-
  Package route: Expire.
-/
import Derived.Test.YtblhijgjidfioaaRaA
namespace Go.Proofs.Ytblhijgjidfioaa
open Go.RowKit Go.Maps
attribute [local go_sem] Oper.semAt_some

def deadAt (f : Ways) (now : Int) (z : Rk) : Bool :=
  match f z with
  | some r => decide (r.exp ≤ now)
  | none => false
set_option maxHeartbeats 4000000 in
set_option maxRecDepth 100000 in
theorem rt_expire {w : World} {t n : Nat} {o : Option Nat} {f : Ways} (h : Tb w t o n f) (now : Int) :
    Calls Try.prog 11 #[.pointer (some ⟨t, 0, none⟩), .int .i64 now] w fun e w' => e = .returned (.tuple #[]) ∧ ∃ n', Tb w' t o n' (lessF f (deadAt f now)) ∧ Turn o.toList w w' := by
  have c0 := h.head.at_ 0
  obtain ⟨w1, hrn, hrg, hg1, hs1⟩ := Ro.range h.map
  have P0 : Pw w w1 t w.heap.size o f (fun z => (vals f z).isSome) n n := ⟨hrg, h.head.grown (B := 0) hg1 (fun r e => by cases e), (Turn.refl _ _).trans ⟨hg1.os, hg1.tape, hg1.output, hg1.size, fun i hi _ => hg1.block i hi (by simp)⟩, Nat.le_refl _⟩
  have H := Lib.hid (And.intro h P0)
  clear h hrg hg1 P0 hs1
  go_enter Try.func11, Try.ntmps11
  go_wp2_with fail
  generalize hgR : w.heap.size = r at *
  clear hrn c0 hgR
  go_loopw [4, 5] (fun _ _ wr => ∃ (f' : Ways) (left : Rk → Bool) (cnt n' : Nat), Hid (Pw w wr t r o f' left cnt n' ∧ Inv f f' (deadAt f now) left)) (fun _ _ wr => roLeft o wr r)
  case atStart => exact ⟨_, _, _, _, H.out.2, Inv.start _ _⟩
  case round =>
    obtain ⟨f', left, cnt, n', R⟩ := hrel
    rcases R.out.1.rg.next 0 with ⟨hc0, hl0, hrun⟩ | ⟨⟨ka, kn, kf⟩, v, w2, cnt2, hi, hli, hfi, hrun, hrg2, hlt, hg2, hs2, hen⟩
    · go_wp2_with fail
      go_end0
      exact ⟨rfl, n', R.out.1.done H.out.1.map R.out.2 hl0, R.out.1.turn⟩
    · have hon := R.out.1.rg.some hli
      obtain ⟨rt, hrt, rfl⟩ : ∃ rt, f' ⟨ka, kn, kf⟩ = some rt ∧ rV rt = v := by
        unfold vals at hfi
        cases hx : f' ⟨ka, kn, kf⟩ with
        | none => rw [hx] at hfi; cases hfi
        | some rt => rw [hx] at hfi; exact ⟨rt, rfl, by simpa using hfi⟩
      have hfz : f ⟨ka, kn, kf⟩ = some rt := by
        have := R.out.2 ⟨ka, kn, kf⟩ hi
        rw [hrt, if_neg (by rw [hli]; simp)] at this
        exact this.symm
      obtain ⟨rf, id, seq, met, exp⟩ := rt
      have hdead : deadAt f now ⟨ka, kn, kf⟩ = decide (exp ≤ now) := by unfold deadAt; rw [hfz]
      have P2 := ((R.out.1.next hrg2 hg2).alloc (.cells #[.int .u32 ka, .int .i64 kn, .int .i64 kf] 77)).alloc (.cells #[.int .i64 rf, .int .u32 id, .int .u32 seq, .int .u16 met, .int .i64 exp] 37)
      have hmeas := R.out.1.rg.left_eq
      unfold rV at hrun hen
      replace hrun : (Instr.next (.pointer (some ⟨r, 0, none⟩)) false 0).run Try.prog wr = .ok (.tuple #[.bool true, .agg #[.int .u32 ka, .int .i64 kn, .int .i64 kf], .agg #[.int .i64 rf, .int .u32 id, .int .u32 seq, .int .u16 met, .int .i64 exp]]) w2 := hrun
      replace hen : (Instr.entry (.pointer (some ⟨r, 0, none⟩))).run Try.prog w2 = .ok (.tuple #[.agg #[.int .u32 ka, .int .i64 kn, .int .i64 kf], .agg #[.int .i64 rf, .int .u32 id, .int .u32 seq, .int .u16 met, .int .i64 exp]]) w2 := hen
      clear hs2 hg2 hrg2 hfi hrt hfz
      have KB := (Blk.new w2 77 #[.int .u32 ka, .int .i64 kn, .int .i64 kf]).more (.cells #[.int .i64 rf, .int .u32 id, .int .u32 seq, .int .u16 met, .int .i64 exp] 37)
      by_cases hd : exp ≤ now
      · have R2 := Lib.hid (R.out.2.cut (i := ⟨ka, kn, kf⟩) (by rw [hdead]; exact decide_eq_true hd))
        have hd1 : decide (exp ≤ now) = true := decide_eq_true hd
        clear R hdead
        go_wp2_with fail
        clear hrun hen
        generalize (w2.alloc (.cells #[.int .u32 ka, .int .i64 kn, .int .i64 kf] 77)).alloc (.cells #[.int .i64 rf, .int .u32 id, .int .u32 seq, .int .u16 met, .int .i64 exp] 37) = W at *
        have k0 := KB.at_ 0
        have k1 := KB.at_ 1
        have k2 := KB.at_ 2
        have t0 : W.cell? ⟨t, 0, none⟩ = some (.map o) := P2.head.at_ 0
        obtain ⟨w4, n4, cnt4, hu, P4, hc4⟩ := P2.drew.drop hon hi
        replace hu : (Builtin.delete_ #[73, 77] 0 #[.map o, .agg #[.int .u32 ka, .int .i64 kn, .int .i64 kf]]).run Try.prog W.drew = .ok (.tuple #[]) w4 := hu
        have Z := Lib.hid P4
        clear P4 P2 KB
        go_region
        all_goals
          go_wp2_with fail
          go_roundw
          case rel => exact ⟨_, _, cnt4, n4, Z.out, R2.out⟩
          case measure =>
            have := Z.out.rg.left_eq
            omega
      · have R2 := Lib.hid (R.out.2.keep (i := ⟨ka, kn, kf⟩) (by rw [hdead]; exact decide_eq_false hd))
        have hd1 : decide (exp ≤ now) = false := decide_eq_false hd
        have P3 := Lib.hid P2
        clear P2 R KB hdead
        go_wp2_with fail
        go_roundw
        case rel => exact ⟨f', _, cnt2, n', P3.out, R2.out⟩
        case measure =>
          have := P3.out.rg.left_eq
          omega
end Go.Proofs.Ytblhijgjidfioaa
