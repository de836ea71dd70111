/-
  Package route: DropAll and Expire.
-/
import Derived.Test.YtblhijgjidfioaaRaD
namespace Go.Proofs.Ytblhijgjidfioaa
open Go.RowKit Go.Maps
attribute [local go_sem] Oper.semAt_some

/-- the table while its map is gone through -/
structure Pw (w wr : World) (t r : Nat) (o : Option Nat) (f : Ways) (left : Rk → Bool) (cnt n : Nat) : Prop where
  rg : Ro o wr r n (vals f) left cnt
  head : Blk 75 wr t #[.map o]
  turn : Turn o.toList w wr
  r0 : w.heap.size ≤ r
theorem Pw.next {w wr w2 : World} {t r : Nat} {o : Option Nat} {f : Ways} {left left' : Rk → Bool} {cnt cnt' n : Nat} (h : Pw w wr t r o f left cnt n) (hrg : Ro o w2 r n (vals f) left' cnt') (hg : wr.grownBy w2 (some r)) : Pw w w2 t r o f left' cnt' n := by
  obtain ⟨ob, hob, hwk⟩ := h.rg.iter_walk
  exact ⟨hrg, h.head.grown (B := 0) hg (fun r' e => by cases e; exact ⟨Nat.zero_le _, ob, hob, Obj.not_cells_of_walk hwk⟩), h.turn.fresh (Turn.of_grown hg (by simp)) h.r0, h.r0⟩
theorem Pw.alloc {w wr : World} {t r : Nat} {o : Option Nat} {f : Ways} {left : Rk → Bool} {cnt n : Nat} (h : Pw w wr t r o f left cnt n) (ob : Obj) : Pw w (wr.alloc ob) t r o f left cnt n :=
  ⟨h.rg.of_walks (KeepsWalks.alloc wr ob), h.head.more ob, h.turn.alloc ob, h.r0⟩
theorem Pw.drew {w wr : World} {t r : Nat} {o : Option Nat} {f : Ways} {left : Rk → Bool} {cnt n : Nat} (h : Pw w wr t r o f left cnt n) : Pw w wr.drew t r o f left cnt n :=
  ⟨h.rg.of_walks ⟨Nat.le_refl _, fun _ _ h _ => h⟩, h.head.drew, h.turn.drew, h.r0⟩
theorem Pw.ne {w wr : World} {t r : Nat} {o : Option Nat} {f : Ways} {left : Rk → Bool} {cnt n : Nat} (h : Pw w wr t r o f left cnt n) : t ∉ o.toList := by
  intro hm
  cases o with
  | none => cases hm
  | some b =>
    have hb : t = b := by simpa using hm
    obtain ⟨es, cl, h2⟩ := (Rg.map h.rg).isMap
    have h3 := h.head
    unfold Blk at h3
    rw [hb, h2] at h3
    cases h3
theorem Pw.drop {w wr : World} {t r : Nat} {o : Option Nat} {f : Ways} {left : Rk → Bool} {cnt n : Nat} (h : Pw w wr t r o f left cnt n) (ho : o ≠ none) {i : Rk} (hi : rkE.ok i) :
    ∃ w' n' cnt', (Builtin.delete_ #[73, 77] 0 #[.map o, .agg #[.int .u32 i.a, .int .i64 i.n, .int .i64 i.fr]]).run Try.prog wr = .ok (.tuple #[]) w' ∧ Pw w w' t r o (cutR f i) (fun z => left z && !decide (z = i)) cnt' n' ∧ cnt' ≤ cnt := by
  have hne := h.ne
  cases o with
  | none => exact absurd rfl ho
  | some b =>
    obtain ⟨w', n', cnt', hrun, hrg, hc, hg, hs⟩ := Rg.drop (t := 73) (e := 37) h.rg (by kernel_rfl) hi 0
    rw [← vals_cut] at hrg
    have hT := Turn.of_grown hg (List.mem_singleton.2 rfl)
    exact ⟨w', n', cnt', hrun, ⟨hrg, h.head.turn hT hne, h.turn.trans hT, h.r0⟩, hc⟩

/-- what is left of the ways while they are gone through -/
def Inv (f f' : Ways) (dead : Rk → Bool) (left : Rk → Bool) : Prop := ∀ z, rkE.ok z → f' z = if dead z = true ∧ left z = false then none else f z
theorem Inv.start (f : Ways) (dead : Rk → Bool) : Inv f f dead (fun z => (vals f z).isSome) := fun z _ => by
  split
  · rename_i h
    have h2 := h.2
    simp only [vals_some] at h2
    cases hf : f z with
    | none => rfl
    | some r => rw [hf] at h2; cases h2
  · rfl
theorem Inv.keep {f f' : Ways} {dead left : Rk → Bool} (h : Inv f f' dead left) {i : Rk} (hd : dead i = false) : Inv f f' dead (fun z => left z && !decide (z = i)) := fun z hz => by
  rw [h z hz]
  by_cases e : z = i
  · subst e; simp [hd]
  · simp [e]
theorem Inv.cut {f f' : Ways} {dead left : Rk → Bool} (h : Inv f f' dead left) {i : Rk} (hd : dead i = true) : Inv f (cutR f' i) dead (fun z => (left z && !decide (z = i)) && !decide (z = i)) := fun z hz => by
  unfold cutR
  by_cases e : z = i
  · subst e; simp [hd]
  · rw [if_neg e, h z hz]
    simp [e]
def lessF (f : Ways) (dead : Rk → Bool) : Ways := fun z => if dead z = true then none else f z
theorem Mk.congr {P : Program} {k : TypeId} {α : Type} {E : Ke P k α} {w : World} {b n : Nat} {f f' : α → Option Value} (h : Mk E w b n f) (he : ∀ z, E.ok z → f z = f' z) : Mk E w b n f' := by
  obtain ⟨D, h1, h2, S⟩ := h
  refine ⟨D, h1, h2, fun z hz => ?_⟩
  rw [← he z hz]
  exact S z hz
theorem Pw.done {w wr : World} {t r : Nat} {o : Option Nat} {f f' : Ways} {dead left : Rk → Bool} {cnt n n0 : Nat} (h : Pw w wr t r o f' left cnt n) (h0 : Mo rkE w o n0 (vals f)) (hI : Inv f f' dead left) (hl : ∀ z, rkE.ok z → left z = false) : Tb wr t o n (lessF f dead) := by
  refine ⟨h.head, ?_⟩
  cases o with
  | none =>
    refine ⟨h.rg.2.1, fun x => ?_⟩
    have := h0.2 x
    unfold vals lessF at *
    split
    · rfl
    · exact this
  | some b =>
    refine Mk.congr (Rg.map h.rg) fun z hz => ?_
    unfold vals lessF
    rw [hI z hz]
    simp [hl z hz]
theorem Ro.some {wr : World} {r n : Nat} {o : Option Nat} {f : Rk → Option Value} {left : Rk → Bool} {cnt : Nat} (h : Ro o wr r n f left cnt) {i : Rk} (hl : left i = true) : o ≠ none := fun e => by
  subst e
  have := h.2.2.2 i
  rw [hl] at this
  cases this

set_option maxHeartbeats 4000000 in
set_option maxRecDepth 100000 in
theorem rt_dropAll {w : World} {t n : Nat} {o : Option Nat} {f : Ways} (h : Tb w t o n f) (fr : Int) :
    Calls Try.prog 10 #[.pointer (some ⟨t, 0, none⟩), .int .i64 fr] w fun e w' => e = .returned (.tuple #[]) ∧ ∃ n', Tb w' t o n' (lessF f fun z => decide (z.fr = fr)) ∧ Turn o.toList w w' := by
  have c0 := h.head.at_ 0
  obtain ⟨w1, hrn, hrg, hg1, hs1⟩ := Ro.range h.map
  have P0 : Pw w w1 t w.heap.size o f (fun z => (vals f z).isSome) n n := ⟨hrg, h.head.grown (B := 0) hg1 (fun r e => by cases e), (Turn.refl _ _).trans ⟨hg1.os, hg1.tape, hg1.output, hg1.size, fun i hi _ => hg1.block i hi (by simp)⟩, Nat.le_refl _⟩
  have H := Lib.hid (And.intro h P0)
  clear h hrg hg1 P0 hs1
  go_enter Try.func10, Try.ntmps10
  go_wp2_with fail
  generalize hgR : w.heap.size = r at *
  clear hrn c0 hgR
  go_loopw [4] (fun _ wr => ∃ (f' : Ways) (left : Rk → Bool) (cnt n' : Nat), Hid (Pw w wr t r o f' left cnt n' ∧ Inv f f' (fun z => decide (z.fr = fr)) left)) (fun _ wr => roLeft o wr r)
  case atStart => exact ⟨_, _, _, _, H.out.2, Inv.start _ _⟩
  case round =>
    obtain ⟨f', left, cnt, n', R⟩ := hrel
    rcases R.out.1.rg.next 0 with ⟨hc0, hl0, hrun⟩ | ⟨⟨ka, kn, kf⟩, v, w2, cnt2, hi, hli, hfi, hrun, hrg2, hlt, hg2, hs2, hen⟩
    · go_wp2_with fail
      go_end0
      exact ⟨rfl, n', R.out.1.done H.out.1.map R.out.2 hl0, R.out.1.turn⟩
    · have hon := R.out.1.rg.some hli
      have P2 := (R.out.1.next hrg2 hg2).alloc (.cells #[.int .u32 ka, .int .i64 kn, .int .i64 kf] 77)
      have hmeas := R.out.1.rg.left_eq
      replace hrun : (Instr.next (.pointer (some ⟨r, 0, none⟩)) false 0).run Try.prog wr = .ok (.tuple #[.bool true, .agg #[.int .u32 ka, .int .i64 kn, .int .i64 kf], v]) w2 := hrun
      replace hen : (Instr.entry (.pointer (some ⟨r, 0, none⟩))).run Try.prog w2 = .ok (.tuple #[.agg #[.int .u32 ka, .int .i64 kn, .int .i64 kf], v]) w2 := hen
      clear hs2 hg2 hrg2
      by_cases hd : kf = fr
      · have R2 := Lib.hid (R.out.2.cut (i := ⟨ka, kn, kf⟩) (by simp [hd]))
        subst hd
        have KB := Blk.new w2 77 #[.int .u32 ka, .int .i64 kn, .int .i64 kf]
        clear R
        go_wp2_with fail
        clear hrun hen
        generalize w2.alloc (.cells #[.int .u32 ka, .int .i64 kn, .int .i64 kf] 77) = W at *
        have k0 := KB.at_ 0
        have k1 := KB.at_ 1
        have k2 := KB.at_ 2
        have t0 : W.cell? ⟨t, 0, none⟩ = some (.map o) := P2.head.at_ 0
        obtain ⟨w4, n4, cnt4, hu, P4, hc4⟩ := P2.drew.drop hon hi
        replace hu : (Builtin.delete_ #[73, 77] 0 #[.map o, .agg #[.int .u32 ka, .int .i64 kn, .int .i64 kf]]).run Try.prog W.drew = .ok (.tuple #[]) w4 := hu
        have Z := Lib.hid P4
        clear P4 P2 KB
        go_region
        all_goals
          go_wp2_with fail
          go_roundw
          case rel => exact ⟨_, _, cnt4, n4, Z.out, R2.out⟩
          case measure =>
            have := Z.out.rg.left_eq
            omega
      · have R2 := Lib.hid (R.out.2.keep (i := ⟨ka, kn, kf⟩) (by simp [hd]))
        have P3 := Lib.hid P2
        clear P2 R
        go_wp2_with fail
        go_roundw
        case rel => exact ⟨f', _, cnt2, n', P3.out, R2.out⟩
        case measure =>
          have := P3.out.rg.left_eq
          omega
end Go.Proofs.Ytblhijgjidfioaa
