/-
  The statement's own Pick: its walk.
-/
import Derived.Test.YtblhijgjidfioaaRaB
import Derived.Test.YtblhijgjidfioaaReRow
import Derived.Deep.AppendLies
import Derived.Deep.RegionHeld3
namespace Go.Proofs.Ytblhijgjidfioaa
open Go.RowKit Go.Maps
attribute [local go_sem] Oper.semAt_some

/-! ### a region that draws its order, an operation at a time, each written out -/
section
variable {P : Program} {Q : Exit → Act → World → Prop} {md : Region.Mode} {S : World → Prop}
theorem list_at {α : Type} {l rest : List α} {i : Nat} {o : α} (h : l.drop i = o :: rest) : l.toArray[i]? = some o := by
  have e : (l.drop i)[0]? = some o := by rw [h]; rfl
  rw [List.getElem?_drop] at e
  simpa using e
theorem take_list {l rest : List Oper} {i : Nat} {oi : Oper} {v : Value} {fuel : Nat} {listed : Array Bool} {a : Act} {w : World} (hi : l.drop i = oi :: rest)
    (hs : Region.noSelect l.toArray = true) (hf : Region.free md l.toArray listed i = true) (hr : (Region.ready md l.toArray listed).contains i = true)
    (hQ : ∀ c a w, Q (.panic c) (a.put oi.dst v) w → Q (.panic c) a w) (hy : YieldsIf P l.toArray S oi v a) (hS : S w)
    (h : wpAnyH P md l.toArray Q S fuel (listed.setIfInBounds i true) (a.put oi.dst v) w) : wpAnyH P md l.toArray Q S (fuel + 1) listed a w :=
  wpAnyH_take (list_at hi) hs hf hr hQ hy hS h
theorem ready_list {l rest : List Oper} {fuel : Nat} {listed : Array Bool} {a : Act} {w : World} {i : Nat} {o : Oper} (ho : l.drop i = o :: rest) (hr : Region.ready md l.toArray listed = [i])
    (h : ∀ K' : Act → World → Prop, Shut (∀ a w, S w → (S w → wpAnyH P md l.toArray Q S fuel (listed.setIfInBounds i true) a w) → K' a w) → if Region.wanted o (yielded l.toArray a.tmps) = true then Oper.wp P o a w K' Q else K' (a.put o.dst undef) w) :
    wpAnyH P md l.toArray Q S (fuel + 1) listed a w :=
  wpAnyH_ready hr (by simp) (AllReadyH.cons (list_at ho) h AllReadyH.nil)
theorem ready_two {l rest rest' : List Oper} {fuel : Nat} {listed : Array Bool} {a : Act} {w : World} {i i' : Nat} {o o' : Oper} (ho : l.drop i = o :: rest) (ho' : l.drop i' = o' :: rest') (hr : Region.ready md l.toArray listed = [i, i'])
    (h : ∀ K' : Act → World → Prop, Shut (∀ a w, S w → (S w → wpAnyH P md l.toArray Q S fuel (listed.setIfInBounds i true) a w) → K' a w) → if Region.wanted o (yielded l.toArray a.tmps) = true then Oper.wp P o a w K' Q else K' (a.put o.dst undef) w)
    (h' : ∀ K' : Act → World → Prop, Shut (∀ a w, S w → (S w → wpAnyH P md l.toArray Q S fuel (listed.setIfInBounds i' true) a w) → K' a w) → if Region.wanted o' (yielded l.toArray a.tmps) = true then Oper.wp P o' a w K' Q else K' (a.put o'.dst undef) w) :
    wpAnyH P md l.toArray Q S (fuel + 1) listed a w :=
  wpAnyH_ready hr (by simp) (AllReadyH.cons (list_at ho) h (AllReadyH.cons (list_at ho') h' AllReadyH.nil))
end

set_option maxHeartbeats 4000000 in
set_option maxRecDepth 100000 in
theorem refPick_any {w : World} {m nm : Nat} {f : Ways} {A : Option Addr} {lc cc : Nat} {cs : List Int} (hM : Mk lkE w m nm (vals f)) (hC : InI w A lc cc cs) (hF : ∀ k r, f k = some r → r.Fits) (most a : Nat) (len : Int) (hp : Pk.ok ⟨a, len⟩) :
    Calls Try.prog 15 #[.map (some m), .agg #[.int .u32 a, .int .i64 len], .slice A lc cc, .int .u32 most] w fun e w' => e = .returned (.int .i64 (bestI f cs most a len 9)) ∧ Below w.heap.size w w' := by
  have hb := below_new w (.cells #[.int .u32 a, .int .i64 len] 32)
  have PB := Blk.new w 32 #[.int .u32 a, .int .i64 len]
  have hlc := hC.hm
  unfold maxLen at hlc
  have mixed := mixed_orders2
  have H := Lib.hid (And.intro (hM.held hb) (And.intro (hC.held hb) (And.intro hF (And.intro hp (And.intro PB hb)))))
  clear hM hC hF hp PB hb
  go_enter Try.func15, Try.ntmps15
  go_wp2_with fail
  generalize w.alloc (.cells #[.int .u32 a, .int .i64 len] 32) = w2 at *
  generalize hP : w.heap.size = P at *
  go_loopw [9, 10, 11] (fun b me i wr => ∃ (k : Nat), b = .int .i64 (bestI f cs most a len k) ∧ me = .int .i64 (bestM f cs most a len k) ∧ i = .int .i64 k ∧ k ≤ 9 ∧ Hid (Below w2.heap.size w2 wr)) (fun _ _ i _ => 9 - (intOf i).toNat)
  case atStart => exact ⟨0, rfl, rfl, rfl, by omega, .refl _ _⟩
  case round =>
    obtain ⟨k, rfl, rfl, rfl, hk, R⟩ := hrel
    by_cases hk9 : k < 9
    · have hkz : (k : Int) ≤ 8 := by omega
      have PW := H.out.2.2.2.2.1.held R.out
      have p0 := PW.at_ 0
      have p1 := PW.at_ 1
      have hkk : Rk.ok ⟨a, len, k⟩ := ⟨H.out.2.2.2.1.1, H.out.2.2.2.1.2, by show -9223372036854775808 ≤ (k : Int); omega, by show (k : Int) ≤ 9223372036854775807; omega⟩
      obtain ⟨ok, hok⟩ : ∃ ok, (f ⟨a, len, k⟩).isSome = ok := ⟨_, rfl⟩
      obtain ⟨r, hr⟩ : ∃ r, (f ⟨a, len, k⟩).getD Rt.zero = r := ⟨_, rfl⟩
      have hlook : (Instr.lookup 28 (.map (some m)) (.agg #[.int .u32 a, .int .i64 len, .int .i64 k]) true).run Try.prog wr = .ok (.tuple #[rV r, .bool ok]) wr := by
        have h2 := (H.out.1.held R.out).look_ok (t := 28) (e := 37) (by kernel_rfl) (z := rV Rt.zero) (zero_route wr) (i := ⟨a, len, k⟩) hkk
        rw [vals_some, hok, show (vals f ⟨a, len, k⟩).getD (rV Rt.zero) = rV ((f ⟨a, len, k⟩).getD Rt.zero) by unfold vals; cases f ⟨a, len, k⟩ <;> rfl, hr] at h2
        exact h2
      obtain ⟨fr, id, seq, met, exp⟩ := r
      unfold rV at hlook
      have hbR := R.out.trans ((below_new wr (.cells #[.int .i64 fr, .int .u32 id, .int .u32 seq, .int .u16 met, .int .i64 exp] 37)).mono R.out.size)
      have BX := Lib.hid (And.intro hbR (And.intro hok hr))
      clear hbR hok hr PW hkk
      cases ok with
      | false =>
        have hnone : reachF f cs most a len k = none := by
          have h1 := BX.out.2.1
          unfold reachF
          cases hf : f ⟨a, len, k⟩ with
          | none => rfl
          | some r => rw [hf] at h1; cases h1
        have hB := Lib.hid (best_skip hnone)
        clear hnone
        go_wp2_with fail
        go_roundw
        case rel => exact ⟨k + 1, by rw [hB.out.1], by rw [hB.out.2], by go_num, by omega, BX.out.1⟩
        case measure => simp [intOf]; omega
      | true =>
        dsimp only at hlook
        have hsome : f ⟨a, len, k⟩ = some ⟨fr, id, seq, met, exp⟩ := by
          have h1 := BX.out.2.1
          have h2 := BX.out.2.2
          cases hf : f ⟨a, len, k⟩ with
          | none => rw [hf] at h1; cases h1
          | some r => rw [hf] at h2; exact congrArg some h2
        have hrf : reachF f cs most a len k = if costAt cs k < 1 ∨ ¬ id ≤ most ∨ far met (costAt cs k) = 65535 then none else some (⟨fr, id, seq, met, exp⟩, far met (costAt cs k)) := by
          unfold reachF
          rw [hsome]
        have RF := Lib.hid (And.intro hrf (H.out.2.2.1 _ _ hsome))
        clear hrf hsome
        have skip : reachF f cs most a len k = none → Hid (bestI f cs most a len (k + 1) = bestI f cs most a len k ∧ bestM f cs most a len (k + 1) = bestM f cs most a len k) := fun h => best_skip h
        by_cases hlk : k < lc
        · have hlz : (k : Int) < (lc : Int) := by omega
          have hcl : k < cs.length := by rw [H.out.2.1.hl]; exact hlk
          obtain ⟨b, off, rfl⟩ := H.out.2.1.hA (by omega)
          have hcost : costAt cs k = cs[k] := by
            unfold costAt
            rw [if_neg (by omega)]
            simp [hcl]
          have c0 := (H.out.2.1.held BX.out.1).hR b off rfl k hcl
          have RB := Blk.new wr 37 #[.int .i64 fr, .int .u32 id, .int .u32 seq, .int .u16 met, .int .i64 exp]
          generalize cs[k] = c at *
          by_cases hc : c ≤ 0
          · have hB := skip (by rw [RF.out.1, if_pos (.inl (by omega))])
            clear skip hcost RB
            go_wp2_with fail
            go_roundw
            case rel => exact ⟨k + 1, by rw [hB.out.1], by rw [hB.out.2], by go_num, by omega, BX.out.1⟩
            case measure => simp [intOf]; omega
          · by_cases hid : most < id
            · have hidz : (most : Int) < (id : Int) := by omega
              have hB := skip (by rw [RF.out.1, if_pos (.inr (.inl (by omega)))])
              clear skip hcost RB
              go_wp2_with fail
              go_roundw
              case rel => exact ⟨k + 1, by rw [hB.out.1], by rw [hB.out.2], by go_num, by omega, BX.out.1⟩
              case measure => simp [intOf]; omega
            · have hidz : ¬ (most : Int) < (id : Int) := by omega
              have r2 := RB.at_ 2
              have r3 := RB.at_ 3
              go_wp2_with fail
              have hBe := fun w => refBeyond_any seq met c (by omega) (by have := RF.out.2.met; dsimp only at this; omega) w
              have Y := Lib.hid (And.intro BX.out.1 hBe)
              clear hlook p0 p1 BX R RB hBe
              generalize wr.alloc (.cells #[.int .i64 fr, .int .u32 id, .int .u32 seq, .int .u16 met, .int .i64 exp] 37) = W at *
              generalize wr.heap.size = R0 at *
              have r2' : W.cell? ⟨R0, 2, none⟩ = some (.int .u32 seq) := r2
              have r3' : W.cell? ⟨R0, 3, none⟩ = some (.int .u16 met) := r3
              refine wp_region_held_drew (S := fun u => u.cell? ⟨R0, 2, none⟩ = some (.int .u32 seq) ∧ u.cell? ⟨R0, 3, none⟩ = some (.int .u16 met) ∧ u.cell? ⟨b, off + k, none⟩ = some (.int .i64 c)) (by kernel_rfl) ⟨r2', r3', c0⟩ (fun hHeld => ?_)
              refine take_list (i := 0) (v := .pointer (some ⟨R0, 2, none⟩)) rfl (by kernel_rfl) (by kernel_rfl) (by kernel_rfl) (fun _ _ _ h => h) (.inl ⟨rfl, ?_⟩) hHeld ?_
              · (intro w hSw; go_simp)
              go_frame
              refine take_list (i := 1) (v := .agg #[.int .u32 seq, .int .u16 met]) rfl (by kernel_rfl) (by kernel_rfl) (by kernel_rfl) (fun _ _ _ h => h) (.inl ⟨rfl, ?_⟩) hHeld ?_
              · (intro w hSw; go_simp)
              go_frame
              refine take_list (i := 2) (v := .slice (some ⟨b, off, none⟩) lc cc) rfl (by kernel_rfl) (by kernel_rfl) (by kernel_rfl) (fun _ _ _ h => h) (.inl ⟨rfl, ?_⟩) hHeld ?_
              · (intro w hSw; go_simp)
              go_frame
              refine take_list (i := 3) (v := .int .i64 k) rfl (by kernel_rfl) (by kernel_rfl) (by kernel_rfl) (fun _ _ _ h => h) (.inl ⟨rfl, ?_⟩) hHeld ?_
              · (intro w hSw; go_simp)
              go_frame
              refine take_list (i := 4) (v := .pointer (some ⟨b, off + k, none⟩)) rfl (by kernel_rfl) (by kernel_rfl) (by kernel_rfl) (fun _ _ _ h => h) (.inl ⟨rfl, ?_⟩) hHeld ?_
              · (intro w hSw; go_simp)
              go_frame
              refine take_list (i := 5) (v := .int .i64 c) rfl (by kernel_rfl) (by kernel_rfl) (by kernel_rfl) (fun _ _ _ h => h) (.inl ⟨rfl, ?_⟩) hHeld ?_
              · (intro w hSw; go_simp)
              go_frame
              have hR0 : R0 < W.heap.size := cell_lt r2'
              have hb0 : b < W.heap.size := cell_lt c0
              have hrf := RF.out.1
              rw [hcost] at hrf
              have hfr := far_range (m := met) (c := c) (by omega)
              generalize far met c = mm at *
              have Z := Lib.hid (And.intro hrf hfr)
              clear hrf r2 r3 RF hcost skip
              refine ready_two (i := 6) (i' := 7) rfl rfl (by kernel_rfl) (fun K hK => ?br1) (fun K hK => ?br2)
              case' br1 =>
                go_simp
                refine (Y.out.2 _).mono ?_
                rintro e w6 ⟨rfl, hb6⟩
                replace hb6 : Below W.heap.size W w6 := ⟨hb6.os, hb6.tape, hb6.output, hb6.size, hb6.block⟩
                refine hK.out _ _ ⟨held hb6 r2', held hb6 r3', held hb6 c0⟩ (fun hHeld => ?_)
                clear hK K
                refine ready_list (i := 7) rfl (by kernel_rfl) (fun K hK => ?_)
                go_simp
                have hb7 := next hb6 (below_new w6 (.cells #[.int .u32 0, .int .u16 0] 35))
                refine hK.out _ _ ⟨held hb7 r2', held hb7 r3', held hb7 c0⟩ (fun hHeld => ?_)
                clear hK K
                have BZ := Blk.new w6 35 #[.int .u32 0, .int .u16 0]
                have hq := hb6.size
                generalize w6.alloc (.cells #[.int .u32 0, .int .u16 0] 35) = w7 at *
                generalize w6.heap.size = q at *
                clear hb6
              case' br2 =>
                go_simp
                have hbn := below_new W (.cells #[.int .u32 0, .int .u16 0] 35)
                refine hK.out _ _ ⟨held hbn r2', held hbn r3', held hbn c0⟩ (fun hHeld => ?_)
                clear hK K
                refine ready_list (i := 6) rfl (by kernel_rfl) (fun K hK => ?_)
                go_simp
                refine (Y.out.2 _).mono ?_
                rintro e w7 ⟨rfl, hb6⟩
                replace hb6 : Below (W.alloc (.cells #[.int .u32 0, .int .u16 0] 35)).heap.size (W.alloc (.cells #[.int .u32 0, .int .u16 0] 35)) w7 := ⟨hb6.os, hb6.tape, hb6.output, hb6.size, hb6.block⟩
                have hb7 := next hbn hb6
                refine hK.out _ _ ⟨held hb7 r2', held hb7 r3', held hb7 c0⟩ (fun hHeld => ?_)
                clear hK K
                have BZ := (Blk.new W 35 #[.int .u32 0, .int .u16 0]).held hb6
                obtain ⟨q, hqe⟩ : ∃ q, W.heap.size = q := ⟨_, rfl⟩
                have hq : W.heap.size ≤ q := by omega
                rw [hqe] at BZ
                clear hb6 hbn
              all_goals
                have BB := Y.out.1.trans (hb7.mono Y.out.1.size)
                have s2 := held hb7 r2'
                have s3 := held hb7 r3'
                have s4 := held hb7 c0
                clear hb7 r2' r3' c0
                refine ready_list (i := 8) rfl (by kernel_rfl) (fun K hK => ?_)
                have z0 := BZ.at_ 0
                have z1 := BZ.at_ 1
                have y0 := BZ.free 0
                have y1 := BZ.free 1
                go_simp
                have hw2 := Y.out.1.size
                have T8 : Turn [q] w7 ((w7.setCell ⟨q, 0, none⟩ (.int .u32 seq)).setCell ⟨q, 1, none⟩ (.int .u16 mm)) := (Turn.setCell _ (by simp) _).trans (Turn.setCell _ (by simp) _)
                refine hK.out _ _ ⟨T8.cell s2 (by simp; omega), T8.cell s3 (by simp; omega), T8.cell s4 (by simp; omega)⟩ (fun hHeld => ?_)
                clear hK K
                refine wpAnyH_done (by kernel_rfl) ?_ _
                try go_frame
                have BD : Blk 35 ((w7.setCell ⟨q, 0, none⟩ (.int .u32 seq)).setCell ⟨q, 1, none⟩ (.int .u16 mm)) q #[.int .u32 seq, .int .u16 mm] := (BZ.store 0 (.int .u32 seq)).store 1 (.int .u16 mm)
                have B8 := Lib.hid (BB.trans (T8.below (fun i hi => by simp at hi; subst hi; omega) BB.size))
                clear T8 BZ z0 z1 y0 y1 BB s2 s3 s4 hHeld
                generalize (w7.setCell ⟨q, 0, none⟩ (.int .u32 seq)).setCell ⟨q, 1, none⟩ (.int .u16 mm) = w8 at *
                have d1 := BD.at_ 1
                clear BD hw2 hR0 hb0 hq Y
                by_cases hm : mm = 65535
                · have hB := Lib.hid (best_skip (show reachF f cs most a len k = none by rw [Z.out.1, if_pos (.inr (.inr hm))]))
                  subst hm
                  go_wp2_with fail
                  go_roundw
                  case rel => exact ⟨k + 1, by rw [hB.out.1], by rw [hB.out.2], by go_num, by omega, B8.out⟩
                  case measure => simp [intOf]; omega
                · have hre : reachF f cs most a len k = some (⟨fr, id, seq, met, exp⟩, mm) := by rw [Z.out.1, if_neg (by omega)]
                  have hm2 : mm < 65535 := by omega
                  have mw : wrap64 mm = mm := by unfold wrap64; omega
                  by_cases hbI : bestI f cs most a len k < 0
                  · have hB := Lib.hid (best_take hre (.inl hbI))
                    clear hre
                    go_wp2_with fail
                    go_roundw
                    case rel => exact ⟨k + 1, by rw [hB.out.1], by rw [hB.out.2], by go_num, by omega, B8.out⟩
                    case measure => simp [intOf]; omega
                  · by_cases hlt : mm < bestM f cs most a len k
                    · have hB := Lib.hid (best_take hre (.inr hlt))
                      clear hre
                      go_wp2_with fail
                      go_roundw
                      case rel => exact ⟨k + 1, by rw [hB.out.1], by rw [hB.out.2], by go_num, by omega, B8.out⟩
                      case measure => simp [intOf]; omega
                    · have hB := Lib.hid (best_leave hre (by rintro (h | h); exact hbI h; exact hlt h))
                      clear hre
                      go_wp2_with fail
                      go_roundw
                      case rel => exact ⟨k + 1, by rw [hB.out.1], by rw [hB.out.2], by go_num, by omega, B8.out⟩
                      case measure => simp [intOf]; omega
        · have hlz : (lc : Int) ≤ (k : Int) := by omega
          have hcz : costAt cs k = 0 := by
            unfold costAt
            rw [if_pos (.inr (by rw [H.out.2.1.hl]; exact hlz))]
          have hB := skip (by rw [RF.out.1, if_pos (.inl (by omega))])
          clear hcz
          clear skip
          go_wp2_with fail
          go_roundw
          case rel => exact ⟨k + 1, by rw [hB.out.1], by rw [hB.out.2], by go_num, by omega, BX.out.1⟩
          case measure => simp [intOf]; omega
    · obtain rfl : k = 9 := by omega
      go_wp2_with fail
      go_ret
      subst hP
      exact ⟨rfl, H.out.2.2.2.2.2.trans (R.out.mono H.out.2.2.2.2.2.size)⟩
end Go.Proofs.Ytblhijgjidfioaa
