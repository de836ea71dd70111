/-
  The statement's own walk.
-/
import Derived.Test.YtdeiolpcppibgaaLpC
namespace Go.Proofs.Ytdeiolpcppibgaa
open Go.RowKit Go.Maps Fm

set_option maxRecDepth 100000 in
set_option maxHeartbeats 4000000 in
theorem refWalk_any {w : World} {g cap : Nat} {fss : List (List En)} (h : InF w g cap fss) {x : Nat} (hx : x < 4294967296) (from_ : Int) :
    Calls Try.prog 9 #[.slice (some ⟨g, 0, none⟩) fss.length cap, .int .i64 from_, .int .u32 x] w fun e w' => ∃ v p how ok, e = .returned (.tuple #[v, .int .i64 how, .bool ok]) ∧ Walks fss x [] from_ p how ok ∧ Path fss p ∧ Oi w.heap.size v p w' ∧ Below w.heap.size w w' := by
  have R0 : WlR w fss x from_ [] from_ (.slice (some ⟨w.heap.size, 0, none⟩) 0 0) (w.alloc (.cells #[] 3)) := ⟨Ol.empty w (Nat.le_refl _), .nil _, fun _ _ _ h => h, below_new _ _⟩
  have H := Lib.hid (And.intro h (And.intro hx R0))
  have mixed : Try.prog.follows .mixedOrders = true := by decide
  have hlen : fss.length ≤ 100 := Nat.le_trans h.le h.few
  clear h hx R0
  go_enter Try.func9, Try.ntmps9
  go_wp2_with fail
  go_loopw [1, 9, 11, 12] (fun a l _ _ wr => ∃ (path : List Int) (z : Int), a = .int .i64 z ∧ Hid (WlR w fss x from_ path z l wr)) (fun _ l _ _ _ => fss.length - lenV l)
  case atStart => exact ⟨[], from_, rfl, H.out.2.2⟩
  case round =>
    obtain ⟨path, z, rfl, R⟩ := hrel
    obtain ⟨p0, cc, rfl, hcc⟩ := R.out.own.form
    have hpl := R.out.way.len
    obtain ⟨Ln, hLn⟩ : ∃ Ln, path.length = Ln := ⟨_, rfl⟩
    have HL := Lib.hid (And.intro hLn hpl)
    rw [hLn]
    clear hcc
    by_cases h0 : z < 0
    · have d0 : decide (z < 0) = true := decide_eq_true h0
      have G := Lib.hid (And.intro (R.out.goes _ _ _ (.out (by omega))) (And.intro R.out.way (And.intro R.out.own R.out.below)))
      rw [hLn] at G
      clear R hLn hpl h0
      go_wp2_with fail
      go_ret3
      exact ⟨_, path, _, _, rfl, G.out.1, G.out.2.1, G.out.2.2.1, G.out.2.2.2⟩
    · have d0 : decide (z < 0) = false := decide_eq_false h0
      obtain ⟨k, rfl⟩ := Int.eq_ofNat_of_zero_le (show 0 ≤ z by omega)
      by_cases hk : k < fss.length
      · have dk : decide ((fss.length : Int) ≤ (k : Int)) = false := decide_eq_false (by omega)
        have dk2 : decide (fss.length ≤ k) = false := decide_eq_false (by omega)
        have hkz : (k : Int) < (fss.length : Int) := by omega
        have hL100 : Ln ≤ 100 := by omega
        clear hLn hpl h0
        go_wp2_with fail
        go_loopw [11, 25] (fun _ i wr2 => ∃ j : Nat, i = .int .i64 j ∧ j ≤ Ln ∧ Hid (∀ jj (h : jj < path.length), jj < j → path[jj] ≠ (k : Int)) ∧ wr2 = wr) (fun _ i _ => Ln - (intOf i).toNat)
        case atStart => exact ⟨0, rfl, Nat.zero_le _, fun j _ hj => by omega, rfl⟩
        case round =>
          obtain ⟨j, rfl, hj, S, rfl⟩ := hrel
          by_cases hjl : j < Ln
          · have hjz : (j : Int) < (Ln : Int) := by omega
            have hj2 : j < path.length := by rw [HL.out.1]; exact hjl
            obtain ⟨g1, cp, e, h1, h2, hc⟩ := R.out.own.at_ elemI.len hj2
            cases e
            have c0 := hc 0 (by omega)
            rw [Nat.mul_one, Nat.add_zero] at c0
            replace c0 : wr.cell? ⟨g1, j, none⟩ = some (.int .i64 path[j]) := c0
            clear hc h1 h2
            by_cases he : path[j] = (k : Int)
            · have hm : (k : Int) ∈ path := by rw [← he]; exact List.getElem_mem hj2
              have G := Lib.hid (And.intro (R.out.goes _ _ _ (.ring ⟨by omega, by omega⟩ hm)) (And.intro R.out.way (And.intro R.out.own R.out.below)))
              rw [HL.out.1] at G
              have d1 : (path[j] == (k : Int)) = true := beq_iff_eq.2 he
              clear he hm R S
              go_wp2_with fail
              go_ret3
              exact ⟨_, path, _, _, rfl, G.out.1, G.out.2.1, G.out.2.2.1, G.out.2.2.2⟩
            · have S2 := Lib.hid (show ∀ jj (h : jj < path.length), jj < j + 1 → path[jj] ≠ (k : Int) from fun jj hh hjk => by
                by_cases e : jj = j
                · subst e; exact he
                · exact S.out jj hh (by omega))
              have d1 : (path[j] == (k : Int)) = false := beq_eq_false_iff_ne.2 he
              clear he S
              go_wp2_with fail
              go_roundw
              case rel => exact ⟨j + 1, by go_num, by omega, S2, trivial⟩
              case measure => simp [intOf]; omega
          · have hjz : decide ((j : Int) < (Ln : Int)) = false := decide_eq_false (by omega)
            have hm : (k : Int) ∉ path := fun h => by
              obtain ⟨jj, hh, e⟩ := List.mem_iff_getElem.1 h
              exact S.out jj hh (by have := HL.out.1; omega) e
            obtain ⟨g', cap', W6, hrun, hO6, hT6, hg6⟩ := Ol.push1 elemI R.out.own R.out.below.size (k : Int) (by have := HL.out.1; omega) 28
            have hB6 := own_below R.out.own R.out.below R.out.below.size hT6
            obtain ⟨A, c, hcell, hE⟩ := (H.out.1.held (hB6)).rows k hk
            obtain ⟨⟨ea, en, eh, ex⟩, he⟩ : ∃ r, lookB x fss[k] = r := ⟨_, rfl⟩
            have HK := hE.refLookup H.out.2.1 he
            have hsz : fss[k].length ≤ maxLen := hE.hm
            generalize hfl : fss[k].length = fl at *
            rw [HL.out.1] at hrun hO6
            obtain ⟨L1, hL1⟩ : ∃ L1, Ln + 1 = L1 := ⟨_, rfl⟩
            rw [hL1] at hrun hO6
            have G := Lib.hid (And.intro R (And.intro hm (And.intro hO6 (And.intro hB6 (And.intro he (And.intro hL1 HL.out.1))))))
            clear R hm hO6 hB6 he hT6 hg6 hE hL1 hfl S
            replace hrun : (Builtin.append_ #[28, 28] 28 #[.slice p0 Ln cc, .slice (some ⟨wr.heap.size, 0, none⟩) 1 1]).run Try.prog (wr.alloc (.cells #[.int .i64 (k : Int)] 3)) = .ok (.slice (some ⟨g', 0, none⟩) L1 cap') W6 := hrun
            by_cases hh : eh = 2
            · subst hh
              go_wp2_with (first | (at_builtin; refine Lib.wpList_append_run _ rfl (.tmp 34) (.tmp 36) 28 28 rfl _ _ rfl rfl _ _ hrun ?_) | (go_at_call 16; refine HK.mono ?_; rintro e w7 ⟨rfl, hb7⟩; have hb8 := next hb7 (below_new w7 (.cells #[.int .u32 ea, .int .i64 en, .int .i64 2, .int .i64 ex] 39)); have G2 := Lib.hid (And.intro (G.out.2.2.1.held hb8) (G.out.2.2.2.1.trans (hb8.mono G.out.2.2.2.1.size))); have e1 := (Blk.new w7 39 #[.int .u32 ea, .int .i64 en, .int .i64 2, .int .i64 ex]).at_ 1; have e2 := (Blk.new w7 39 #[.int .u32 ea, .int .i64 en, .int .i64 2, .int .i64 ex]).at_ 2; clear hb7 hb8) | fail)
              go_roundw
              case rel =>
                refine ⟨path ++ [(k : Int)], ex, rfl, ?_⟩
                exact ⟨G2.out.1, G.out.1.out.way.snoc hk G.out.2.1, fun p how ok hw => G.out.1.out.goes _ _ _ (.go rfl hk G.out.2.1 G.out.2.2.2.2.1 hw), G2.out.2⟩
              case measure =>
                have := G.out.2.2.2.2.2.1
                have := G.out.2.2.2.2.2.2
                have := (G.out.1.out.way.snoc hk G.out.2.1).len
                simp at this
                simp [lenV]
                omega
            · have d1 : (eh != 2) = true := by simpa using hh
              have HH := Lib.hid hh
              clear hh
              go_wp2_with (first | (at_builtin; refine Lib.wpList_append_run _ rfl (.tmp 34) (.tmp 36) 28 28 rfl _ _ rfl rfl _ _ hrun ?_) | (go_at_call 16; refine HK.mono ?_; rintro e w7 ⟨rfl, hb7⟩; have hb8 := next hb7 (below_new w7 (.cells #[.int .u32 ea, .int .i64 en, .int .i64 eh, .int .i64 ex] 39)); have G2 := Lib.hid (And.intro (G.out.2.2.1.held hb8) (G.out.2.2.2.1.trans (hb8.mono G.out.2.2.2.1.size))); have e1 := (Blk.new w7 39 #[.int .u32 ea, .int .i64 en, .int .i64 eh, .int .i64 ex]).at_ 1; have e2 := (Blk.new w7 39 #[.int .u32 ea, .int .i64 en, .int .i64 eh, .int .i64 ex]).at_ 2; clear hb7 hb8) | fail)
              go_big_region_o
              all_goals go_wp2_with fail
              go_ret3
              exact ⟨_, path ++ [(k : Int)], _, _, rfl, G.out.1.out.goes _ _ _ (.stop rfl hk G.out.2.1 G.out.2.2.2.2.1 HH.out), G.out.1.out.way.snoc hk G.out.2.1, G2.out.1.drew, G2.out.2.drew⟩
      · have dk : decide ((fss.length : Int) ≤ (k : Int)) = true := decide_eq_true (by omega)
        have dk2 : decide (fss.length ≤ k) = true := decide_eq_true (by omega)
        have G := Lib.hid (And.intro (R.out.goes _ _ _ (.out (by omega))) (And.intro R.out.way (And.intro R.out.own R.out.below)))
        rw [hLn] at G
        clear R hLn hpl h0
        go_wp2_with fail
        go_ret3
        exact ⟨_, path, _, _, rfl, G.out.1, G.out.2.1, G.out.2.2.1, G.out.2.2.2⟩
end Go.Proofs.Ytdeiolpcppibgaa
