/-
  RouteActs: its walk.
-/
import Derived.Test.YtblhijgjidfioaaRaY
namespace Go.Proofs.Ytblhijgjidfioaa
open Go.RowKit Go.Maps
attribute [local go_sem] Oper.semAt_some

set_option maxHeartbeats 10000000 in
set_option maxRecDepth 1000000 in
theorem reActs_walk (A A2 : Option Addr) (len cap lc cc most : Nat) (xs : List Ac) (cs : List Int) (w : World) (h : InA w A len cap xs) (h2 : InI w A2 lc cc cs) :
    Calls Try.prog 3 #[.slice A len cap, .slice A2 lc cc, .int .u32 most] w fun e w' => e = .returned (.bool true) ∧ Below w.heap.size w w' := by
  have hmm := @run_makeMap Try.prog
  have H := Lib.hid (And.intro h h2)
  have mixed := mixed_orders2
  clear h h2
  go_enter Try.func3, Try.ntmps3
  go_wp2_with fail
  refine (rt_head w).mono ?_
  rintro e w1 ⟨rfl, hb1⟩
  by_cases h60 : (60 : Int) < len
  · go_wp2_with fail
    go_ret
    exact ⟨rfl, hb1⟩
  · by_cases h12 : (12 : Int) < lc
    · go_wp2_with fail
      go_ret
      exact ⟨rfl, hb1⟩
    · have hlen : len ≤ 60 := by omega
      have hlc : lc ≤ 12 := by omega
      go_wp2_with fail
      clear h60 h12
      refine (rt_new w1).mono ?_
      rintro e w2 ⟨rfl, hT, rfl⟩
      have hb2 := next hb1 (below_new w1 (.cells #[.map none] 75))
      have hle := hb1.size
      have hs2 := size_new w1 (.cells #[.map none] 75)
      generalize hg : w1.heap.size = t at *
      generalize w1.alloc (.cells #[.map none] 75) = w2 at *
      have B2 := Lib.hid (And.intro hT hb2)
      clear hT hb2 hb1
      have hM3 := Mk.new lkE w2
      rw [hs2] at hM3
      have hb3 := next B2.out.2 (below_new w2 (.map #[] 0))
      have hb4 := next hb3 (below_new _ (.cells #[.slice A2 lc cc, .int .u32 most] 30))
      have CB := Blk.new (w2.alloc (.map #[] 0)) 30 #[.slice A2 lc cc, .int .u32 most]
      have T4 := (B2.out.1.held (below_new w2 (.map #[] 0))).held (below_new _ (.cells #[.slice A2 lc cc, .int .u32 most] 30))
      have M4 := hM3.held (below_new _ (.cells #[.slice A2 lc cc, .int .u32 most] 30))
      rw [size_new, hs2] at CB
      have R0 : Rs w ((w2.alloc (.map #[] 0)).alloc (.cells #[.slice A2 lc cc, .int .u32 most] 30)) t (t + 1) xs 0 (fun _ => none) := ⟨⟨⟨none, 0, T4, Nat.le_refl _, fun b e => (by cases e), fun e => (by cases e)⟩, ⟨0, M4⟩, hle, by omega, hb4⟩, fun z _ h => (by cases h), fun _ _ e => (by cases e)⟩
      have S0 := Lib.hid (And.intro R0 CB)
      clear hM3 hb3 hb4 CB T4 M4 R0 B2
      go_wp2_with fail
      generalize (w2.alloc (.map #[] 0)).alloc (.cells #[.slice A2 lc cc, .int .u32 most] 30) = w4 at *
      clear hs2
      go_loopw [52] (fun i wr => ∃ (k : Nat) (f : Ways), i = .int .i64 k ∧ k ≤ len ∧ Hid (Rs w wr t (t + 1) xs k f ∧ Blk 30 wr (t + 1 + 1) #[.slice A2 lc cc, .int .u32 most])) (fun i _ => len - (intOf i).toNat)
      case atStart => exact ⟨0, _, rfl, Nat.zero_le _, S0⟩
      case round =>
        clear S0
        obtain ⟨k, f, rfl, hk, R⟩ := hrel
        by_cases hkl : k < len
        · have hkz : (k : Int) < (len : Int) := by omega
          obtain ⟨b, off, rfl⟩ := H.out.1.hA (by omega)
          have hkp : k < xs.length := by rw [H.out.1.hl]; exact hkl
          have hc := (H.out.1.held R.out.1.hf.below).hR b off rfl k hkp
          have hfit := H.out.1.hF _ (List.getElem_mem hkp)
          have hmem := List.getElem_mem hkp
          generalize xs[k] = x at *
          obtain ⟨kind, ⟨pa, pn⟩, ⟨fr, id, seq, met, exp⟩, now⟩ := x
          have c0 := hc 0 (by omega)
          have c1 := hc 1 (by omega)
          have c2 := hc 2 (by omega)
          have c3 := hc 3 (by omega)
          have c4 := hc 4 (by omega)
          have c5 := hc 5 (by omega)
          have c6 := hc 6 (by omega)
          have c7 := hc 7 (by omega)
          have c8 := hc 8 (by omega)
          simp only [acl, Nat.add_zero] at c0 c1 c2 c3 c4 c5 c6 c7 c8
          have X := Lib.hid (And.intro hfit hmem)
          clear hc hfit hmem
          go_upto_region 12 with fail
          have hbn := next (below_new wr (.cells #[.int .i64 kind, .int .u32 pa, .int .i64 pn, .int .i64 fr, .int .u32 id, .int .u32 seq, .int .u16 met, .int .i64 exp, .int .i64 now] 39)) (below_new _ (.cells #[.int .u32 pa, .int .i64 pn, .int .i64 fr] 41))
          have AB := (Blk.new wr 39 #[.int .i64 kind, .int .u32 pa, .int .i64 pn, .int .i64 fr, .int .u32 id, .int .u32 seq, .int .u16 met, .int .i64 exp, .int .i64 now]).more (.cells #[.int .u32 pa, .int .i64 pn, .int .i64 fr] 41)
          have KB := Blk.new (wr.alloc (.cells #[.int .i64 kind, .int .u32 pa, .int .i64 pn, .int .i64 fr, .int .u32 id, .int .u32 seq, .int .u16 met, .int .i64 exp, .int .i64 now] 39)) 41 #[.int .u32 pa, .int .i64 pn, .int .i64 fr]
          rw [size_new] at KB
          have R5 := Lib.hid (And.intro (R.out.1.held hbn) (R.out.2.held hbn))
          clear R hbn c0 c1 c2 c3 c4 c5 c6 c7 c8
          generalize (wr.alloc (.cells #[.int .i64 kind, .int .u32 pa, .int .i64 pn, .int .i64 fr, .int .u32 id, .int .u32 seq, .int .u16 met, .int .i64 exp, .int .i64 now] 39)).alloc (.cells #[.int .u32 pa, .int .i64 pn, .int .i64 fr] 41) = w5 at *
          generalize wr.heap.size = ab at *
          obtain ⟨kd, hkd⟩ : ∃ kd, bits .and .i64 kind 7 = kd := ⟨_, rfl⟩
          have a0 := AB.at_ 0
          go_upto_block 2 with fail
          go_cut [13, 14, 16, 18, 19, 20, 21] from 65 (fun _ _ _ _ _ _ _ u => ∃ f' : Ways, Rs w u t (t + 1) xs (k + 1) f' ∧ Blk 30 u (t + 1 + 1) #[.slice A2 lc cc, .int .u32 most])
          case first =>
            by_cases h4 : kd = 4
            · subst h4
              have hkey := akey_ok X.out.1
              have hlook : ∃ (r' : Rt) (ok : Bool), (f (akey ⟨kind, ⟨pa, pn⟩, ⟨fr, id, seq, met, exp⟩, now⟩)).isSome = ok ∧ (Instr.lookup 28 (.map (some (t + 1))) (.agg #[.int .u32 pa, .int .i64 pn, .int .i64 fr]) true).run Try.prog w5 = .ok (.tuple #[.agg #[.int .i64 r'.fr, .int .u32 r'.id, .int .u32 r'.seq, .int .u16 r'.met, .int .i64 r'.exp], .bool ok]) w5 := by
                obtain ⟨nm, hM⟩ := R5.out.1.hf.mp
                have h2 := hM.look_ok (t := 28) (e := 37) (by kernel_rfl) (z := rV Rt.zero) (zero_route w5) (i := akey ⟨kind, ⟨pa, pn⟩, ⟨fr, id, seq, met, exp⟩, now⟩) hkey
                rw [vals_some, show (vals f (akey ⟨kind, ⟨pa, pn⟩, ⟨fr, id, seq, met, exp⟩, now⟩)).getD (rV Rt.zero) = rV ((f (akey ⟨kind, ⟨pa, pn⟩, ⟨fr, id, seq, met, exp⟩, now⟩)).getD Rt.zero) by unfold vals; cases f (akey ⟨kind, ⟨pa, pn⟩, ⟨fr, id, seq, met, exp⟩, now⟩) <;> rfl] at h2
                exact ⟨_, _, rfl, h2⟩
              obtain ⟨⟨f1, i1, s1, m1, e1⟩, ok, hok, hlook⟩ := hlook
              dsimp only at hlook
              have k0 := KB.at_ 0
              have k1 := KB.at_ 1
              have k2 := KB.at_ 2
              have hbn := below_new w5 (.cells #[.int .i64 f1, .int .u32 i1, .int .u32 s1, .int .u16 m1, .int .i64 e1] 37)
              have H6 := R5.out.1.hf.held hbn
              have AB6 := AB.held hbn
              have KB6 := KB.held hbn
              have CB6 := R5.out.2.held hbn
              have a1 := AB6.at_ 1
              have a2 := AB6.at_ 2
              have a3 := AB6.at_ 3
              clear hbn
              go_wp2_with fail
              refine (H6.drop pa pn fr hkey hok).mono ?_
              rintro e w7 ⟨rfl, hH7, hK7⟩
              obtain ⟨w8, hrun, hH8, hK8⟩ := hH7.del hkey
              replace hrun : (Builtin.delete_ #[28, 41] 0 #[.map (some (t + 1)), .agg #[.int .u32 pa, .int .i64 pn, .int .i64 fr]]).run Try.prog w7 = .ok (.tuple #[]) w8 := hrun
              have KB7 := hK7 _ _ _ (by decide) KB6
              have Z := Lib.hid (And.intro (R5.out.1.less hH8 (fun z r e => by
                unfold cutR at e
                split at e
                · cases e
                · exact e)) ((hK7.trans hK8) _ _ _ (by decide) CB6))
              clear a0 a1 a2 a3 k0 k1 k2
              have k0 := KB7.at_ 0
              have k1 := KB7.at_ 1
              have k2 := KB7.at_ 2
              clear hH7 hK7 hH8 hK8 AB6 KB6 KB7 AB KB CB6 H6 hlook hok
              go_wp2_with fail
              go_meet
              case rel => exact ⟨_, Z.out⟩
            · by_cases h5 : kd = 5
              · subst h5
                have hfr := X.out.1.r.f
                dsimp only at hfr
                have HFR := Lib.hid hfr
                clear hfr
                have a3 := AB.at_ 3
                go_wp2_with fail
                refine (R5.out.1.hf.dropAll fr).mono ?_
                rintro e w6 ⟨rfl, hH6, hK6⟩
                have D0 := Lib.hid (And.intro (hH6.congr (fun z _ => congrFun (gone_nil f fun z => decide (z.fr = fr)).symm z)) (And.intro (hK6 _ _ _ (by decide) AB) (hK6 _ _ _ (by decide) R5.out.2)))
                clear hH6 hK6 a3 a0 AB KB
                go_wp2_with fail
                go_loopw [103] (fun i wr2 => ∃ j : Nat, i = .int .i64 j ∧ j ≤ len ∧ Hid (Hf w wr2 t (t + 1) k (lessF f fun z => decide (z.fr = fr)) (gone f (fun z => decide (z.fr = fr)) ((xs.take j).map fun y => ⟨y.p.a, y.p.n, fr⟩)) ∧ Blk 39 wr2 ab #[.int .i64 kind, .int .u32 pa, .int .i64 pn, .int .i64 fr, .int .u32 id, .int .u32 seq, .int .u16 met, .int .i64 exp, .int .i64 now] ∧ Blk 30 wr2 (t + 1 + 1) #[.slice A2 lc cc, .int .u32 most])) (fun i _ => len - (intOf i).toNat)
                case atStart => exact ⟨0, rfl, Nat.zero_le _, D0⟩
                case round =>
                  clear D0
                  obtain ⟨j, rfl, hj, D⟩ := hrel
                  by_cases hjl : j < len
                  · have hjz : (j : Int) < (len : Int) := by omega
                    have hjp : j < xs.length := by rw [H.out.1.hl]; exact hjl
                    have hc := (H.out.1.held D.out.1.below).hR b off rfl j hjp
                    have hyf := H.out.1.hF _ (List.getElem_mem hjp)
                    have htk : xs.take (j + 1) = xs.take j ++ [xs[j]] := by rw [List.take_add_one]; simp [hjp]
                    have TK := Lib.hid htk
                    clear htk
                    generalize xs[j] = y at *
                    obtain ⟨ykind, ⟨ya, yn⟩, ⟨yfr, yid, yseq, ymet, yexp⟩, ynow⟩ := y
                    have c0 := hc 0 (by omega)
                    have c1 := hc 1 (by omega)
                    have c2 := hc 2 (by omega)
                    have c3 := hc 3 (by omega)
                    have c4 := hc 4 (by omega)
                    have c5 := hc 5 (by omega)
                    have c6 := hc 6 (by omega)
                    have c7 := hc 7 (by omega)
                    have c8 := hc 8 (by omega)
                    simp only [acl, Nat.add_zero] at c0 c1 c2 c3 c4 c5 c6 c7 c8
                    clear hc
                    have hky : Rk.ok ⟨ya, yn, fr⟩ := ⟨hyf.p.1, hyf.p.2, HFR.out⟩
                    have hbn := below_new wr (.cells #[.int .i64 ykind, .int .u32 ya, .int .i64 yn, .int .i64 yfr, .int .u32 yid, .int .u32 yseq, .int .u16 ymet, .int .i64 yexp, .int .i64 ynow] 39)
                    have a3 := (D.out.2.1.held hbn).at_ 3
                    obtain ⟨w7, hrun, hH7, hK7⟩ := (D.out.1.held hbn).del hky
                    replace hrun : (Builtin.delete_ #[28, 41] 0 #[.map (some (t + 1)), .agg #[.int .u32 ya, .int .i64 yn, .int .i64 fr]]).run Try.prog _ = .ok (.tuple #[]) w7 := hrun
                    have Z := Lib.hid (And.intro hH7 (And.intro (hK7 _ _ _ (by decide) (D.out.2.1.held hbn)) (hK7 _ _ _ (by decide) (D.out.2.2.held hbn))))
                    clear hH7 hK7 hbn hyf hky D
                    go_wp2_with fail
                    go_roundw
                    case rel => exact ⟨j + 1, by go_num, by omega, by rw [TK.out, List.map_append, List.map_cons, List.map_nil, gone_cut _ _ _ (by simp)]; exact Z.out⟩
                    case measure => simp [intOf]; omega
                  · obtain rfl : j = len := by omega
                    have hall := D.out.1.congr (g' := lessF f fun z => decide (z.fr = fr)) (fun z hz => gone_all (fun z hz hd hs => by
                      obtain ⟨y, hy, rfl⟩ := R5.out.1.keys z hz hs
                      rw [List.take_of_length_le (by have := H.out.1.hl; omega)]
                      refine List.mem_map.2 ⟨y, hy, ?_⟩
                      have := of_decide_eq_true hd
                      unfold akey at this ⊢
                      rw [← this]) hz)
                    have Z := Lib.hid (And.intro (R5.out.1.less hall (fun z r e => by
                      unfold lessF at e
                      split at e
                      · cases e
                      · exact e)) D.out.2.2)
                    clear D hall
                    go_wp2_with fail
                    go_meet
                    case rel => exact ⟨_, Z.out⟩
              · by_cases h6 : kd = 6
                · subst h6
                  have a8 := AB.at_ 8
                  go_wp2_with fail
                  refine (R5.out.1.hf.expire now).mono ?_
                  rintro e w6 ⟨rfl, hH6, hK6⟩
                  have D0 := Lib.hid (And.intro (hH6.congr (fun z _ => congrFun (gone_nil f (deadAt f now)).symm z)) (And.intro (hK6 _ _ _ (by decide) AB) (hK6 _ _ _ (by decide) R5.out.2)))
                  clear hH6 hK6 a8 a0 AB KB
                  go_wp2_with fail
                  go_loopw [123] (fun i wr2 => ∃ j : Nat, i = .int .i64 j ∧ j ≤ len ∧ Hid (Hf w wr2 t (t + 1) k (lessF f (deadAt f now)) (gone f (deadAt f now) ((xs.take j).map akey)) ∧ Blk 39 wr2 ab #[.int .i64 kind, .int .u32 pa, .int .i64 pn, .int .i64 fr, .int .u32 id, .int .u32 seq, .int .u16 met, .int .i64 exp, .int .i64 now] ∧ Blk 30 wr2 (t + 1 + 1) #[.slice A2 lc cc, .int .u32 most])) (fun i _ => len - (intOf i).toNat)
                  case atStart => exact ⟨0, rfl, Nat.zero_le _, D0⟩
                  case round =>
                    clear D0
                    obtain ⟨j, rfl, hj, D⟩ := hrel
                    by_cases hjl : j < len
                    · have hjz : (j : Int) < (len : Int) := by omega
                      have hjp : j < xs.length := by rw [H.out.1.hl]; exact hjl
                      have hc := (H.out.1.held D.out.1.below).hR b off rfl j hjp
                      have hyf := H.out.1.hF _ (List.getElem_mem hjp)
                      have htk : xs.take (j + 1) = xs.take j ++ [xs[j]] := by rw [List.take_add_one]; simp [hjp]
                      have TK := Lib.hid htk
                      clear htk
                      generalize xs[j] = y at *
                      obtain ⟨ykind, ⟨ya, yn⟩, ⟨yfr, yid, yseq, ymet, yexp⟩, ynow⟩ := y
                      have c0 := hc 0 (by omega)
                      have c1 := hc 1 (by omega)
                      have c2 := hc 2 (by omega)
                      have c3 := hc 3 (by omega)
                      have c4 := hc 4 (by omega)
                      have c5 := hc 5 (by omega)
                      have c6 := hc 6 (by omega)
                      have c7 := hc 7 (by omega)
                      have c8 := hc 8 (by omega)
                      simp only [acl, Nat.add_zero] at c0 c1 c2 c3 c4 c5 c6 c7 c8
                      clear hc
                      have hky : Rk.ok ⟨ya, yn, yfr⟩ := ⟨hyf.p.1, hyf.p.2, hyf.r.f⟩
                      have hbn := next (below_new wr (.cells #[.int .i64 ykind, .int .u32 ya, .int .i64 yn, .int .i64 yfr, .int .u32 yid, .int .u32 yseq, .int .u16 ymet, .int .i64 yexp, .int .i64 ynow] 39)) (below_new _ (.cells #[.int .u32 ya, .int .i64 yn, .int .i64 yfr] 41))
                      have KY := Blk.new (wr.alloc (.cells #[.int .i64 ykind, .int .u32 ya, .int .i64 yn, .int .i64 yfr, .int .u32 yid, .int .u32 yseq, .int .u16 ymet, .int .i64 yexp, .int .i64 ynow] 39)) 41 #[.int .u32 ya, .int .i64 yn, .int .i64 yfr]
                      rw [size_new] at KY
                      have D2 := Lib.hid (And.intro (D.out.1.held hbn) (And.intro (D.out.2.1.held hbn) (D.out.2.2.held hbn)))
                      clear D hbn hyf
                      go_upto_region 33 with fail
                      clear c0 c1 c2 c3 c4 c5 c6 c7 c8
                      generalize (wr.alloc (.cells #[.int .i64 ykind, .int .u32 ya, .int .i64 yn, .int .i64 yfr, .int .u32 yid, .int .u32 yseq, .int .u16 ymet, .int .i64 yexp, .int .i64 ynow] 39)).alloc (.cells #[.int .u32 ya, .int .i64 yn, .int .i64 yfr] 41) = w7 at *
                      generalize wr.heap.size = yb at *
                      obtain ⟨⟨f1, i1, s1, m1, e1⟩, ok, hok, hgr, hlook⟩ := D2.out.1.look hky
                      dsimp only at hlook
                      have k0 := KY.at_ 0
                      have k1 := KY.at_ 1
                      have k2 := KY.at_ 2
                      have hbn := below_new w7 (.cells #[.int .i64 f1, .int .u32 i1, .int .u32 s1, .int .u16 m1, .int .i64 e1] 37)
                      have AB8 := D2.out.2.1.held hbn
                      have KY8 := KY.held hbn
                      have a8 := AB8.at_ 8
                      have k3 := KY8.at_ 0
                      have k4 := KY8.at_ 1
                      have k5 := KY8.at_ 2
                      have D8 := Lib.hid (And.intro (D2.out.1.held hbn) (And.intro AB8 (D2.out.2.2.held hbn)))
                      have GK := Lib.hid (And.intro hok hgr)
                      clear hbn AB8 KY8 KY D2 hok hgr
                      cases ok with
                      | false =>
                        have hsame : gone f (deadAt f now) ((xs.take j).map akey ++ [⟨ya, yn, yfr⟩]) = gone f (deadAt f now) ((xs.take j).map akey) := by
                          have hn : gone f (deadAt f now) ((xs.take j).map akey) ⟨ya, yn, yfr⟩ = none := by
                            have := GK.out.1
                            cases hx : gone f (deadAt f now) ((xs.take j).map akey) ⟨ya, yn, yfr⟩ with
                            | none => rfl
                            | some r => rw [hx] at this; cases this
                          cases hd : deadAt f now ⟨ya, yn, yfr⟩ with
                          | true => rw [gone_cut _ _ _ hd, cutR_none hn]
                          | false => exact gone_keep _ _ _ hd
                        have HS2 := Lib.hid hsame
                        clear hsame hky
                        go_wp2_with fail
                        go_roundw
                        case rel => exact ⟨j + 1, by go_num, by omega, by rw [TK.out, List.map_append, List.map_cons, List.map_nil, show akey ⟨ykind, ⟨ya, yn⟩, ⟨yfr, yid, yseq, ymet, yexp⟩, ynow⟩ = ⟨ya, yn, yfr⟩ from rfl, HS2.out]; exact D8.out⟩
                        case measure => simp [intOf]; omega
                      | true =>
                        have hfz : f ⟨ya, yn, yfr⟩ = some ⟨f1, i1, s1, m1, e1⟩ := by
                          have h1 := GK.out.1
                          have h2 := GK.out.2
                          cases hx : gone f (deadAt f now) ((xs.take j).map akey) ⟨ya, yn, yfr⟩ with
                          | none => rw [hx] at h1; cases h1
                          | some r =>
                            rw [hx] at h2
                            have h3 := gone_some hx
                            rw [h3]
                            exact congrArg some h2
                        have hdead : deadAt f now ⟨ya, yn, yfr⟩ = decide (e1 ≤ now) := by unfold deadAt; rw [hfz]
                        clear hfz
                        by_cases hd : e1 ≤ now
                        · obtain ⟨w9, hrun, hH9, hK9⟩ := D8.out.1.del hky
                          replace hrun : (Builtin.delete_ #[28, 41] 0 #[.map (some (t + 1)), .agg #[.int .u32 ya, .int .i64 yn, .int .i64 yfr]]).run Try.prog _ = .ok (.tuple #[]) w9 := hrun
                          have Z := Lib.hid (And.intro hH9 (And.intro (hK9 _ _ _ (by decide) D8.out.2.1) (hK9 _ _ _ (by decide) D8.out.2.2)))
                          have HD := Lib.hid (gone_cut f (deadAt f now) ((xs.take j).map akey) (k := ⟨ya, yn, yfr⟩) (by rw [hdead]; exact decide_eq_true hd))
                          have hd1 : decide (e1 ≤ now) = true := decide_eq_true hd
                          clear hH9 hK9 hky hdead
                          go_wp2_with fail
                          go_roundw
                          case rel => exact ⟨j + 1, by go_num, by omega, by rw [TK.out, List.map_append, List.map_cons, List.map_nil, show akey ⟨ykind, ⟨ya, yn⟩, ⟨yfr, yid, yseq, ymet, yexp⟩, ynow⟩ = ⟨ya, yn, yfr⟩ from rfl, HD.out]; exact Z.out⟩
                          case measure => simp [intOf]; omega
                        · have HD := Lib.hid (gone_keep f (deadAt f now) ((xs.take j).map akey) (k := ⟨ya, yn, yfr⟩) (by rw [hdead]; exact decide_eq_false hd))
                          have hd1 : decide (e1 ≤ now) = false := decide_eq_false hd
                          clear hky hdead
                          go_wp2_with fail
                          go_roundw
                          case rel => exact ⟨j + 1, by go_num, by omega, by rw [TK.out, List.map_append, List.map_cons, List.map_nil, show akey ⟨ykind, ⟨ya, yn⟩, ⟨yfr, yid, yseq, ymet, yexp⟩, ynow⟩ = ⟨ya, yn, yfr⟩ from rfl, HD.out]; exact D8.out⟩
                          case measure => simp [intOf]; omega
                    · obtain rfl : j = len := by omega
                      have hall := D.out.1.congr (g' := lessF f (deadAt f now)) (fun z hz => gone_all (fun z hz hd hs => by
                        obtain ⟨y, hy, rfl⟩ := R5.out.1.keys z hz hs
                        rw [List.take_of_length_le (by have := H.out.1.hl; omega)]
                        exact List.mem_map.2 ⟨y, hy, rfl⟩) hz)
                      have Z := Lib.hid (And.intro (R5.out.1.less hall (fun z r e => by
                        unfold lessF at e
                        split at e
                        · cases e
                        · exact e)) D.out.2.2)
                      clear D hall
                      go_wp2_with fail
                      go_meet
                      case rel => exact ⟨_, Z.out⟩
                · have a1 := AB.at_ 1
                  have a2 := AB.at_ 2
                  have a3 := AB.at_ 3
                  have a4 := AB.at_ 4
                  have a5 := AB.at_ 5
                  have a6 := AB.at_ 6
                  have a7 := AB.at_ 7
                  have hkey := akey_ok X.out.1
                  go_wp2_with fail
                  refine (show Calls _ _ #[_, _, .agg #[.int .i64 fr, .int .u32 id, .int .u32 seq, .int .u16 met, .int .i64 exp]] _ _ from R5.out.1.hf.set (by omega) pa pn ⟨fr, id, seq, met, exp⟩ hkey).mono ?_
                  rintro e w6 ⟨rfl, hH6, hK6⟩
                  have AB6 := hK6 _ _ _ (by decide) AB
                  have KB6 := hK6 _ _ _ (by decide) KB
                  clear a0 a1 a2 a3 a4 a5 a6 a7
                  have a3 := AB6.at_ 3
                  have a4 := AB6.at_ 4
                  have a5 := AB6.at_ 5
                  have a6 := AB6.at_ 6
                  have a7 := AB6.at_ 7
                  have k0 := KB6.at_ 0
                  have k1 := KB6.at_ 1
                  have k2 := KB6.at_ 2
                  obtain ⟨w7, hrun, hH7, hK7⟩ := hH6.put hkey ⟨fr, id, seq, met, exp⟩ (fun nm hM => by have := R5.out.1.small hM; unfold maxLen; omega)
                  replace hrun : (Instr.mapUpdate 28 (.map (some (t + 1))) (.agg #[.int .u32 pa, .int .i64 pn, .int .i64 fr]) (.agg #[.int .i64 fr, .int .u32 id, .int .u32 seq, .int .u16 met, .int .i64 exp])).run Try.prog w6 = .ok () w7 := hrun
                  have Z := Lib.hid (And.intro (R5.out.1.put X.out.2 X.out.1 hH7) ((hK6.trans hK7) _ _ _ (by decide) R5.out.2))
                  clear hH6 hK6 hH7 hK7 AB6 KB6 AB KB
                  go_wp2_with fail
                  go_meet
                  case rel => exact ⟨_, Z.out⟩
          case rest =>
            obtain ⟨f', hR, hC⟩ := hcut
            have hk1 : k + 1 ≤ 1000 := by omega
            clear X R5 AB KB a0 hkd hkp
            apply_assumption
            refine rest_main H hlen hk1 hR hC (fun _ _ dd _ _ h => by cases dd <;> exact h) ?_
            intro x6 x22 x24 x25 x26 x27 x28 x29 x30 x31 x32 x33 x34 x150 x151 x152 x153 x154 x155 x156 x157 x158 x159 x160 x161 x162 x163 x164 x165 x166 x167 x168 x169 x170 x171 x172 x173 x174 x175 x176 x177 x178 x179 x180 x181 x182 x183 x184 x185 x186 x187 x188 x189 x190 x191 x192 x193 x194 x195 x196 x197 x198 x199 x200 x201 x202 x203 x204 x205 x206 x207 x208 x209 x210 x211 x212 x213 x214 x215 x216 x217 x218 x219 x220 x221 x222 x223 x224 x225 x226 x227 x228 x229 x230 x231 x232 x233 x234 x235 x236 x237 x238 x239 x240 x241 x242 x243 x244 x245 x246 x247 x248 x249 x250 x251 w' hE
            have E := Lib.hid hE
            clear hE
            go_wp2_with fail
            go_roundw
            case rel => exact ⟨k + 1, f', by go_num, by omega, E⟩
            case measure => simp [intOf]; omega
        · obtain rfl : k = len := by omega
          go_wp2_with fail
          go_ret
          exact ⟨rfl, R.out.1.hf.below⟩
end Go.Proofs.Ytblhijgjidfioaa
