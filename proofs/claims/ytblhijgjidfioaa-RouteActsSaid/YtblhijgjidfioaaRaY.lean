/-
  RouteActs: what follows the switch.
-/
import Derived.Test.YtblhijgjidfioaaRaV
import Derived.Lib.QuietBelow
import Derived.Deep.CutRange
namespace Go.Proofs.Ytblhijgjidfioaa
open Go.RowKit Go.Maps
attribute [local go_sem] Oper.semAt_some

/-- the statement's answer and the package's -/
theorem pick_both (f : Ways) (cs : List Int) (most a : Nat) (len : Int) : (∃ (b : Nat) (r : Rt), bestI f cs most a len 9 = b ∧ b < 9 ∧ pickR f cs most a len = some r ∧ f ⟨a, len, b⟩ = some r) ∨ (bestI f cs most a len 9 = -1 ∧ pickR f cs most a len = none) := by
  have h := (bst_pick f cs most a len 9).1
  unfold pickR
  rw [← h]
  unfold bestI
  cases hb : bst f cs most a len 9 with
  | none => exact .inr ⟨rfl, rfl⟩
  | some q =>
    obtain ⟨b, x⟩ := q
    obtain ⟨h1, h2⟩ := bst_reach f cs most a len 9 hb
    exact .inl ⟨b, x.1, rfl, h1, rfl, reach_way h2⟩

set_option maxHeartbeats 10000000 in
set_option maxRecDepth 1000000 in
theorem rest_main {b off len cap lc cc most : Nat} {A2 : Option Addr} {xs : List Ac} {cs : List Int} {w wz : World} {t m cb k : Nat} {f : Ways} {u3 u4 u5 u6 u10 u11 u12 u13 u14 u15 u16 u17 u18 u19 u20 u21 u22 u23 u24 u25 u26 u27 u28 u29 u30 u31 u32 u33 u34 u35 u36 u37 u38 u39 u40 u41 u42 u43 u44 u45 u46 u47 u48 u49 u50 u51 u52 u53 u54 u55 u56 u57 u58 u59 u60 u61 u62 u63 u64 u65 u66 u67 u68 u69 u70 u71 u72 u73 u74 u75 u76 u77 u78 u79 u80 u81 u82 u83 u84 u85 u86 u87 u88 u89 u90 u91 u92 u93 u94 u95 u96 u97 u98 u99 u100 u101 u102 u103 u104 u105 u106 u107 u108 u109 u110 u111 u112 u113 u114 u115 u116 u117 u118 u119 u120 u121 u122 u123 u124 u125 u126 u127 u128 u129 u130 u131 u132 u133 u134 u135 u136 u137 u138 u139 u140 u141 u142 u143 u144 u145 u146 u147 u148 u149 u150 u151 u152 u153 u154 u155 u156 u157 u158 u159 u160 u161 u162 u163 u164 u165 u166 u167 u168 u169 u170 u171 u172 u173 u174 u175 u176 u177 u178 u179 u180 u181 u182 u183 u184 u185 u186 u187 u188 u189 u190 u191 u192 u193 u194 u195 u196 u197 u198 u199 u200 u201 u202 u203 u204 u205 u206 u207 u208 u209 u210 u211 u212 u213 u214 u215 u216 u217 u218 u219 u220 u221 u222 u223 u224 u225 u226 u227 u228 u229 u230 u231 u232 u233 u234 u235 u236 u237 u238 u239 u240 u241 u242 u243 u244 u245 u246 u247 u248 u249 u250 u251 u252 : Value}
    (H : Hid (InA w (some ⟨b, off, none⟩) len cap xs ∧ InI w A2 lc cc cs)) (hlen : len ≤ 60) (hk : k ≤ 1000) (hR : Rs w wz t m xs k f) (hC : Blk 30 wz cb #[.slice A2 lc cc, .int .u32 most])
    {Kend : Act → World → Prop} {Qend : Exit → Act → World → Prop} (_hQ : ∀ c (a : Act) (d : Option Tmp) v w, Qend (.panic c) (a.put d v) w → Qend (.panic c) a w)
    (hEnd : ∀ (x6 x22 x24 x25 x26 x27 x28 x29 x30 x31 x32 x33 x34 x150 x151 x152 x153 x154 x155 x156 x157 x158 x159 x160 x161 x162 x163 x164 x165 x166 x167 x168 x169 x170 x171 x172 x173 x174 x175 x176 x177 x178 x179 x180 x181 x182 x183 x184 x185 x186 x187 x188 x189 x190 x191 x192 x193 x194 x195 x196 x197 x198 x199 x200 x201 x202 x203 x204 x205 x206 x207 x208 x209 x210 x211 x212 x213 x214 x215 x216 x217 x218 x219 x220 x221 x222 x223 x224 x225 x226 x227 x228 x229 x230 x231 x232 x233 x234 x235 x236 x237 x238 x239 x240 x241 x242 x243 x244 x245 x246 x247 x248 x249 x250 x251 : Value) (w' : World), Rs w w' t m xs k f ∧ Blk 30 w' cb #[.slice A2 lc cc, .int .u32 most] → Kend { tmps := #[.slice (some ⟨b, off, none⟩) len cap, .slice A2 lc cc, .int .u32 most, u3, u4, u5, x6, .pointer (some ⟨t, 0, none⟩), .map (some m), .pointer (some ⟨cb, 0, none⟩), u10, u11, u12, u13, u14, u15, u16, u17, u18, u19, u20, u21, x22, u23, x24, x25, x26, x27, x28, x29, x30, x31, x32, x33, x34, u35, u36, u37, u38, u39, u40, u41, u42, u43, u44, u45, u46, u47, u48, u49, u50, u51, u52, u53, u54, u55, u56, u57, u58, u59, u60, u61, u62, u63, u64, u65, u66, u67, u68, u69, u70, u71, u72, u73, u74, u75, u76, u77, u78, u79, u80, u81, u82, u83, u84, u85, u86, u87, u88, u89, u90, u91, u92, u93, u94, u95, u96, u97, u98, u99, u100, u101, u102, u103, u104, u105, u106, u107, u108, u109, u110, u111, u112, u113, u114, u115, u116, u117, u118, u119, u120, u121, u122, u123, u124, u125, u126, u127, u128, u129, u130, u131, u132, u133, u134, u135, u136, u137, u138, u139, u140, u141, u142, u143, u144, u145, u146, u147, u148, u149, x150, x151, x152, x153, x154, x155, x156, x157, x158, x159, x160, x161, x162, x163, x164, x165, x166, x167, x168, x169, x170, x171, x172, x173, x174, x175, x176, x177, x178, x179, x180, x181, x182, x183, x184, x185, x186, x187, x188, x189, x190, x191, x192, x193, x194, x195, x196, x197, x198, x199, x200, x201, x202, x203, x204, x205, x206, x207, x208, x209, x210, x211, x212, x213, x214, x215, x216, x217, x218, x219, x220, x221, x222, x223, x224, x225, x226, x227, x228, x229, x230, x231, x232, x233, x234, x235, x236, x237, x238, x239, x240, x241, x242, x243, x244, x245, x246, x247, x248, x249, x250, x251, u252], defers := [] } w') :
    Code.wp Try.prog raRest (Exit.inBlock 1 (Exit.then Kend Qend)) { tmps := #[.slice (some ⟨b, off, none⟩) len cap, .slice A2 lc cc, .int .u32 most, u3, u4, u5, u6, .pointer (some ⟨t, 0, none⟩), .map (some m), .pointer (some ⟨cb, 0, none⟩), u10, u11, u12, u13, u14, u15, u16, u17, u18, u19, u20, u21, u22, u23, u24, u25, u26, u27, u28, u29, u30, u31, u32, u33, u34, u35, u36, u37, u38, u39, u40, u41, u42, u43, u44, u45, u46, u47, u48, u49, u50, u51, u52, u53, u54, u55, u56, u57, u58, u59, u60, u61, u62, u63, u64, u65, u66, u67, u68, u69, u70, u71, u72, u73, u74, u75, u76, u77, u78, u79, u80, u81, u82, u83, u84, u85, u86, u87, u88, u89, u90, u91, u92, u93, u94, u95, u96, u97, u98, u99, u100, u101, u102, u103, u104, u105, u106, u107, u108, u109, u110, u111, u112, u113, u114, u115, u116, u117, u118, u119, u120, u121, u122, u123, u124, u125, u126, u127, u128, u129, u130, u131, u132, u133, u134, u135, u136, u137, u138, u139, u140, u141, u142, u143, u144, u145, u146, u147, u148, u149, u150, u151, u152, u153, u154, u155, u156, u157, u158, u159, u160, u161, u162, u163, u164, u165, u166, u167, u168, u169, u170, u171, u172, u173, u174, u175, u176, u177, u178, u179, u180, u181, u182, u183, u184, u185, u186, u187, u188, u189, u190, u191, u192, u193, u194, u195, u196, u197, u198, u199, u200, u201, u202, u203, u204, u205, u206, u207, u208, u209, u210, u211, u212, u213, u214, u215, u216, u217, u218, u219, u220, u221, u222, u223, u224, u225, u226, u227, u228, u229, u230, u231, u232, u233, u234, u235, u236, u237, u238, u239, u240, u241, u242, u243, u244, u245, u246, u247, u248, u249, u250, u251, u252], defers := [] } wz := by
  have hmm := @run_makeMap Try.prog
  have mixed := mixed_orders2
  conv => arg 2; whnf
  obtain ⟨o, n, hT, hn, ho, hom⟩ := hR.hf.tb
  obtain ⟨nm, hM⟩ := hR.hf.mp
  obtain rfl : n = nm := same_len hT hM
  have hL := hM.len (t := 28) (e := 37) (by kernel_rfl) 3
  have hLen := rt_len hT
  have Z := Lib.hid (And.intro hR hC)
  have cbl := hC.lt
  clear hR hC hT hM ho hom
  go_wp2_with fail
  refine hLen.mono ?_
  rintro e w1 ⟨rfl, rfl⟩
  have hb2 := next (below_new wz (.map #[] 0)) (below_new _ (.cells #[.map (some wz.heap.size)] 48))
  have S0 : Sw wz ((wz.alloc (.map #[] 0)).alloc (.cells #[.map (some wz.heap.size)] 48)) wz.heap.size (wz.heap.size + 1) f xs 0 0 := by
    have SB := Blk.new (wz.alloc (.map #[] 0)) 48 #[.map (some wz.heap.size)]
    rw [size_new] at SB
    exact ⟨hb2, by rw [seenF_zero]; exact (Mk.new pkE wz).held (below_new _ _), SB, Nat.le_refl _, Nat.le_refl _⟩
  have SS := Lib.hid S0
  clear S0 hb2 hLen
  go_wp2_with fail
  clear hL
  generalize (wz.alloc (.map #[] 0)).alloc (.cells #[.map (some wz.heap.size)] 48) = w2 at *
  generalize wz.heap.size = sb at *
  go_loopw [158] (fun i wr => ∃ j ns : Nat, i = .int .i64 j ∧ j ≤ len ∧ Hid (Sw wz wr sb (sb + 1) f xs j ns)) (fun i _ => len - (intOf i).toNat)
  case atStart => exact ⟨0, 0, rfl, Nat.zero_le _, SS⟩
  case round =>
    clear SS
    obtain ⟨j, ns, rfl, hj, S⟩ := hrel
    by_cases hjl : j < len
    · have hjz : (j : Int) < (len : Int) := by omega
      have hjp : j < xs.length := by rw [H.out.1.hl]; exact hjl
      have hc := ((H.out.1.held (Z.out.1.hf.below)).held S.out.b).hR b off rfl j hjp
      have hfit := H.out.1.hF _ (List.getElem_mem hjp)
      have hput := @Sw.put wz wr sb (sb + 1) f xs j ns
      have hskip := @Sw.skip wz wr sb (sb + 1) f xs j ns
      have R := Z.out.1.held S.out.b
      have C := Z.out.2.held S.out.b
      have hka : akey xs[j] = ⟨xs[j].p.a, xs[j].p.n, xs[j].r.fr⟩ := rfl
      obtain ⟨ok, hok⟩ : ∃ ok, (f (akey xs[j])).isSome = ok := ⟨_, rfl⟩
      obtain ⟨⟨f1, i1, s1, m1, e1⟩, hr⟩ : ∃ r, (f (akey xs[j])).getD Rt.zero = r := ⟨_, rfl⟩
      have SX := Lib.hid (And.intro hok hjp)
      have SW := S.out
      rw [hka] at hok hr
      have hkey := akey_ok hfit
      rw [hka] at hkey
      obtain ⟨x, hx⟩ : ∃ x, xs[j] = x := ⟨_, rfl⟩
      have HX := Lib.hid hx
      rw [hx] at hc hfit hok hr hkey
      clear hx hka hput hskip S
      obtain ⟨kind, ⟨pa, pn⟩, ⟨fr, id, seq, met, exp⟩, now⟩ := x
      dsimp only at hok hr hkey
      have c0 := hc 0 (by omega)
      have c1 := hc 1 (by omega)
      have c2 := hc 2 (by omega)
      have c3 := hc 3 (by omega)
      have c4 := hc 4 (by omega)
      have c5 := hc 5 (by omega)
      have c6 := hc 6 (by omega)
      have c7 := hc 7 (by omega)
      have c8 := hc 8 (by omega)
      simp only [acl, Nat.add_zero] at c0 c1 c2 c3 c4 c5 c6 c7 c8
      have hp := hfit.p
      have hne : (ok != ok) = false := by simp
      have K := Lib.hid (And.intro hok (And.intro hr (And.intro hkey hp)))
      clear hc hfit hok hr hkey hp
      go_upto_region 43 with fail
      have hbn := below_new wr (.cells #[.int .i64 kind, .int .u32 pa, .int .i64 pn, .int .i64 fr, .int .u32 id, .int .u32 seq, .int .u16 met, .int .i64 exp, .int .i64 now] 39)
      have AB := Blk.new wr 39 #[.int .i64 kind, .int .u32 pa, .int .i64 pn, .int .i64 fr, .int .u32 id, .int .u32 seq, .int .u16 met, .int .i64 exp, .int .i64 now]
      have Y := Lib.hid (And.intro (R.held hbn) (And.intro (C.held hbn) (And.intro (SW.held hbn) AB)))
      clear R C SW hbn AB c0 c1 c2 c3 c4 c5 c6 c7 c8
      generalize wr.alloc (.cells #[.int .i64 kind, .int .u32 pa, .int .i64 pn, .int .i64 fr, .int .u32 id, .int .u32 seq, .int .u16 met, .int .i64 exp, .int .i64 now] 39) = w3 at *
      generalize wr.heap.size = ab at *
      obtain ⟨o3, n3, hT3, -⟩ := Y.out.1.hf.tb
      have a1 := Y.out.2.2.2.at_ 1
      have a2 := Y.out.2.2.2.at_ 2
      have a3 := Y.out.2.2.2.at_ 3
      have hGet := rt_get hT3 pa pn fr K.out.2.2.1 K.out.2.1 K.out.1
      clear hT3
      go_wp2_with fail
      refine hGet.mono ?_
      rintro e w4 ⟨rfl, hb4⟩
      dsimp only [rV]
      have hbn := next hb4 (below_new w4 (.cells #[.int .i64 f1, .int .u32 i1, .int .u32 s1, .int .u16 m1, .int .i64 e1] 37))
      have GB := Blk.new w4 37 #[.int .i64 f1, .int .u32 i1, .int .u32 s1, .int .u16 m1, .int .i64 e1]
      have Y5 := Lib.hid (And.intro (Y.out.1.held hbn) (And.intro (Y.out.2.1.held hbn) (And.intro (Y.out.2.2.1.held hbn) (And.intro (Y.out.2.2.2.held hbn) GB))))
      clear hGet a1 a2 a3 Y hb4 hbn GB
      go_upto_region 44 with fail
      generalize w4.alloc (.cells #[.int .i64 f1, .int .u32 i1, .int .u32 s1, .int .u16 m1, .int .i64 e1] 37) = w5 at *
      generalize w4.heap.size = gb at *
      have hlook : (Instr.lookup 28 (.map (some m)) (.agg #[.int .u32 pa, .int .i64 pn, .int .i64 fr]) true).run Try.prog w5 = .ok (.tuple #[.agg #[.int .i64 f1, .int .u32 i1, .int .u32 s1, .int .u16 m1, .int .i64 e1], .bool ok]) w5 := by
        obtain ⟨r', ok', h1, h2, h3⟩ := Y5.out.1.hf.look K.out.2.2.1
        rw [K.out.1] at h1
        rw [K.out.2.1] at h2
        subst h1 h2
        exact h3
      have a1 := Y5.out.2.2.2.1.at_ 1
      have a2 := Y5.out.2.2.2.1.at_ 2
      have a3 := Y5.out.2.2.2.1.at_ 3
      have hbn := below_new w5 (.cells #[.int .i64 f1, .int .u32 i1, .int .u32 s1, .int .u16 m1, .int .i64 e1] 37)
      have MB := Blk.new w5 37 #[.int .i64 f1, .int .u32 i1, .int .u32 s1, .int .u16 m1, .int .i64 e1]
      have Y6 := Lib.hid (And.intro (Y5.out.1.held hbn) (And.intro (Y5.out.2.1.held hbn) (And.intro (Y5.out.2.2.1.held hbn) (And.intro (Y5.out.2.2.2.1.held hbn) (And.intro (Y5.out.2.2.2.2.held hbn) MB)))))
      clear hbn MB Y5
      go_upto_region 45 with fail
      clear hlook a1 a2 a3
      generalize w5.alloc (.cells #[.int .i64 f1, .int .u32 i1, .int .u32 s1, .int .u16 m1, .int .i64 e1] 37) = w6 at *
      generalize w5.heap.size = mb at *
      have g0 := Y6.out.2.2.2.2.1.at_ 0
      have g1 := Y6.out.2.2.2.2.1.at_ 1
      have g2 := Y6.out.2.2.2.2.1.at_ 2
      have g3 := Y6.out.2.2.2.2.1.at_ 3
      have g4 := Y6.out.2.2.2.2.1.at_ 4
      have m0 := Y6.out.2.2.2.2.2.at_ 0
      have m1 := Y6.out.2.2.2.2.2.at_ 1
      have m2 := Y6.out.2.2.2.2.2.at_ 2
      have m3 := Y6.out.2.2.2.2.2.at_ 3
      have m4 := Y6.out.2.2.2.2.2.at_ 4
      go_upto_region 47 with fail
      clear g0 g1 g2 g3 g4 m0 m1 m2 m3 m4
      have Y7 := Lib.hid (And.intro Y6.out.1 (And.intro Y6.out.2.1 (And.intro Y6.out.2.2.1 Y6.out.2.2.2.1)))
      clear Y6
      go_upto_if 191 with fail
      go_cut [] from 192 to 238 (fun u => ∃ ns', Rs w u t m xs k f ∧ Blk 30 u cb #[.slice A2 lc cc, .int .u32 most] ∧ Sw wz u sb (sb + 1) f xs (j + 1) ns' ∧ Blk 39 u ab #[.int .i64 kind, .int .u32 pa, .int .i64 pn, .int .i64 fr, .int .u32 id, .int .u32 seq, .int .u16 met, .int .i64 exp, .int .i64 now])
      case first =>
        cases ok with
        | false =>
          have hs := Y7.out.2.2.1.skip hjp SX.out.1
          have Y8 := Lib.hid (And.intro Y7.out.1 (And.intro Y7.out.2.1 (And.intro hs Y7.out.2.2.2)))
          clear hs Y7
          go_wp2_with fail
          go_meet
          case rel => exact ⟨_, Y8.out⟩
        | true =>
          obtain ⟨W, ns', hrun, hS, hK⟩ := Y7.out.2.2.1.put hjp SX.out.1 (by rw [HX.out]; exact K.out.2.2.2) (by omega)
          rw [HX.out] at hrun
          dsimp only at hrun
          have a1 := Y7.out.2.2.2.at_ 1
          have a2 := Y7.out.2.2.2.at_ 2
          have s0 := Y7.out.2.2.1.s.at_ 0
          have hRW : Rs w W t m xs k f := Z.out.1.held hS.b
          have Y8 := Lib.hid (And.intro hRW (And.intro (hK _ _ _ (by decide) Y7.out.2.1) (And.intro hS (hK _ _ _ (by decide) Y7.out.2.2.2))))
          clear hRW hS hK Y7
          go_wp2_with fail
          go_meet
          case rel => exact ⟨_, Y8.out⟩
      case rest =>
        clear hne Y7 hjp SX HX
        obtain ⟨ns', Y⟩ := hcut
        have R := Lib.hid Y
        clear Y
        obtain ⟨o9, n9, hT9, -⟩ := R.out.1.hf.tb
        obtain ⟨nm9, hM9⟩ := R.out.1.hf.mp
        have hcs := H.out.2.held (R.out.1.hf.below)
        have a1 := R.out.2.2.2.at_ 1
        have a2 := R.out.2.2.2.at_ 2
        have hRef := refPick_any hM9 hcs R.out.1.fits most pa pn K.out.2.2.2
        generalize hbI : bestI f cs most pa pn 9 = bI at *
        clear hM9
        go_wp2_with fail
        refine hRef.mono ?_
        rintro e w10 ⟨rfl, hb10⟩
        obtain ⟨⟨f2, i2, s2, m2, e2⟩, hr2⟩ : ∃ r, (pickR f cs most pa pn).getD Rt.zero = r := ⟨_, rfl⟩
        obtain ⟨ok2, hok2⟩ : ∃ ok, (pickR f cs most pa pn).isSome = ok := ⟨_, rfl⟩
        have hPick := fun w' (hb : Below wc.heap.size wc w') => pick_any (Asks.mk (hT9.held hb) (hcs.held hb) R.out.1.fits) most pa pn K.out.2.2.2.1 K.out.2.2.2.2 hr2 hok2
        have hP10 := hPick w10 hb10
        have hb10' := hb10
        replace R := Lib.hid (And.intro (R.out.1.held hb10) (And.intro (R.out.2.1.held hb10) (And.intro (R.out.2.2.1.held hb10) (R.out.2.2.2.held hb10))))
        clear hRef a1 a2 hPick hb10 hb10' hT9 hcs
        have a1 := R.out.2.2.2.at_ 1
        have a2 := R.out.2.2.2.at_ 2
        have c0 := R.out.2.1.at_ 0
        have c1 := R.out.2.1.at_ 1
        dsimp only [cosV, rV] at hP10
        have B := Lib.hid (And.intro hr2 (And.intro hok2 hbI))
        clear hr2 hok2 hbI
        go_wp2_with fail
        refine hP10.mono ?_
        rintro e w11 ⟨rfl, hb11⟩
        have hbn := next hb11 (below_new w11 (.cells #[.int .i64 f2, .int .u32 i2, .int .u32 s2, .int .u16 m2, .int .i64 e2] 37))
        have PB := Blk.new w11 37 #[.int .i64 f2, .int .u32 i2, .int .u32 s2, .int .u16 m2, .int .i64 e2]
        replace R := Lib.hid (And.intro (R.out.1.held hbn) (And.intro (R.out.2.1.held hbn) (And.intro (R.out.2.2.1.held hbn) (And.intro (R.out.2.2.2.held hbn) PB))))
        clear hP10 hb11 hbn PB a1 a2 c0 c1
        go_upto_region 51 with fail
        generalize w11.alloc (.cells #[.int .i64 f2, .int .u32 i2, .int .u32 s2, .int .u16 m2, .int .i64 e2] 37) = w12 at *
        generalize w11.heap.size = pb at *
        have p0 := fun d os => cell_regrown (R.out.2.2.2.2.at_ 0) d os
        have p1 := fun d os => cell_regrown (R.out.2.2.2.2.at_ 1) d os
        have p2 := fun d os => cell_regrown (R.out.2.2.2.2.at_ 2) d os
        have p3 := fun d os => cell_regrown (R.out.2.2.2.2.at_ 3) d os
        have p4 := fun d os => cell_regrown (R.out.2.2.2.2.at_ 4) d os
        rcases pick_both f cs most pa pn with ⟨bn, r, hb1, hb9, hpk, hfb⟩ | ⟨hb1, hpk⟩
        · have h1 := B.out.1
          have h2 := B.out.2.1
          have h3 := B.out.2.2
          rw [hpk] at h1 h2
          rw [hb1] at h3
          replace h2 : true = ok2 := h2
          subst h2 h3
          have h1' : r = ⟨f2, i2, s2, m2, e2⟩ := h1
          subst h1'
          have hlook : ∀ w', Below w12.heap.size w12 w' → (Instr.lookup 28 (.map (some m)) (.agg #[.int .u32 pa, .int .i64 pn, .int .i64 (bn : Int)]) false).run Try.prog w' = .ok (.agg #[.int .i64 f2, .int .u32 i2, .int .u32 s2, .int .u16 m2, .int .i64 e2]) w' := fun w' hb => by
            obtain ⟨nm, hM⟩ := (R.out.1.held hb).hf.mp
            have h2 := hM.look (t := 28) (e := 37) (by kernel_rfl) (z := rV Rt.zero) (zero_route _) (i := ⟨pa, pn, bn⟩) ⟨K.out.2.2.2.1, K.out.2.2.2.2, by show -9223372036854775808 ≤ (bn : Int); omega, by show (bn : Int) ≤ 9223372036854775807; omega⟩
            rw [show (vals f ⟨pa, pn, (bn : Int)⟩) = some (rV ⟨f2, i2, s2, m2, e2⟩) by unfold vals; rw [hfb]; rfl] at h2
            exact h2
          have q1 := fun d os => hlook _ (below_regrown w12 d os)
          have a1 := fun d os => cell_regrown (R.out.2.2.2.1.at_ 1) d os
          have a2 := fun d os => cell_regrown (R.out.2.2.2.1.at_ 2) d os
          have d1 : decide ((0 : Int) ≤ (bn : Int)) = true := decide_eq_true (by omega)
          have d2 : (0 : Int) ≤ (bn : Int) := by omega
          clear hlook hb1 hpk hfb h1 B
          refine wp_region_quiet_below (by kernel_rfl) (by kernel_rfl) ?_
          iterate 26 (go_big_quiet_step (fail))
          refine wpQuiet_nil ?_
          intro _ hw'
          obtain ⟨⟨dq, osq⟩, hw''⟩ := hw'
          subst hw''
          have hbz := below_regrown w12 dq osq
          have RR := Lib.hid (R.out.2.2.1.held hbz)
          clear hbz R p0 p1 p2 p3 p4
          go_wp2
          go_roundw
          case rel => exact ⟨j + 1, ns', by go_num, by omega, RR⟩
          case measure => simp [intOf]; omega
        · have h1 := B.out.1
          have h2 := B.out.2.1
          have h3 := B.out.2.2
          rw [hpk] at h1 h2
          rw [hb1] at h3
          replace h2 : false = ok2 := h2
          subst h2 h3
          have h1' : (⟨0, 0, 0, 0, 0⟩ : Rt) = ⟨f2, i2, s2, m2, e2⟩ := h1
          injection h1' with q1 q2 q3 q4 q5
          subst q1 q2 q3 q4 q5
          clear h1 hb1 hpk B
          refine wp_region_quiet_below (by kernel_rfl) (by kernel_rfl) ?_
          iterate 26 (go_big_quiet_step (fail))
          refine wpQuiet_nil ?_
          intro _ hw'
          obtain ⟨⟨dq, osq⟩, hw''⟩ := hw'
          subst hw''
          have hbz := below_regrown w12 dq osq
          have RR := Lib.hid (R.out.2.2.1.held hbz)
          clear hbz R p0 p1 p2 p3 p4
          go_wp2
          go_roundw
          case rel => exact ⟨j + 1, ns', by go_num, by omega, RR⟩
          case measure => simp [intOf]; omega
    · obtain rfl : j = len := by omega
      have SL : Sw wz wr sb (sb + 1) f xs xs.length ns := by rw [H.out.1.hl]; exact S.out
      have hRR := Z.out.1.held SL.b
      have hCC := Z.out.2.held SL.b
      have hb3 := next (next (below_new wr (.cells #[.int .i64 0] 3)) (below_new _ (.cells #[.bool true] 4))) (below_new _ (.cells #[.int .u32 0, .int .i64 0] 32))
      have BN := ((Blk.new wr 3 #[.int .i64 0]).more (.cells #[.bool true] 4)).more (.cells #[.int .u32 0, .int .i64 0] 32)
      have BG := (Blk.new (wr.alloc (.cells #[.int .i64 0] 3)) 4 #[.bool true]).more (.cells #[.int .u32 0, .int .i64 0] 32)
      have BL := Blk.new ((wr.alloc (.cells #[.int .i64 0] 3)).alloc (.cells #[.bool true] 4)) 32 #[.int .u32 0, .int .i64 0]
      rw [size_new] at BG
      rw [size_new, size_new] at BL
      have hnb : wr.heap.size ≤ wr.heap.size := Nat.le_refl _
      have Y := Lib.hid (And.intro hRR (And.intro hCC (And.intro (SL.held hb3) (And.intro BN (And.intro BG (And.intro BL hb3))))))
      clear hRR hCC SL hb3 BN BG BL S hnb
      go_upto_region 57 with fail
      generalize ((wr.alloc (.cells #[.int .i64 0] 3)).alloc (.cells #[.bool true] 4)).alloc (.cells #[.int .u32 0, .int .i64 0] 32) = w6 at *
      obtain ⟨o6, n6, hT6, hn6, -⟩ := (Y.out.1.held Y.out.2.2.2.2.2.2).hf.tb
      have hpf := pfx_any hT6 (by omega)
      clear hT6

      go_wp2_with fail
      refine hpf.mono ?_
      rintro e w7 ⟨B, gx, capx, ps, rfl, hP⟩
      have hok : ∀ p ∈ ps, p.ok ∧ seenF f xs xs.length p = some (.bool true) := fun p hp => by
        obtain ⟨fr, h1, h2⟩ := (hP.mem p).1 hp
        exact ⟨⟨h1.1, h1.2.1⟩, seenF_true ((seenF_all Z.out.1 H.out.1.hF p).2 ⟨fr, h1, h2⟩)⟩
      have hnd : ps.Nodup := hP.asc.imp (fun {a b} h => by rintro rfl; unfold ltP at h; omega)
      have hcard := Mk.card Y.out.2.2.1.m hnd (fun p => by
        rw [hP.mem p]
        constructor
        · rintro ⟨fr, h1, h2⟩
          exact ⟨⟨h1.1, h1.2.1⟩, (seenF_all Z.out.1 H.out.1.hF p).2 ⟨fr, h1, h2⟩⟩
        · rintro ⟨-, h2⟩
          exact (seenF_all Z.out.1 H.out.1.hF p).1 h2)
      obtain rfl : ns = ps.length := hcard.symm
      have lN := Y.out.2.2.2.1.lt
      have lG := Y.out.2.2.2.2.1.lt
      have lL := Y.out.2.2.2.2.2.1.lt
      have ne_of : ∀ {t t' : TypeId} {C C' : Nat} {cs cs' : Array Value}, Blk t w6 C cs → Blk t' w6 C' cs' → t ≠ t' → C ≠ C' := fun h1 h2 ht e => by
        unfold Blk at h1 h2
        rw [e, h2] at h1
        cases h1
        exact ht rfl
      have SW7 := Y.out.2.2.1.held hP.below
      have nN := ne_of Y.out.2.2.1.s Y.out.2.2.2.1 (by decide)
      have nG := ne_of Y.out.2.2.1.s Y.out.2.2.2.2.1 (by decide)
      have nL := ne_of Y.out.2.2.1.s Y.out.2.2.2.2.2.1 (by decide)
      have mN := Y.out.2.2.1.m.map_ne Y.out.2.2.2.1
      have mG := Y.out.2.2.1.m.map_ne Y.out.2.2.2.2.1
      have mL := Y.out.2.2.1.m.map_ne Y.out.2.2.2.2.2.1
      have hB0 := hP.B0
      have hg0 := hP.g0
      have hp3 := pass3 (G := wr.heap.size + 1) (N := wr.heap.size) (La := wr.heap.size + 1 + 1) (xs := ps) (by have := hP.len; omega) SW7.s SW7.m hP.rw (by simp; omega) (by simp; omega) (by simp; omega) (by simp; exact ⟨Ne.symm mG, Ne.symm mN, Ne.symm mL⟩) hok hP.asc ⟨Y.out.2.2.2.2.1.held hP.below, Y.out.2.2.2.1.held hP.below, ⟨⟨0, 0⟩, Y.out.2.2.2.2.2.1.held hP.below, fun h => absurd h (by omega)⟩, Turn.refl _ _⟩
      have S7 := Lib.hid (And.intro SW7 (next Y.out.2.2.2.2.2.2 hP.below))
      have hSn : sb + 1 ∉ [wr.heap.size + 1, wr.heap.size, wr.heap.size + 1 + 1] := by simp; omega
      have hsb : sb ∉ [wr.heap.size + 1, wr.heap.size, wr.heap.size + 1 + 1] := by simp; exact ⟨Ne.symm mG, Ne.symm mN, Ne.symm mL⟩
      have NN := Lib.hid (And.intro hSn hsb)
      clear hpf hok hnd lN lG lL ne_of SW7 nN nG nL mN mG mL hB0 hg0 hP hSn hsb
      go_wp2_with fail
      refine hp3.mono ?_
      rintro e w8 ⟨rfl, J8⟩
      have hbX : Below wr.heap.size wr w8 := S7.out.2.trans (J8.turn.below (fun i hi => by
        simp at hi
        omega) S7.out.2.size)
      have g0 := J8.g.at_ 0
      have n0 := J8.n.at_ 0
      have s0 := (S7.out.1.s.turn J8.turn NN.out.1).at_ 0
      have hL8 := (S7.out.1.m.turn J8.turn NN.out.2).len (t := 48) (e := 4) (by kernel_rfl) 3
      have q8 : ((ps.length : Int) != (ps.length : Int)) = false := by simp
      have F := Lib.hid (And.intro (Y.out.1.held hbX) (Y.out.2.1.held hbX))
      clear hp3 J8 S7 NN hbX Y
      go_wp2_with fail


      exact F.out
end Go.Proofs.Ytblhijgjidfioaa
