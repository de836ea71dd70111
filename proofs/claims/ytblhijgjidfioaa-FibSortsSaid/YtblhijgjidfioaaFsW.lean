/-
  FibSorts: its walk.
-/
import Derived.Test.YtblhijgjidfioaaFsS
namespace Go.Proofs.Ytblhijgjidfioaa
open Go.RowKit Go.Lib Go.Sort Fm Sb

theorem InE.at_ {w : World} {A : Option Addr} {len cap : Nat} {es : List En} (h : InE w A len cap es) {k : Nat} (hk : k < len) : ∃ b off, A = some ⟨b, off, none⟩ ∧ b < w.heap.size ∧ w.cell? ⟨b, off + k * 4, none⟩ = some (.int .u32 (dK es k).e.a) ∧ w.cell? ⟨b, off + k * 4 + 1, none⟩ = some (.int .i64 (dK es k).e.n) ∧ w.cell? ⟨b, off + k * 4 + 2, none⟩ = some (.int .i64 (dK es k).e.how) ∧ w.cell? ⟨b, off + k * 4 + 3, none⟩ = some (.int .i64 (dK es k).e.nx) := by
  obtain ⟨b, off, rfl⟩ := h.hA (by omega)
  have hk' : k < es.length := by rw [h.hl]; exact hk
  obtain ⟨c0, c1, c2, c3⟩ := Ents.cells (h.hR b off rfl) hk' (a := es[k].a) (n := es[k].n) (how := es[k].how) (nx := es[k].nx) rfl
  rw [dK_at hk']
  exact ⟨b, off, rfl, by have := cell_lt c0; exact this, c0, c1, c2, c3⟩

/-- where the statement stands behind i entries -/
structure FsRel (W2 : World) (A B : Option Addr) (n cap cap2 U : Nat) (es : List En) (ds : List De) (i : Nat) (w : World) : Prop where
  f : InE w A n cap es
  s : InE w B n cap2 (ds.map (·.e))
  u : Blk 4 w U (Ub ds n i)
  b : Below W2.heap.size W2 w
theorem FsRel.held {W2 w w' : World} {A B : Option Addr} {n cap cap2 U : Nat} {es : List En} {ds : List De} {i : Nat} (h : FsRel W2 A B n cap cap2 U es ds i w) (hb : Below w.heap.size w w') : FsRel W2 A B n cap cap2 U es ds i w' :=
  ⟨h.f.held hb, h.s.held hb, h.u.held hb, h.b.trans (hb.mono h.b.size)⟩

theorem FsRel.store {W2 w : World} {A B : Option Addr} {n cap cap2 U : Nat} {es : List En} {ds : List De} {i q : Nat} (h : FsRel W2 A B n cap cap2 U es ds i w) (hU : W2.heap.size = U) (hs : (Ub ds n i).setIfInBounds q (.bool true) = Ub ds n (i + 1)) (hf : ∀ b off, A = some ⟨b, off, none⟩ → 0 < n → b < U) (hg : ∀ b off, B = some ⟨b, off, none⟩ → 0 < n → b < U) :
    FsRel W2 A B n cap cap2 U es ds (i + 1) (w.setCell ⟨U, q, none⟩ (.bool true)) := by
  have ht : Turn [U] w (w.setCell ⟨U, q, none⟩ (.bool true)) := Turn.setCell w (by simp) _
  refine ⟨⟨h.f.hl, h.f.hm, h.f.hc, h.f.hA, h.f.hF, fun b off e => ?_⟩, ⟨h.s.hl, h.s.hm, h.s.hc, h.s.hA, h.s.hF, fun b off e => ?_⟩, by rw [← hs]; exact h.u.store q _, h.b.setCell (by simp [hU]) _⟩
  · intro i' hi'
    exact (h.f.hR b off e).turn ecl_len ht (by have := hf b off e (by have := h.f.hl; omega); simp; omega) i' hi'
  · intro i' hi'
    exact (h.s.hR b off e).turn ecl_len ht (by have := hg b off e (by have := h.s.hl; omega); simp; omega) i' hi'

set_option maxHeartbeats 4000000 in
set_option maxRecDepth 100000 in
theorem fibSorts_walk (A : Option Addr) (len cap : Nat) (es : List En) (x : Nat) (hx : x < 4294967296) (w : World) (hI : InE w A len cap es) (hN : A = none → cap = 0) :
    Calls Try.prog 6 #[.slice A len cap, .int .u32 x] w fun e w' => e = .returned (.bool true) ∧ Below w.heap.size w w' := by
  have mixed := mixed_orders
  go_enter Try.func6, Try.ntmps6
  go_wp2_with fail
  refine (fib_head w).mono ?_
  rintro e w2 ⟨rfl, hb⟩
  have HI := Lib.hid (And.intro (hI.held hb) (And.intro hb hN))
  clear hI hb hN
  by_cases hlt : (60 : Int) < len
  · go_wp2_with fail
    go_ret
    exact ⟨rfl, HI.out.2.1⟩
  · have h60 : len ≤ 60 := by omega
    go_wp2_with fail
    refine (sorted_any HI.out.1 HI.out.2.2 h60).mono ?_
    rintro e w3 ⟨B, cap2, rfl, ds, hS, hIs, hb⟩
    have hdl : ds.length = len := by rw [hS.len, HI.out.1.hl]
    have H3 := Lib.hid (And.intro hS (And.intro hIs (And.intro (HI.out.1.held hb) (And.intro (next HI.out.2.1 hb) hdl))))
    have hmk := run_make_bools len (by omega) w3
    clear hS hIs hb hdl HI
    go_wp2_with fail
    have R0 : FsRel w3 A B len cap cap2 w3.heap.size es ds 0 (w3.alloc (.cells (madeCells #[.bool false] len) 4)) :=
      ⟨H3.out.2.2.1.held (below_new _ _), H3.out.2.1.held (below_new _ _), by rw [← Ub_zero ds len]; exact Blk.new _ _ _, below_new _ _⟩
    generalize w3.alloc (.cells (madeCells #[.bool false] len) 4) = w4 at *
    generalize hU : w3.heap.size = U at *
    have HU := Lib.hid hU
    have HR := Lib.hid R0
    clear hmk R0 hU
    go_loopw [29] (fun i wr => ∃ k : Nat, k ≤ len ∧ i = .int .i64 k ∧ FsRel w3 A B len cap cap2 U es ds k wr) (fun i _ => len - (intOf i).toNat)
    case atStart => exact ⟨0, by omega, rfl, HR.out⟩
    case round =>
      clear HR
      obtain ⟨i, hi, rfl, hR⟩ := hrel
      by_cases hil : i < len
      · obtain ⟨bs, os, rfl, hbs, c0, c1, c2, c3⟩ := hR.s.at_ hil
        have hids : i < ds.length := by rw [H3.out.2.2.2.2]; exact hil
        have hdi : (dK (ds.map (·.e)) i).e = ds[i].e := by rw [dK_at (by simpa using hids)]; simp
        rw [hdi] at c0 c1 c2 c3
        obtain ⟨⟨ea, en, eh, ex⟩, hei⟩ : ∃ e, ds[i].e = e := ⟨_, rfl⟩
        rw [hei] at c0 c1 c2 c3
        have Z0 := Blk.new wr 66 #[.int .u32 ea, .int .i64 en, .int .i64 eh, .int .i64 ex]
        have hR1 := hR.held (below_new wr (.cells #[.int .u32 ea, .int .i64 en, .int .i64 eh, .int .i64 ex] 66))
        have HH := Lib.hid (And.intro hR1 (And.intro Z0 (And.intro hids hei)))
        clear hR hR1 Z0 hei hdi
        go_wp2_with fail
        generalize hE : wr.heap.size = E at *
        have HE := Lib.hid hE
        clear hE
        generalize wr.alloc (.cells #[.int .u32 ea, .int .i64 en, .int .i64 eh, .int .i64 ex] 66) = w5 at *
        clear c0 c1 c2 c3
        go_loopw [9, 36] (fun z j wq => ∃ (zb : Int) (k : Nat), z = .int .i64 zb ∧ k ≤ len ∧ j = .int .i64 k ∧ LeastUp es ds i k zb ∧ Below w5.heap.size w5 wq) (fun _ j _ => len - (intOf j).toNat)
        case atStart => exact ⟨-1, 0, rfl, by omega, rfl, .start es ds i, .refl _ _⟩
        case round =>
          obtain ⟨zb, k, rfl, hk, rfl, hL, hB5⟩ := hrel
          by_cases hkl : k < len
          · have hR5 := HH.out.1.held hB5
            obtain ⟨bf, of, rfl, hbf, c0, c1, c2, c3⟩ := hR5.f.at_ hkl
            obtain ⟨⟨ka, kn, kh, kx⟩, hke⟩ : ∃ e, (dK es k).e = e := ⟨_, rfl⟩
            rw [hke] at c0 c1 c2 c3
            dsimp only at c0 c1 c2 c3
            have Zk := Blk.new wr 66 #[.int .u32 ka, .int .i64 kn, .int .i64 kh, .int .i64 kx]
            have hbk := below_new wr (.cells #[.int .u32 ka, .int .i64 kn, .int .i64 kh, .int .i64 kx] 66)
            have hU1 := (hR5.u.held hbk).at_ k
            rw [Ub_get ds hkl] at hU1
            obtain ⟨ub, hub⟩ : ∃ q, usedB ds i k = q := ⟨_, rfl⟩
            rw [hub] at hU1
            have K := Lib.hid (And.intro hL (And.intro hB5 (And.intro (hR5.held hbk) (And.intro hub (And.intro hke hbk)))))
            clear hL hB5 hR5 hub hke hbk
            go_wp2_with fail
            generalize hX : wr.heap.size = X at *
            have HX := Lib.hid hX
            clear hX c0 c1 c2 c3
            generalize wr.alloc (.cells #[.int .u32 ka, .int .i64 kn, .int .i64 kh, .int .i64 kx] 66) = w6 at *
            have z0 := Zk.at_ 0
            have z1 := Zk.at_ 1
            have kz0 := fun d os => cell_regrown z0 d os
            have kz1 := fun d os => cell_regrown z1 d os
            have kU := fun d os => cell_regrown hU1 d os
            have hX6 : RowKit.Below w5.heap.size w5 w6 := K.out.2.1.trans (K.out.2.2.2.2.2.mono (by have := K.out.2.1.size; have := HX.out; omega))
            have BW : Hid (∀ d os, RowKit.Below w5.heap.size w5 _) := fun d os => hX6.trans ((below_regrown w6 d os).mono hX6.size)
            clear hX6 z0 z1 hU1
            cases ub with
            | true =>
              have L := Lib.hid (K.out.1.skip K.out.2.2.2.1)
              go_wp2_with fail
              refine wp_region_quiet_below (by kernel_rfl) (by kernel_rfl) ?_
              repeat (go_big_quiet_step (fail))
              refine wpQuiet_nil ?_
              intro _ hw'
              obtain ⟨⟨dq, osq⟩, hw''⟩ := hw'
              subst hw''
              clear K kz0 kz1 kU
              go_wp2
              go_roundw
              case rel => exact ⟨zb, k + 1, rfl, by omega, by go_num, L.out, BW.out _ _⟩
              case measure => simp [intOf]; omega
            | false =>
              rcases K.out.1 with ⟨rfl, -⟩ | ⟨b, rfl, hbk2, -, -⟩
              · have L := Lib.hid (K.out.1.first K.out.2.2.2.1)
                go_wp2_with fail
                refine wp_region_quiet_below (by kernel_rfl) (by kernel_rfl) ?_
                repeat (go_big_quiet_step (fail))
                refine wpQuiet_nil ?_
                intro _ hw'
                obtain ⟨⟨dq, osq⟩, hw''⟩ := hw'
                subst hw''
                clear K kz0 kz1 kU
                go_wp2
                go_roundw
                case rel => exact ⟨k, k + 1, rfl, by omega, by go_num, L.out, BW.out _ _⟩
                case measure => simp [intOf]; omega
              · obtain ⟨bf', of', hbe, hbf', d0, d1, -, -⟩ := K.out.2.2.1.f.at_ (k := b) (by omega)
                obtain ⟨rfl, rfl⟩ : bf = bf' ∧ of = of' := by
                  have := Option.some.inj hbe
                  cases this
                  exact ⟨rfl, rfl⟩
                have kd0 := fun d os => cell_regrown d0 d os
                have kd1 := fun d os => cell_regrown d1 d os
                have hlk := less_kl (dK es k) (dK es b)
                rw [K.out.2.2.2.2.1] at hlk
                obtain ⟨⟨ba, bn, bh, bx⟩, hbe2⟩ : ∃ e, (dK es b).e = e := ⟨_, rfl⟩
                rw [hbe2] at kd0 kd1 hlk
                dsimp only at kd0 kd1 hlk
                have hbl : (b : Int) < (len : Int) := by omega
                have hbn : decide ((b : Int) < 0) = false := decide_eq_false (by omega)
                have hbp : (0 : Int) ≤ (b : Int) := by omega
                obtain ⟨r, hr⟩ : ∃ r, decide (Kl (dK es k) (dK es b)) = r := ⟨_, rfl⟩
                rw [hr] at hlk
                have LK := Lib.hid (And.intro hlk hr)
                clear hlk hr hbe hbf' d0 d1
                cases r with
                | true =>
                  have L := Lib.hid (K.out.1.less K.out.2.2.2.1 (of_decide_eq_true LK.out.2))
                  go_wp2_with fail
                  refine wp_region_quiet_below (by kernel_rfl) (by kernel_rfl) ?_
                  repeat (go_big_quiet_step (first | (go_at_call 21; exact Calls.regrown_of (less_eq LK.out.1 _))))
                  refine wpQuiet_nil ?_
                  intro _ hw'
                  obtain ⟨⟨dq, osq⟩, hw''⟩ := hw'
                  subst hw''
                  clear K kz0 kz1 kU kd0 kd1 LK
                  go_wp2
                  go_roundw
                  case rel => exact ⟨k, k + 1, rfl, by omega, by go_num, L.out, BW.out _ _⟩
                  case measure => simp [intOf]; omega
                | false =>
                  have L := Lib.hid (K.out.1.leave (of_decide_eq_false LK.out.2))
                  go_wp2_with fail
                  refine wp_region_quiet_below (by kernel_rfl) (by kernel_rfl) ?_
                  repeat (go_big_quiet_step (first | (go_at_call 21; exact Calls.regrown_of (less_eq LK.out.1 _))))
                  refine wpQuiet_nil ?_
                  intro _ hw'
                  obtain ⟨⟨dq, osq⟩, hw''⟩ := hw'
                  subst hw''
                  clear K kz0 kz1 kU kd0 kd1 LK
                  go_wp2
                  go_roundw
                  case rel => exact ⟨b, k + 1, rfl, by omega, by go_num, L.out, BW.out _ _⟩
                  case measure => simp [intOf]; omega
          · obtain rfl : k = len := by omega
            have hR5 := HH.out.1.held hB5
            have hfl : es.length = k := hR5.f.hl
            obtain ⟨rfl, hq, hqu, hqe⟩ := LeastUp.done H3.out.1 hids (by rw [hfl]; exact hL)
            obtain ⟨q, hqq⟩ : ∃ q, ds[i].i = q := ⟨_, rfl⟩
            rw [hqq] at hqu hqe hq ⊢
            rw [hfl] at hq
            obtain ⟨bf, of, rfl, hbf, c0, c1, c2, c3⟩ := hR5.f.at_ hq
            have hdq : (dK es q).e = ⟨ea, en, eh, ex⟩ := by rw [← HH.out.2.2.2, ← hqe]; rfl
            rw [hdq] at c0 c1 c2 c3
            dsimp only at c0 c1 c2 c3
            have Ze := HH.out.2.1.held hB5
            have z0 := Ze.at_ 0
            have z1 := Ze.at_ 1
            have z2 := Ze.at_ 2
            have z3 := Ze.at_ 3
            have k0 := fun d os => cell_regrown c0 d os
            have k1 := fun d os => cell_regrown c1 d os
            have k2 := fun d os => cell_regrown c2 d os
            have k3 := fun d os => cell_regrown c3 d os
            have y0 := fun d os => cell_regrown z0 d os
            have y1 := fun d os => cell_regrown z1 d os
            have y2 := fun d os => cell_regrown z2 d os
            have y3 := fun d os => cell_regrown z3 d os
            have hql : (q : Int) < (k : Int) := by omega
            have hqp : (0 : Int) ≤ (q : Int) := by omega
            have hset := Ub_set (n := k) hids (by rw [hqq]; exact hq)
            rw [hqq] at hset
            have HL : Hid (bf < U ∧ bs < U) := by
              obtain ⟨b1, o1, e1, l1, -⟩ := H3.out.2.2.1.at_ hq
              obtain ⟨b2, o2, e2, l2, -⟩ := H3.out.2.1.at_ hil
              cases e1
              cases e2
              have := HU.out
              exact ⟨by omega, by omega⟩
            have HH2 := Lib.hid (And.intro hR5 (And.intro hqu hset))
            clear hL hB5 hR5 hqu hqe hdq c0 c1 c2 c3 z0 z1 z2 z3 Ze hset hfl
            by_cases hi0 : 0 < i
            · obtain ⟨p, hp⟩ : ∃ p : Nat, p = i - 1 := ⟨_, rfl⟩
              have e5 : (i : Int) - 1 = (p : Int) := by omega
              have r5 : IntKind.i64.wrap ((i : Int) - 1) = (p : Int) := by rw [IntKind.wrap_i64]; omega
              have hpl : (p : Int) < (k : Int) := by omega
              have hi1 : decide ((0 : Int) < (i : Int)) = true := decide_eq_true (by omega)
              have hi2 : (0 : Int) < (i : Int) := by omega
              obtain ⟨bs', of', hbe, hbs', d0, d1, -, -⟩ := HH2.out.1.s.at_ (k := p) (by omega)
              obtain ⟨rfl, rfl⟩ : bs = bs' ∧ os = of' := by
                have := Option.some.inj hbe
                cases this
                exact ⟨rfl, rfl⟩
              have hpd : p < ds.length := by omega
              have hdp : (dK (ds.map (·.e)) p).e = ds[p].e := by rw [dK_at (by simpa using hpd)]; simp
              rw [hdp] at d0 d1
              have hlk := less_kl ds[i] ds[p]
              have hno : ¬ Kl ds[i] ds[p] := lx_not_kl (H3.out.1.srt p i (by omega) hids)
              rw [decide_eq_false hno, HH.out.2.2.2] at hlk
              obtain ⟨⟨pa, pn, ph, px⟩, hpe⟩ : ∃ e, ds[p].e = e := ⟨_, rfl⟩
              rw [hpe] at d0 d1 hlk
              dsimp only at d0 d1 hlk
              have kd0 := fun d os => cell_regrown d0 d os
              have kd1 := fun d os => cell_regrown d1 d os
              have LK := Lib.hid hlk
              clear hlk hno hpe hdp hbe d0 d1 hp
              go_wp2_with fail
              refine wp_region_quiet_below (by kernel_rfl) (by kernel_rfl) ?_
              repeat (go_big_quiet_step (first | (go_at_call 21; exact Calls.regrown_of (less_eq LK.out _))))
              refine wpQuiet_nil ?_
              intro _ hw'
              obtain ⟨⟨dq, osq⟩, hw''⟩ := hw'
              subst hw''
              have HF := Lib.hid (HH2.out.1.held (below_regrown wr dq osq))
              generalize grow (redrawn wr dq) osq = w8 at *
              have u0 := (HF.out.u.at_ q).trans (by rw [Ub_get ds hq, HH2.out.2.1])
              have f0 := HF.out.u.free q
              clear kd0 kd1 k0 k1 k2 k3 y0 y1 y2 y3
              go_wp2_with fail
              go_roundw
              case rel =>
                exact ⟨i + 1, by omega, by go_num, HF.out.store HU.out HH2.out.2.2 (fun b off e _ => by cases e; exact HL.out.1) (fun b off e _ => by cases e; exact HL.out.2)⟩
              case measure => simp [intOf]; omega
            · have hi1 : decide ((0 : Int) < (i : Int)) = false := decide_eq_false (by omega)
              have hi2 : ¬ ((0 : Int) < (i : Int)) := by omega
              go_wp2_with fail
              refine wp_region_quiet_below (by kernel_rfl) (by kernel_rfl) ?_
              repeat (go_big_quiet_step (fail))
              refine wpQuiet_nil ?_
              intro _ hw'
              obtain ⟨⟨dq, osq⟩, hw''⟩ := hw'
              subst hw''
              have HF := Lib.hid (HH2.out.1.held (below_regrown wr dq osq))
              generalize grow (redrawn wr dq) osq = w8 at *
              have u0 := (HF.out.u.at_ q).trans (by rw [Ub_get ds hq, HH2.out.2.1])
              have f0 := HF.out.u.free q
              clear k0 k1 k2 k3 y0 y1 y2 y3
              go_wp2_with fail
              go_roundw
              case rel =>
                exact ⟨i + 1, by omega, by go_num, HF.out.store HU.out HH2.out.2.2 (fun b off e _ => by cases e; exact HL.out.1) (fun b off e _ => by cases e; exact HL.out.2)⟩
              case measure => simp [intOf]; omega
      · obtain rfl : i = len := by omega
        obtain ⟨⟨ra, rn, rh, rx⟩, hr⟩ : ∃ r, lookB x es = r := ⟨_, rfl⟩
        have hr2 := (look_sorted H3.out.1 x).trans hr
        have HR := Lib.hid (And.intro hR (And.intro hr hr2))
        clear hR hr hr2
        go_wp2_with fail
        refine (HR.out.1.s.lookup hx HR.out.2.2).mono ?_
        rintro e w7 ⟨rfl, hb⟩
        have HR2 := Lib.hid (And.intro (HR.out.1.held hb) HR.out.2.1)
        clear hb HR
        go_wp2_with fail
        refine (HR2.out.1.f.refLookup hx HR2.out.2).mono ?_
        rintro e w8 ⟨rfl, hb⟩
        have HR3 := Lib.hid (H3.out.2.2.2.1.trans ((HR2.out.1.held hb).b.mono H3.out.2.2.2.1.size))
        clear hb HR2
        go_wp2_with fail
        go_ret
        exact ⟨by simp, HR3.out⟩
end Go.Proofs.Ytblhijgjidfioaa
