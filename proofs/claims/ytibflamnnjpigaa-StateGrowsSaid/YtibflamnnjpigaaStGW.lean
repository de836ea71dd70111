/-
  StateGrows: its walk.
-/
import Derived.Test.YtibflamnnjpigaaStG
namespace Go.Proofs.Ytibflamnnjpigaa
open Go.RowKit Rm

theorem fl_vals (F : Option (Nat × Nat)) : ∃ (fs fm : Nat) (ok : Bool), (F.map dV).getD (.agg #[.int .u32 0, .int .u16 0]) = .agg #[.int .u32 fs, .int .u16 fm] ∧ F.isSome = ok ∧ (ok = true → F = some (fs, fm)) := by
  cases F with
  | none => exact ⟨0, 0, false, rfl, rfl, fun h => by cases h⟩
  | some f => exact ⟨f.1, f.2, true, rfl, rfl, fun _ => rfl⟩

set_option maxRecDepth 100000 in
set_option maxHeartbeats 4000000 in
theorem grows_any (a : Option Addr) (len cap : Nat) (rs : List Rc) (hl : rs.length = len) (hm : len ≤ maxLen) (hc : len ≤ cap) (hA : 0 < len → ∃ b off, a = some ⟨b, off, none⟩) (hF : ∀ r ∈ rs, r.Fits) (ka : Nat) (kn : Int) (kid : Nat) (hk : Ky.ok ⟨ka, kn, kid⟩) (s x : Nat) (w : World)
    (hR : ∀ b off, a = some ⟨b, off, none⟩ → Recs w b off rs) :
    Calls Try.prog 6 #[.slice a len cap, .agg #[.int .u32 ka, .int .i64 kn, .int .u32 kid], .agg #[.int .u32 s, .int .u16 x]] w fun e w' => e = .returned (.bool true) ∧ Below w.heap.size w w' := by
  have KB := (Blk.new w 45 #[.int .u32 ka, .int .i64 kn, .int .u32 kid]).more (.cells #[.int .u32 s, .int .u16 x] 35)
  have DB := Blk.new (w.alloc (.cells #[.int .u32 ka, .int .i64 kn, .int .u32 kid] 45)) 35 #[.int .u32 s, .int .u16 x]
  rw [size_new] at DB
  have hb := next (below_new w (.cells #[.int .u32 ka, .int .i64 kn, .int .u32 kid] 45)) (below_new _ (.cells #[.int .u32 s, .int .u16 x] 35))
  go_enter Try.func6, Try.ntmps6
  go_wp2_with fail
  generalize (w.alloc (.cells #[.int .u32 ka, .int .i64 kn, .int .u32 kid] 45)).alloc (.cells #[.int .u32 s, .int .u16 x] 35) = w2 at *
  refine (head_any _).mono ?_
  rintro e w3 ⟨rfl, hb3⟩
  have KB3 := KB.held hb3
  have DB3 := DB.held hb3
  have HB3 := next hb hb3
  clear hb3 hb KB DB
  go_wp2_with fail
  refine (few_any a len cap rs hl hm hc hA hF w3 (fun b off e => (hR b off e).held HB3)).mono ?_
  rintro e w4 ⟨rfl, hb4⟩
  have KB4 := KB3.held hb4
  have DB4 := DB3.held hb4
  have HB4 := next HB3 hb4
  clear hb4 HB3 KB3 DB3
  cases hfew : fewR rs with
  | false =>
    go_wp2_with fail
    go_ret
    exact ⟨rfl, HB4⟩
  | true =>
    have hsixty : len ≤ 60 := by
      unfold fewR at hfew
      simp at hfew
      omega
    clear hfew
    go_wp2_with fail
    refine (new_any 1 w4).mono ?_
    rintro e w5 ⟨rfl, hS, hb5⟩
    have L0 : LS w4 w4.heap.size 1 (appN rs 0) 0 w5 := ⟨none, none, ⟨0, 0, by omega, hS⟩, hb5, (fun y hy => by
      rcases mem_fp.1 hy with rfl | h | h
      · omega
      · cases h
      · cases h)⟩
    clear hS hb5
    have hRw : ∀ b off, a = some ⟨b, off, none⟩ → Recs w4 b off rs := fun b off e => (hR b off e).held HB4
    clear hR
    go_wp2_with fail
    unfold maxLen at hm
    go_loopw [25] (fun i wr => ∃ k : Nat, k ≤ len ∧ i = .int .i64 k ∧ LS w4 w4.heap.size 1 (appN rs k) k wr) (fun i _ => len - (intOf i).toNat)
    case atStart => exact ⟨0, by omega, rfl, L0⟩
    case round =>
      obtain ⟨k, hkl, rfl, hL⟩ := hrel
      by_cases hlt : k < len
      · obtain ⟨b, off, rfl⟩ := hA (by omega)
        have hk' : k < rs.length := by omega
        have hRk := (hRw b off rfl).held hL.below
        have hfit := hF rs[k] (List.getElem_mem hk')
        have hnext := appN_succ rs hk'
        generalize hrk : rs[k] = r at *
        obtain ⟨kd, g, l, i, ra, n, on, rs', rm⟩ := r
        obtain ⟨c0, c1, c2, c3, c4, c5, c6, c7, c8⟩ := hRk.cells hk' hrk
        have hgr := app_floor (appN rs k) ⟨kd, g, l, i, ra, n, on, rs', rm⟩ ⟨ka, kn, kid⟩
        have hle := app_lease (appN rs k) ⟨kd, g, l, i, ra, n, on, rs', rm⟩
        rw [← hnext] at hgr hle
        obtain ⟨fs, fm, had, vF, oF, sF⟩ := fl_vals ((appN rs k).floor ⟨ka, kn, kid⟩)
        obtain ⟨gs, gm, has, vG, oG, sG⟩ := fl_vals ((appN rs (k + 1)).floor ⟨ka, kn, kid⟩)
        have h1 : had = true → has = true ∧ better fs fm gs gm = false := fun h => by
          obtain ⟨g', e1, e2⟩ := some_grow hgr (sF h)
          have hh : has = true := by rw [← oG, e1]; rfl
          have e3 := sG hh
          rw [e1] at e3
          cases e3
          exact ⟨hh, e2⟩
        have h2 := cov_grow hgr s x
        have h3 := fea_grow hgr s x
        have h4 : cov ((appN rs (k + 1)).floor ⟨ka, kn, kid⟩) s x = true → fea ((appN rs (k + 1)).floor ⟨ka, kn, kid⟩) s x = true → (x == 65535) = true := cov_fea
        generalize hc : cov ((appN rs k).floor ⟨ka, kn, kid⟩) s x = c at *
        generalize ha : fea ((appN rs k).floor ⟨ka, kn, kid⟩) s x = ma at *
        generalize hc2 : cov ((appN rs (k + 1)).floor ⟨ka, kn, kid⟩) s x = cc at *
        generalize hq : (appN rs k).lease = q at *
        generalize hq2 : (appN rs (k + 1)).lease = q2 at *
        generalize ha2 : fea ((appN rs (k + 1)).floor ⟨ka, kn, kid⟩) s x = aa at *
        have HH := Lib.hid (And.intro hL (And.intro hfit hnext))
        have V1 := Lib.hid (And.intro vF (And.intro oF (And.intro hc (And.intro ha hq))))
        have V2 := Lib.hid (And.intro vG (And.intro oG (And.intro hc2 (And.intro ha2 hq2))))
        have HB := Lib.hid (And.intro h1 (And.intro h2 (And.intro h3 (And.intro h4 hle))))
        have KB0 := KB4.held hL.below
        have DB0 := DB4.held hL.below
        have KD4 := Lib.hid (And.intro KB4 DB4)
        clear hL hfit hnext hrk hRk hRw hF hA L0 KB4 DB4 hgr hle vF oF sF vG oG sG h1 h2 h3 h4 hc ha hc2 ha2 hq hq2
        go_wp2_with fail
        have RB := Blk.new wr 37 (rcl ⟨kd, g, l, i, ra, n, on, rs', rm⟩)
        have B := below_new wr (.cells (rcl ⟨kd, g, l, i, ra, n, on, rs', rm⟩) 37)
        have L := HH.out.1.held B
        have KB := KB0.held B
        have DB := DB0.held B
        simp only [rcl] at B RB L KB DB
        clear KB0 DB0
        generalize hx0 : wr.alloc _ = x0 at *
        clear hx0 c0 c1 c2 c3 c4 c5 c6 c7 c8
        have c0 := RB.at_ 0
        have c1 := RB.at_ 1
        have c2 := RB.at_ 2
        have c3 := RB.at_ 3
        have c4 := RB.at_ 4
        have c5 := RB.at_ 5
        have c6 := RB.at_ 6
        have c7 := RB.at_ 7
        have c8 := RB.at_ 8
        have k0 := KB.at_ 0
        have k1 := KB.at_ 1
        have k2 := KB.at_ 2
        have d0 := DB.at_ 0
        have d1 := DB.at_ 1
        refine (L.lease V1.out.2.2.2.2).mono ?_
        rintro e y0 ⟨rfl, rfl⟩
        go_wp2_with fail
        refine (L.floor hk (V1.out.1) (V1.out.2.1)).mono ?_
        rintro e x1 ⟨rfl, hb⟩
        clear c0 c1 c2 c3 c4 c5 c6 c7 c8 k0 k1 k2 d0 d1
        have RB := RB.held hb
        have KB := KB.held hb
        have DB := DB.held hb
        have L := L.held hb
        have B := next B hb
        clear hb
        have hz1 : wr.heap.size ≤ x1.heap.size := B.size
        have i1 : w.heap.size < x1.heap.size := KB.lt
        have i2 : w.heap.size + 1 < x1.heap.size := DB.lt
        have c0o := RB.at_ 0
        have c1o := RB.at_ 1
        have c2o := RB.at_ 2
        have c3o := RB.at_ 3
        have c4o := RB.at_ 4
        have c5o := RB.at_ 5
        have c6o := RB.at_ 6
        have c7o := RB.at_ 7
        have c8o := RB.at_ 8
        have k0o := KB.at_ 0
        have k1o := KB.at_ 1
        have k2o := KB.at_ 2
        have d0o := DB.at_ 0
        have d1o := DB.at_ 1
        have hb := below_new x1 (.cells #[.int .u32 fs, .int .u16 fm] 35)
        have FB := Blk.new x1 35 #[.int .u32 fs, .int .u16 fm]
        have RB := RB.held hb
        have KB := KB.held hb
        have DB := DB.held hb
        have L := L.held hb
        have B := next B hb
        have c0 := RB.at_ 0
        have c1 := RB.at_ 1
        have c2 := RB.at_ 2
        have c3 := RB.at_ 3
        have c4 := RB.at_ 4
        have c5 := RB.at_ 5
        have c6 := RB.at_ 6
        have c7 := RB.at_ 7
        have c8 := RB.at_ 8
        have k0 := KB.at_ 0
        have k1 := KB.at_ 1
        have k2 := KB.at_ 2
        have d0 := DB.at_ 0
        have d1 := DB.at_ 1
        clear hb
        go_wp2_with fail
        clear i1 i2 c0o c1o c2o c3o c4o c5o c6o c7o c8o k0o k1o k2o d0o d1o
        generalize x1.alloc (.cells #[.int .u32 fs, .int .u16 fm] 35) = y1 at *
        have f0 := FB.at_ 0
        have f1 := FB.at_ 1
        refine (L.cov hk V1.out.2.2.1).mono ?_
        rintro e x2 ⟨rfl, hb⟩
        clear c0 c1 c2 c3 c4 c5 c6 c7 c8 k0 k1 k2 d0 d1 f0 f1
        have RB := RB.held hb
        have KB := KB.held hb
        have DB := DB.held hb
        have FB := FB.held hb
        have L := L.held hb
        have B := next B hb
        clear hb
        have c0 := RB.at_ 0
        have c1 := RB.at_ 1
        have c2 := RB.at_ 2
        have c3 := RB.at_ 3
        have c4 := RB.at_ 4
        have c5 := RB.at_ 5
        have c6 := RB.at_ 6
        have c7 := RB.at_ 7
        have c8 := RB.at_ 8
        have k0 := KB.at_ 0
        have k1 := KB.at_ 1
        have k2 := KB.at_ 2
        have d0 := DB.at_ 0
        have d1 := DB.at_ 1
        have f0 := FB.at_ 0
        have f1 := FB.at_ 1
        go_wp2_with fail
        refine (L.fea hk V1.out.2.2.2.1).mono ?_
        rintro e x3 ⟨rfl, hb⟩
        clear c0 c1 c2 c3 c4 c5 c6 c7 c8 k0 k1 k2 d0 d1 f0 f1
        have RB := RB.held hb
        have KB := KB.held hb
        have DB := DB.held hb
        have FB := FB.held hb
        have L := L.held hb
        have B := next B hb
        clear hb
        have c0 := RB.at_ 0
        have c1 := RB.at_ 1
        have c2 := RB.at_ 2
        have c3 := RB.at_ 3
        have c4 := RB.at_ 4
        have c5 := RB.at_ 5
        have c6 := RB.at_ 6
        have c7 := RB.at_ 7
        have c8 := RB.at_ 8
        have k0 := KB.at_ 0
        have k1 := KB.at_ 1
        have k2 := KB.at_ 2
        have d0 := DB.at_ 0
        have d1 := DB.at_ 1
        have f0 := FB.at_ 0
        have f1 := FB.at_ 1
        go_wp2_with fail
        refine (LS.apply_at HH.out.1 B (by omega) ⟨kd, g, l, i, ra, n, on, rs', rm⟩ HH.out.2.1).mono ?_
        rintro e x4 ⟨rfl, L4, hX⟩
        rw [← HH.out.2.2] at L4
        have FB := hX _ _ _ hz1 FB
        clear c0 c1 c2 c3 c4 c5 c6 c7 c8 k0 k1 k2 d0 d1 f0 f1
        clear hX RB L hz1 KB DB
        have L := L4
        clear L4
        have KB := KD4.out.1.held L.below
        have DB := KD4.out.2.held L.below
        have B := Below.refl x4.heap.size x4
        have k0 := KB.at_ 0
        have k1 := KB.at_ 1
        have k2 := KB.at_ 2
        have d0 := DB.at_ 0
        have d1 := DB.at_ 1
        have f0 := FB.at_ 0
        have f1 := FB.at_ 1
        go_wp2_with fail
        refine (L.floor hk (V2.out.1) (V2.out.2.1)).mono ?_
        rintro e x5 ⟨rfl, hb⟩
        clear k0 k1 k2 d0 d1 f0 f1
        have KB := KB.held hb
        have DB := DB.held hb
        have FB := FB.held hb
        have L := L.held hb
        have B := next B hb
        clear hb
        have i1 : w.heap.size < x5.heap.size := KB.lt
        have i2 : w.heap.size + 1 < x5.heap.size := DB.lt
        have k0o := KB.at_ 0
        have k1o := KB.at_ 1
        have k2o := KB.at_ 2
        have d0o := DB.at_ 0
        have d1o := DB.at_ 1
        have f0o := FB.at_ 0
        have f1o := FB.at_ 1
        have hb := below_new x5 (.cells #[.int .u32 gs, .int .u16 gm] 35)
        have GB := Blk.new x5 35 #[.int .u32 gs, .int .u16 gm]
        have KB := KB.held hb
        have DB := DB.held hb
        have FB := FB.held hb
        have L := L.held hb
        have B := next B hb
        have k0 := KB.at_ 0
        have k1 := KB.at_ 1
        have k2 := KB.at_ 2
        have d0 := DB.at_ 0
        have d1 := DB.at_ 1
        have f0 := FB.at_ 0
        have f1 := FB.at_ 1
        clear hb
        go_wp2_with fail
        clear i1 i2 k0o k1o k2o d0o d1o f0o f1o
        generalize x5.alloc (.cells #[.int .u32 gs, .int .u16 gm] 35) = y5 at *
        have g0 := GB.at_ 0
        have g1 := GB.at_ 1
        have dq : decide ((q2 : Int) < (q : Int)) = false := decide_eq_false (by have := HB.out.2.2.2.2; omega)
        have dn : ¬ q2 < q := by have := HB.out.2.2.2.2; omega
        cases had with
        | false =>
          cases c with
          | false =>
            cases cc with
            | false =>
              cases aa with
              | false =>
                refine (L.lease V2.out.2.2.2.2).mono ?_
                rintro e y9 ⟨rfl, rfl⟩
                go_wp2_with fail
                refine (L.fea hk V2.out.2.2.2.1).mono ?_
                rintro e x8 ⟨rfl, hb⟩
                clear k0 k1 k2 d0 d1 f0 f1 g0 g1
                have KB := KB.held hb
                have DB := DB.held hb
                have FB := FB.held hb
                have GB := GB.held hb
                have L := L.held hb
                have B := next B hb
                clear hb
                have k0 := KB.at_ 0
                have k1 := KB.at_ 1
                have k2 := KB.at_ 2
                have d0 := DB.at_ 0
                have d1 := DB.at_ 1
                have f0 := FB.at_ 0
                have f1 := FB.at_ 1
                have g0 := GB.at_ 0
                have g1 := GB.at_ 1
                go_wp2_with fail
                refine (L.cov hk V2.out.2.2.1).mono ?_
                rintro e x9 ⟨rfl, hb⟩
                clear k0 k1 k2 d0 d1 f0 f1 g0 g1
                have KB := KB.held hb
                have DB := DB.held hb
                have FB := FB.held hb
                have GB := GB.held hb
                have L := L.held hb
                have B := next B hb
                clear hb
                have k0 := KB.at_ 0
                have k1 := KB.at_ 1
                have k2 := KB.at_ 2
                have d0 := DB.at_ 0
                have d1 := DB.at_ 1
                have f0 := FB.at_ 0
                have f1 := FB.at_ 1
                have g0 := GB.at_ 0
                have g1 := GB.at_ 1
                go_wp2_with fail
                go_roundw
                case rel => exact ⟨k + 1, by omega, by go_num, L⟩
                case measure => simp [intOf]; omega
              | true =>
                obtain rfl := HB.out.2.2.1 rfl
                refine (L.lease V2.out.2.2.2.2).mono ?_
                rintro e y9 ⟨rfl, rfl⟩
                go_wp2_with fail
                refine (L.fea hk V2.out.2.2.2.1).mono ?_
                rintro e x8 ⟨rfl, hb⟩
                clear k0 k1 k2 d0 d1 f0 f1 g0 g1
                have KB := KB.held hb
                have DB := DB.held hb
                have FB := FB.held hb
                have GB := GB.held hb
                have L := L.held hb
                have B := next B hb
                clear hb
                have k0 := KB.at_ 0
                have k1 := KB.at_ 1
                have k2 := KB.at_ 2
                have d0 := DB.at_ 0
                have d1 := DB.at_ 1
                have f0 := FB.at_ 0
                have f1 := FB.at_ 1
                have g0 := GB.at_ 0
                have g1 := GB.at_ 1
                go_wp2_with fail
                refine (L.cov hk V2.out.2.2.1).mono ?_
                rintro e x9 ⟨rfl, hb⟩
                clear k0 k1 k2 d0 d1 f0 f1 g0 g1
                have KB := KB.held hb
                have DB := DB.held hb
                have FB := FB.held hb
                have GB := GB.held hb
                have L := L.held hb
                have B := next B hb
                clear hb
                have k0 := KB.at_ 0
                have k1 := KB.at_ 1
                have k2 := KB.at_ 2
                have d0 := DB.at_ 0
                have d1 := DB.at_ 1
                have f0 := FB.at_ 0
                have f1 := FB.at_ 1
                have g0 := GB.at_ 0
                have g1 := GB.at_ 1
                go_wp2_with fail
                go_roundw
                case rel => exact ⟨k + 1, by omega, by go_num, L⟩
                case measure => simp [intOf]; omega
            | true =>
              cases aa with
              | false =>
                refine (L.lease V2.out.2.2.2.2).mono ?_
                rintro e y9 ⟨rfl, rfl⟩
                go_wp2_with fail
                refine (L.fea hk V2.out.2.2.2.1).mono ?_
                rintro e x8 ⟨rfl, hb⟩
                clear k0 k1 k2 d0 d1 f0 f1 g0 g1
                have KB := KB.held hb
                have DB := DB.held hb
                have FB := FB.held hb
                have GB := GB.held hb
                have L := L.held hb
                have B := next B hb
                clear hb
                have k0 := KB.at_ 0
                have k1 := KB.at_ 1
                have k2 := KB.at_ 2
                have d0 := DB.at_ 0
                have d1 := DB.at_ 1
                have f0 := FB.at_ 0
                have f1 := FB.at_ 1
                have g0 := GB.at_ 0
                have g1 := GB.at_ 1
                go_wp2_with fail
                refine (L.cov hk V2.out.2.2.1).mono ?_
                rintro e x9 ⟨rfl, hb⟩
                clear k0 k1 k2 d0 d1 f0 f1 g0 g1
                have KB := KB.held hb
                have DB := DB.held hb
                have FB := FB.held hb
                have GB := GB.held hb
                have L := L.held hb
                have B := next B hb
                clear hb
                have k0 := KB.at_ 0
                have k1 := KB.at_ 1
                have k2 := KB.at_ 2
                have d0 := DB.at_ 0
                have d1 := DB.at_ 1
                have f0 := FB.at_ 0
                have f1 := FB.at_ 1
                have g0 := GB.at_ 0
                have g1 := GB.at_ 1
                go_wp2_with fail
                refine (L.fea hk V2.out.2.2.2.1).mono ?_
                rintro e x10 ⟨rfl, hb⟩
                clear k0 k1 k2 d0 d1 f0 f1 g0 g1
                have KB := KB.held hb
                have DB := DB.held hb
                have FB := FB.held hb
                have GB := GB.held hb
                have L := L.held hb
                have B := next B hb
                clear hb
                have k0 := KB.at_ 0
                have k1 := KB.at_ 1
                have k2 := KB.at_ 2
                have d0 := DB.at_ 0
                have d1 := DB.at_ 1
                have f0 := FB.at_ 0
                have f1 := FB.at_ 1
                have g0 := GB.at_ 0
                have g1 := GB.at_ 1
                go_wp2_with fail
                go_roundw
                case rel => exact ⟨k + 1, by omega, by go_num, L⟩
                case measure => simp [intOf]; omega
              | true =>
                obtain rfl := HB.out.2.2.1 rfl
                have hx0 := HB.out.2.2.2.1 rfl rfl
                have hx1 : ((x : Int) == 65535) = true := by have := eq_of_beq hx0; exact beq_iff_eq.2 (by omega)
                have hx2 : ((x : Int) != 65535) = false := by rw [bne, hx1]; rfl
                clear hx0
                refine (L.lease V2.out.2.2.2.2).mono ?_
                rintro e y9 ⟨rfl, rfl⟩
                go_wp2_with fail
                refine (L.fea hk V2.out.2.2.2.1).mono ?_
                rintro e x8 ⟨rfl, hb⟩
                clear k0 k1 k2 d0 d1 f0 f1 g0 g1
                have KB := KB.held hb
                have DB := DB.held hb
                have FB := FB.held hb
                have GB := GB.held hb
                have L := L.held hb
                have B := next B hb
                clear hb
                have k0 := KB.at_ 0
                have k1 := KB.at_ 1
                have k2 := KB.at_ 2
                have d0 := DB.at_ 0
                have d1 := DB.at_ 1
                have f0 := FB.at_ 0
                have f1 := FB.at_ 1
                have g0 := GB.at_ 0
                have g1 := GB.at_ 1
                go_wp2_with fail
                refine (L.cov hk V2.out.2.2.1).mono ?_
                rintro e x9 ⟨rfl, hb⟩
                clear k0 k1 k2 d0 d1 f0 f1 g0 g1
                have KB := KB.held hb
                have DB := DB.held hb
                have FB := FB.held hb
                have GB := GB.held hb
                have L := L.held hb
                have B := next B hb
                clear hb
                have k0 := KB.at_ 0
                have k1 := KB.at_ 1
                have k2 := KB.at_ 2
                have d0 := DB.at_ 0
                have d1 := DB.at_ 1
                have f0 := FB.at_ 0
                have f1 := FB.at_ 1
                have g0 := GB.at_ 0
                have g1 := GB.at_ 1
                go_wp2_with fail
                refine (L.fea hk V2.out.2.2.2.1).mono ?_
                rintro e x10 ⟨rfl, hb⟩
                clear k0 k1 k2 d0 d1 f0 f1 g0 g1
                have KB := KB.held hb
                have DB := DB.held hb
                have FB := FB.held hb
                have GB := GB.held hb
                have L := L.held hb
                have B := next B hb
                clear hb
                have k0 := KB.at_ 0
                have k1 := KB.at_ 1
                have k2 := KB.at_ 2
                have d0 := DB.at_ 0
                have d1 := DB.at_ 1
                have f0 := FB.at_ 0
                have f1 := FB.at_ 1
                have g0 := GB.at_ 0
                have g1 := GB.at_ 1
                go_wp2_with fail
                go_roundw
                case rel => exact ⟨k + 1, by omega, by go_num, L⟩
                case measure => simp [intOf]; omega
          | true =>
            obtain rfl := HB.out.2.1 rfl
            cases aa with
            | false =>
              refine (L.lease V2.out.2.2.2.2).mono ?_
              rintro e y9 ⟨rfl, rfl⟩
              go_wp2_with fail
              refine (L.cov hk V2.out.2.2.1).mono ?_
              rintro e x7 ⟨rfl, hb⟩
              clear k0 k1 k2 d0 d1 f0 f1 g0 g1
              have KB := KB.held hb
              have DB := DB.held hb
              have FB := FB.held hb
              have GB := GB.held hb
              have L := L.held hb
              have B := next B hb
              clear hb
              have k0 := KB.at_ 0
              have k1 := KB.at_ 1
              have k2 := KB.at_ 2
              have d0 := DB.at_ 0
              have d1 := DB.at_ 1
              have f0 := FB.at_ 0
              have f1 := FB.at_ 1
              have g0 := GB.at_ 0
              have g1 := GB.at_ 1
              go_wp2_with fail
              refine (L.fea hk V2.out.2.2.2.1).mono ?_
              rintro e x8 ⟨rfl, hb⟩
              clear k0 k1 k2 d0 d1 f0 f1 g0 g1
              have KB := KB.held hb
              have DB := DB.held hb
              have FB := FB.held hb
              have GB := GB.held hb
              have L := L.held hb
              have B := next B hb
              clear hb
              have k0 := KB.at_ 0
              have k1 := KB.at_ 1
              have k2 := KB.at_ 2
              have d0 := DB.at_ 0
              have d1 := DB.at_ 1
              have f0 := FB.at_ 0
              have f1 := FB.at_ 1
              have g0 := GB.at_ 0
              have g1 := GB.at_ 1
              go_wp2_with fail
              refine (L.cov hk V2.out.2.2.1).mono ?_
              rintro e x9 ⟨rfl, hb⟩
              clear k0 k1 k2 d0 d1 f0 f1 g0 g1
              have KB := KB.held hb
              have DB := DB.held hb
              have FB := FB.held hb
              have GB := GB.held hb
              have L := L.held hb
              have B := next B hb
              clear hb
              have k0 := KB.at_ 0
              have k1 := KB.at_ 1
              have k2 := KB.at_ 2
              have d0 := DB.at_ 0
              have d1 := DB.at_ 1
              have f0 := FB.at_ 0
              have f1 := FB.at_ 1
              have g0 := GB.at_ 0
              have g1 := GB.at_ 1
              go_wp2_with fail
              refine (L.fea hk V2.out.2.2.2.1).mono ?_
              rintro e x10 ⟨rfl, hb⟩
              clear k0 k1 k2 d0 d1 f0 f1 g0 g1
              have KB := KB.held hb
              have DB := DB.held hb
              have FB := FB.held hb
              have GB := GB.held hb
              have L := L.held hb
              have B := next B hb
              clear hb
              have k0 := KB.at_ 0
              have k1 := KB.at_ 1
              have k2 := KB.at_ 2
              have d0 := DB.at_ 0
              have d1 := DB.at_ 1
              have f0 := FB.at_ 0
              have f1 := FB.at_ 1
              have g0 := GB.at_ 0
              have g1 := GB.at_ 1
              go_wp2_with fail
              go_roundw
              case rel => exact ⟨k + 1, by omega, by go_num, L⟩
              case measure => simp [intOf]; omega
            | true =>
              obtain rfl := HB.out.2.2.1 rfl
              have hx0 := HB.out.2.2.2.1 rfl rfl
              have hx1 : ((x : Int) == 65535) = true := by have := eq_of_beq hx0; exact beq_iff_eq.2 (by omega)
              have hx2 : ((x : Int) != 65535) = false := by rw [bne, hx1]; rfl
              clear hx0
              refine (L.lease V2.out.2.2.2.2).mono ?_
              rintro e y9 ⟨rfl, rfl⟩
              go_wp2_with fail
              refine (L.cov hk V2.out.2.2.1).mono ?_
              rintro e x7 ⟨rfl, hb⟩
              clear k0 k1 k2 d0 d1 f0 f1 g0 g1
              have KB := KB.held hb
              have DB := DB.held hb
              have FB := FB.held hb
              have GB := GB.held hb
              have L := L.held hb
              have B := next B hb
              clear hb
              have k0 := KB.at_ 0
              have k1 := KB.at_ 1
              have k2 := KB.at_ 2
              have d0 := DB.at_ 0
              have d1 := DB.at_ 1
              have f0 := FB.at_ 0
              have f1 := FB.at_ 1
              have g0 := GB.at_ 0
              have g1 := GB.at_ 1
              go_wp2_with fail
              refine (L.fea hk V2.out.2.2.2.1).mono ?_
              rintro e x8 ⟨rfl, hb⟩
              clear k0 k1 k2 d0 d1 f0 f1 g0 g1
              have KB := KB.held hb
              have DB := DB.held hb
              have FB := FB.held hb
              have GB := GB.held hb
              have L := L.held hb
              have B := next B hb
              clear hb
              have k0 := KB.at_ 0
              have k1 := KB.at_ 1
              have k2 := KB.at_ 2
              have d0 := DB.at_ 0
              have d1 := DB.at_ 1
              have f0 := FB.at_ 0
              have f1 := FB.at_ 1
              have g0 := GB.at_ 0
              have g1 := GB.at_ 1
              go_wp2_with fail
              refine (L.cov hk V2.out.2.2.1).mono ?_
              rintro e x9 ⟨rfl, hb⟩
              clear k0 k1 k2 d0 d1 f0 f1 g0 g1
              have KB := KB.held hb
              have DB := DB.held hb
              have FB := FB.held hb
              have GB := GB.held hb
              have L := L.held hb
              have B := next B hb
              clear hb
              have k0 := KB.at_ 0
              have k1 := KB.at_ 1
              have k2 := KB.at_ 2
              have d0 := DB.at_ 0
              have d1 := DB.at_ 1
              have f0 := FB.at_ 0
              have f1 := FB.at_ 1
              have g0 := GB.at_ 0
              have g1 := GB.at_ 1
              go_wp2_with fail
              refine (L.fea hk V2.out.2.2.2.1).mono ?_
              rintro e x10 ⟨rfl, hb⟩
              clear k0 k1 k2 d0 d1 f0 f1 g0 g1
              have KB := KB.held hb
              have DB := DB.held hb
              have FB := FB.held hb
              have GB := GB.held hb
              have L := L.held hb
              have B := next B hb
              clear hb
              have k0 := KB.at_ 0
              have k1 := KB.at_ 1
              have k2 := KB.at_ 2
              have d0 := DB.at_ 0
              have d1 := DB.at_ 1
              have f0 := FB.at_ 0
              have f1 := FB.at_ 1
              have g0 := GB.at_ 0
              have g1 := GB.at_ 1
              go_wp2_with fail
              go_roundw
              case rel => exact ⟨k + 1, by omega, by go_num, L⟩
              case measure => simp [intOf]; omega
        | true =>
          obtain ⟨rfl, hb0⟩ := HB.out.1 rfl
          have hbt := Lib.hid hb0
          clear hb0
          cases c with
          | false =>
            cases cc with
            | false =>
              cases aa with
              | false =>
                refine (L.lease V2.out.2.2.2.2).mono ?_
                rintro e y9 ⟨rfl, rfl⟩
                go_wp2_with fail
                refine (better_eq hbt.out _).mono ?_
                rintro e x6 ⟨rfl, hb⟩
                clear k0 k1 k2 d0 d1 f0 f1 g0 g1
                have KB := KB.held hb
                have DB := DB.held hb
                have FB := FB.held hb
                have GB := GB.held hb
                have L := L.held hb
                have B := next B hb
                clear hb
                have k0 := KB.at_ 0
                have k1 := KB.at_ 1
                have k2 := KB.at_ 2
                have d0 := DB.at_ 0
                have d1 := DB.at_ 1
                have f0 := FB.at_ 0
                have f1 := FB.at_ 1
                have g0 := GB.at_ 0
                have g1 := GB.at_ 1
                go_wp2_with fail
                refine (L.fea hk V2.out.2.2.2.1).mono ?_
                rintro e x8 ⟨rfl, hb⟩
                clear k0 k1 k2 d0 d1 f0 f1 g0 g1
                have KB := KB.held hb
                have DB := DB.held hb
                have FB := FB.held hb
                have GB := GB.held hb
                have L := L.held hb
                have B := next B hb
                clear hb
                have k0 := KB.at_ 0
                have k1 := KB.at_ 1
                have k2 := KB.at_ 2
                have d0 := DB.at_ 0
                have d1 := DB.at_ 1
                have f0 := FB.at_ 0
                have f1 := FB.at_ 1
                have g0 := GB.at_ 0
                have g1 := GB.at_ 1
                go_wp2_with fail
                refine (L.cov hk V2.out.2.2.1).mono ?_
                rintro e x9 ⟨rfl, hb⟩
                clear k0 k1 k2 d0 d1 f0 f1 g0 g1
                have KB := KB.held hb
                have DB := DB.held hb
                have FB := FB.held hb
                have GB := GB.held hb
                have L := L.held hb
                have B := next B hb
                clear hb
                have k0 := KB.at_ 0
                have k1 := KB.at_ 1
                have k2 := KB.at_ 2
                have d0 := DB.at_ 0
                have d1 := DB.at_ 1
                have f0 := FB.at_ 0
                have f1 := FB.at_ 1
                have g0 := GB.at_ 0
                have g1 := GB.at_ 1
                go_wp2_with fail
                go_roundw
                case rel => exact ⟨k + 1, by omega, by go_num, L⟩
                case measure => simp [intOf]; omega
              | true =>
                obtain rfl := HB.out.2.2.1 rfl
                refine (L.lease V2.out.2.2.2.2).mono ?_
                rintro e y9 ⟨rfl, rfl⟩
                go_wp2_with fail
                refine (better_eq hbt.out _).mono ?_
                rintro e x6 ⟨rfl, hb⟩
                clear k0 k1 k2 d0 d1 f0 f1 g0 g1
                have KB := KB.held hb
                have DB := DB.held hb
                have FB := FB.held hb
                have GB := GB.held hb
                have L := L.held hb
                have B := next B hb
                clear hb
                have k0 := KB.at_ 0
                have k1 := KB.at_ 1
                have k2 := KB.at_ 2
                have d0 := DB.at_ 0
                have d1 := DB.at_ 1
                have f0 := FB.at_ 0
                have f1 := FB.at_ 1
                have g0 := GB.at_ 0
                have g1 := GB.at_ 1
                go_wp2_with fail
                refine (L.fea hk V2.out.2.2.2.1).mono ?_
                rintro e x8 ⟨rfl, hb⟩
                clear k0 k1 k2 d0 d1 f0 f1 g0 g1
                have KB := KB.held hb
                have DB := DB.held hb
                have FB := FB.held hb
                have GB := GB.held hb
                have L := L.held hb
                have B := next B hb
                clear hb
                have k0 := KB.at_ 0
                have k1 := KB.at_ 1
                have k2 := KB.at_ 2
                have d0 := DB.at_ 0
                have d1 := DB.at_ 1
                have f0 := FB.at_ 0
                have f1 := FB.at_ 1
                have g0 := GB.at_ 0
                have g1 := GB.at_ 1
                go_wp2_with fail
                refine (L.cov hk V2.out.2.2.1).mono ?_
                rintro e x9 ⟨rfl, hb⟩
                clear k0 k1 k2 d0 d1 f0 f1 g0 g1
                have KB := KB.held hb
                have DB := DB.held hb
                have FB := FB.held hb
                have GB := GB.held hb
                have L := L.held hb
                have B := next B hb
                clear hb
                have k0 := KB.at_ 0
                have k1 := KB.at_ 1
                have k2 := KB.at_ 2
                have d0 := DB.at_ 0
                have d1 := DB.at_ 1
                have f0 := FB.at_ 0
                have f1 := FB.at_ 1
                have g0 := GB.at_ 0
                have g1 := GB.at_ 1
                go_wp2_with fail
                go_roundw
                case rel => exact ⟨k + 1, by omega, by go_num, L⟩
                case measure => simp [intOf]; omega
            | true =>
              cases aa with
              | false =>
                refine (L.lease V2.out.2.2.2.2).mono ?_
                rintro e y9 ⟨rfl, rfl⟩
                go_wp2_with fail
                refine (better_eq hbt.out _).mono ?_
                rintro e x6 ⟨rfl, hb⟩
                clear k0 k1 k2 d0 d1 f0 f1 g0 g1
                have KB := KB.held hb
                have DB := DB.held hb
                have FB := FB.held hb
                have GB := GB.held hb
                have L := L.held hb
                have B := next B hb
                clear hb
                have k0 := KB.at_ 0
                have k1 := KB.at_ 1
                have k2 := KB.at_ 2
                have d0 := DB.at_ 0
                have d1 := DB.at_ 1
                have f0 := FB.at_ 0
                have f1 := FB.at_ 1
                have g0 := GB.at_ 0
                have g1 := GB.at_ 1
                go_wp2_with fail
                refine (L.fea hk V2.out.2.2.2.1).mono ?_
                rintro e x8 ⟨rfl, hb⟩
                clear k0 k1 k2 d0 d1 f0 f1 g0 g1
                have KB := KB.held hb
                have DB := DB.held hb
                have FB := FB.held hb
                have GB := GB.held hb
                have L := L.held hb
                have B := next B hb
                clear hb
                have k0 := KB.at_ 0
                have k1 := KB.at_ 1
                have k2 := KB.at_ 2
                have d0 := DB.at_ 0
                have d1 := DB.at_ 1
                have f0 := FB.at_ 0
                have f1 := FB.at_ 1
                have g0 := GB.at_ 0
                have g1 := GB.at_ 1
                go_wp2_with fail
                refine (L.cov hk V2.out.2.2.1).mono ?_
                rintro e x9 ⟨rfl, hb⟩
                clear k0 k1 k2 d0 d1 f0 f1 g0 g1
                have KB := KB.held hb
                have DB := DB.held hb
                have FB := FB.held hb
                have GB := GB.held hb
                have L := L.held hb
                have B := next B hb
                clear hb
                have k0 := KB.at_ 0
                have k1 := KB.at_ 1
                have k2 := KB.at_ 2
                have d0 := DB.at_ 0
                have d1 := DB.at_ 1
                have f0 := FB.at_ 0
                have f1 := FB.at_ 1
                have g0 := GB.at_ 0
                have g1 := GB.at_ 1
                go_wp2_with fail
                refine (L.fea hk V2.out.2.2.2.1).mono ?_
                rintro e x10 ⟨rfl, hb⟩
                clear k0 k1 k2 d0 d1 f0 f1 g0 g1
                have KB := KB.held hb
                have DB := DB.held hb
                have FB := FB.held hb
                have GB := GB.held hb
                have L := L.held hb
                have B := next B hb
                clear hb
                have k0 := KB.at_ 0
                have k1 := KB.at_ 1
                have k2 := KB.at_ 2
                have d0 := DB.at_ 0
                have d1 := DB.at_ 1
                have f0 := FB.at_ 0
                have f1 := FB.at_ 1
                have g0 := GB.at_ 0
                have g1 := GB.at_ 1
                go_wp2_with fail
                go_roundw
                case rel => exact ⟨k + 1, by omega, by go_num, L⟩
                case measure => simp [intOf]; omega
              | true =>
                obtain rfl := HB.out.2.2.1 rfl
                have hx0 := HB.out.2.2.2.1 rfl rfl
                have hx1 : ((x : Int) == 65535) = true := by have := eq_of_beq hx0; exact beq_iff_eq.2 (by omega)
                have hx2 : ((x : Int) != 65535) = false := by rw [bne, hx1]; rfl
                clear hx0
                refine (L.lease V2.out.2.2.2.2).mono ?_
                rintro e y9 ⟨rfl, rfl⟩
                go_wp2_with fail
                refine (better_eq hbt.out _).mono ?_
                rintro e x6 ⟨rfl, hb⟩
                clear k0 k1 k2 d0 d1 f0 f1 g0 g1
                have KB := KB.held hb
                have DB := DB.held hb
                have FB := FB.held hb
                have GB := GB.held hb
                have L := L.held hb
                have B := next B hb
                clear hb
                have k0 := KB.at_ 0
                have k1 := KB.at_ 1
                have k2 := KB.at_ 2
                have d0 := DB.at_ 0
                have d1 := DB.at_ 1
                have f0 := FB.at_ 0
                have f1 := FB.at_ 1
                have g0 := GB.at_ 0
                have g1 := GB.at_ 1
                go_wp2_with fail
                refine (L.fea hk V2.out.2.2.2.1).mono ?_
                rintro e x8 ⟨rfl, hb⟩
                clear k0 k1 k2 d0 d1 f0 f1 g0 g1
                have KB := KB.held hb
                have DB := DB.held hb
                have FB := FB.held hb
                have GB := GB.held hb
                have L := L.held hb
                have B := next B hb
                clear hb
                have k0 := KB.at_ 0
                have k1 := KB.at_ 1
                have k2 := KB.at_ 2
                have d0 := DB.at_ 0
                have d1 := DB.at_ 1
                have f0 := FB.at_ 0
                have f1 := FB.at_ 1
                have g0 := GB.at_ 0
                have g1 := GB.at_ 1
                go_wp2_with fail
                refine (L.cov hk V2.out.2.2.1).mono ?_
                rintro e x9 ⟨rfl, hb⟩
                clear k0 k1 k2 d0 d1 f0 f1 g0 g1
                have KB := KB.held hb
                have DB := DB.held hb
                have FB := FB.held hb
                have GB := GB.held hb
                have L := L.held hb
                have B := next B hb
                clear hb
                have k0 := KB.at_ 0
                have k1 := KB.at_ 1
                have k2 := KB.at_ 2
                have d0 := DB.at_ 0
                have d1 := DB.at_ 1
                have f0 := FB.at_ 0
                have f1 := FB.at_ 1
                have g0 := GB.at_ 0
                have g1 := GB.at_ 1
                go_wp2_with fail
                refine (L.fea hk V2.out.2.2.2.1).mono ?_
                rintro e x10 ⟨rfl, hb⟩
                clear k0 k1 k2 d0 d1 f0 f1 g0 g1
                have KB := KB.held hb
                have DB := DB.held hb
                have FB := FB.held hb
                have GB := GB.held hb
                have L := L.held hb
                have B := next B hb
                clear hb
                have k0 := KB.at_ 0
                have k1 := KB.at_ 1
                have k2 := KB.at_ 2
                have d0 := DB.at_ 0
                have d1 := DB.at_ 1
                have f0 := FB.at_ 0
                have f1 := FB.at_ 1
                have g0 := GB.at_ 0
                have g1 := GB.at_ 1
                go_wp2_with fail
                go_roundw
                case rel => exact ⟨k + 1, by omega, by go_num, L⟩
                case measure => simp [intOf]; omega
          | true =>
            obtain rfl := HB.out.2.1 rfl
            cases aa with
            | false =>
              refine (L.lease V2.out.2.2.2.2).mono ?_
              rintro e y9 ⟨rfl, rfl⟩
              go_wp2_with fail
              refine (better_eq hbt.out _).mono ?_
              rintro e x6 ⟨rfl, hb⟩
              clear k0 k1 k2 d0 d1 f0 f1 g0 g1
              have KB := KB.held hb
              have DB := DB.held hb
              have FB := FB.held hb
              have GB := GB.held hb
              have L := L.held hb
              have B := next B hb
              clear hb
              have k0 := KB.at_ 0
              have k1 := KB.at_ 1
              have k2 := KB.at_ 2
              have d0 := DB.at_ 0
              have d1 := DB.at_ 1
              have f0 := FB.at_ 0
              have f1 := FB.at_ 1
              have g0 := GB.at_ 0
              have g1 := GB.at_ 1
              go_wp2_with fail
              refine (L.cov hk V2.out.2.2.1).mono ?_
              rintro e x7 ⟨rfl, hb⟩
              clear k0 k1 k2 d0 d1 f0 f1 g0 g1
              have KB := KB.held hb
              have DB := DB.held hb
              have FB := FB.held hb
              have GB := GB.held hb
              have L := L.held hb
              have B := next B hb
              clear hb
              have k0 := KB.at_ 0
              have k1 := KB.at_ 1
              have k2 := KB.at_ 2
              have d0 := DB.at_ 0
              have d1 := DB.at_ 1
              have f0 := FB.at_ 0
              have f1 := FB.at_ 1
              have g0 := GB.at_ 0
              have g1 := GB.at_ 1
              go_wp2_with fail
              refine (L.fea hk V2.out.2.2.2.1).mono ?_
              rintro e x8 ⟨rfl, hb⟩
              clear k0 k1 k2 d0 d1 f0 f1 g0 g1
              have KB := KB.held hb
              have DB := DB.held hb
              have FB := FB.held hb
              have GB := GB.held hb
              have L := L.held hb
              have B := next B hb
              clear hb
              have k0 := KB.at_ 0
              have k1 := KB.at_ 1
              have k2 := KB.at_ 2
              have d0 := DB.at_ 0
              have d1 := DB.at_ 1
              have f0 := FB.at_ 0
              have f1 := FB.at_ 1
              have g0 := GB.at_ 0
              have g1 := GB.at_ 1
              go_wp2_with fail
              refine (L.cov hk V2.out.2.2.1).mono ?_
              rintro e x9 ⟨rfl, hb⟩
              clear k0 k1 k2 d0 d1 f0 f1 g0 g1
              have KB := KB.held hb
              have DB := DB.held hb
              have FB := FB.held hb
              have GB := GB.held hb
              have L := L.held hb
              have B := next B hb
              clear hb
              have k0 := KB.at_ 0
              have k1 := KB.at_ 1
              have k2 := KB.at_ 2
              have d0 := DB.at_ 0
              have d1 := DB.at_ 1
              have f0 := FB.at_ 0
              have f1 := FB.at_ 1
              have g0 := GB.at_ 0
              have g1 := GB.at_ 1
              go_wp2_with fail
              refine (L.fea hk V2.out.2.2.2.1).mono ?_
              rintro e x10 ⟨rfl, hb⟩
              clear k0 k1 k2 d0 d1 f0 f1 g0 g1
              have KB := KB.held hb
              have DB := DB.held hb
              have FB := FB.held hb
              have GB := GB.held hb
              have L := L.held hb
              have B := next B hb
              clear hb
              have k0 := KB.at_ 0
              have k1 := KB.at_ 1
              have k2 := KB.at_ 2
              have d0 := DB.at_ 0
              have d1 := DB.at_ 1
              have f0 := FB.at_ 0
              have f1 := FB.at_ 1
              have g0 := GB.at_ 0
              have g1 := GB.at_ 1
              go_wp2_with fail
              go_roundw
              case rel => exact ⟨k + 1, by omega, by go_num, L⟩
              case measure => simp [intOf]; omega
            | true =>
              obtain rfl := HB.out.2.2.1 rfl
              have hx0 := HB.out.2.2.2.1 rfl rfl
              have hx1 : ((x : Int) == 65535) = true := by have := eq_of_beq hx0; exact beq_iff_eq.2 (by omega)
              have hx2 : ((x : Int) != 65535) = false := by rw [bne, hx1]; rfl
              clear hx0
              refine (L.lease V2.out.2.2.2.2).mono ?_
              rintro e y9 ⟨rfl, rfl⟩
              go_wp2_with fail
              refine (better_eq hbt.out _).mono ?_
              rintro e x6 ⟨rfl, hb⟩
              clear k0 k1 k2 d0 d1 f0 f1 g0 g1
              have KB := KB.held hb
              have DB := DB.held hb
              have FB := FB.held hb
              have GB := GB.held hb
              have L := L.held hb
              have B := next B hb
              clear hb
              have k0 := KB.at_ 0
              have k1 := KB.at_ 1
              have k2 := KB.at_ 2
              have d0 := DB.at_ 0
              have d1 := DB.at_ 1
              have f0 := FB.at_ 0
              have f1 := FB.at_ 1
              have g0 := GB.at_ 0
              have g1 := GB.at_ 1
              go_wp2_with fail
              refine (L.cov hk V2.out.2.2.1).mono ?_
              rintro e x7 ⟨rfl, hb⟩
              clear k0 k1 k2 d0 d1 f0 f1 g0 g1
              have KB := KB.held hb
              have DB := DB.held hb
              have FB := FB.held hb
              have GB := GB.held hb
              have L := L.held hb
              have B := next B hb
              clear hb
              have k0 := KB.at_ 0
              have k1 := KB.at_ 1
              have k2 := KB.at_ 2
              have d0 := DB.at_ 0
              have d1 := DB.at_ 1
              have f0 := FB.at_ 0
              have f1 := FB.at_ 1
              have g0 := GB.at_ 0
              have g1 := GB.at_ 1
              go_wp2_with fail
              refine (L.fea hk V2.out.2.2.2.1).mono ?_
              rintro e x8 ⟨rfl, hb⟩
              clear k0 k1 k2 d0 d1 f0 f1 g0 g1
              have KB := KB.held hb
              have DB := DB.held hb
              have FB := FB.held hb
              have GB := GB.held hb
              have L := L.held hb
              have B := next B hb
              clear hb
              have k0 := KB.at_ 0
              have k1 := KB.at_ 1
              have k2 := KB.at_ 2
              have d0 := DB.at_ 0
              have d1 := DB.at_ 1
              have f0 := FB.at_ 0
              have f1 := FB.at_ 1
              have g0 := GB.at_ 0
              have g1 := GB.at_ 1
              go_wp2_with fail
              refine (L.cov hk V2.out.2.2.1).mono ?_
              rintro e x9 ⟨rfl, hb⟩
              clear k0 k1 k2 d0 d1 f0 f1 g0 g1
              have KB := KB.held hb
              have DB := DB.held hb
              have FB := FB.held hb
              have GB := GB.held hb
              have L := L.held hb
              have B := next B hb
              clear hb
              have k0 := KB.at_ 0
              have k1 := KB.at_ 1
              have k2 := KB.at_ 2
              have d0 := DB.at_ 0
              have d1 := DB.at_ 1
              have f0 := FB.at_ 0
              have f1 := FB.at_ 1
              have g0 := GB.at_ 0
              have g1 := GB.at_ 1
              go_wp2_with fail
              refine (L.fea hk V2.out.2.2.2.1).mono ?_
              rintro e x10 ⟨rfl, hb⟩
              clear k0 k1 k2 d0 d1 f0 f1 g0 g1
              have KB := KB.held hb
              have DB := DB.held hb
              have FB := FB.held hb
              have GB := GB.held hb
              have L := L.held hb
              have B := next B hb
              clear hb
              have k0 := KB.at_ 0
              have k1 := KB.at_ 1
              have k2 := KB.at_ 2
              have d0 := DB.at_ 0
              have d1 := DB.at_ 1
              have f0 := FB.at_ 0
              have f1 := FB.at_ 1
              have g0 := GB.at_ 0
              have g1 := GB.at_ 1
              go_wp2_with fail
              go_roundw
              case rel => exact ⟨k + 1, by omega, by go_num, L⟩
              case measure => simp [intOf]; omega
      · obtain rfl : k = len := by omega
        clear hRw hF hA L0
        have hB5 := next HB4 hL.below
        go_wp2_with fail
        go_ret
        exact ⟨rfl, hB5⟩
end Go.Proofs.Ytibflamnnjpigaa
