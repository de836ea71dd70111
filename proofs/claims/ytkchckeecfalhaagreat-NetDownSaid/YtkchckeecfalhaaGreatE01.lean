/-
  what lies behind the base
-/
import Derived.Test.YtkchckeecfalhaaGreatS30
import Derived.Test.YtkchckeecfalhaaGreatRows
import Derived.WalkKit
import Derived.ProofKit
import Derived.OpenShut
import Derived.Carry
import Derived.Deep.Slices
import Derived.Deep.Fields
import Derived.ChangeSame
import Derived.Lib.SmallJoins
import Derived.JoinedOf
import Derived.KernelRfl
-- NvG
/-
  NetDown: its walk.
-/
namespace Go.Proofs.YtkchckeecfalhaaGreat
open Go.RowKit Go.Maps Rm Fm Sb
attribute [local go_sem] Oper.semAt_some

theorem early_dist (d : Nat) (z : Int) : (Ms d 2 (cL 0 z) (fun _ => none) 0).dist 167772160 16 = (0, false) := rfl
theorem late_dist (d : Nat) {z : Int} (h1 : 1 ≤ z) (h2 : z ≤ 1000) : (Ms d 2 (cL 0 z) (putR (fun _ => none) ⟨(pz 0).a, (pz 0).n, 0⟩ ⟨0, 1, 1, 0, 1 + 3⟩) 1).dist 167772160 16 = (z, true) := dist_put (p := pz 0) (fr := 0) (by omega) h1 h2
set_option maxRecDepth 20000 in
set_option maxHeartbeats 4000000 in
theorem down_walk (cost : Int) (on : Bool) (w : World) : Calls Tryz.prog 5 #[.int .i64 cost, .bool on] w fun e w' => e = .returned (.bool true) ∧ Below w.heap.size w w' := by
  obtain ⟨cn, hcn, hmask⟩ := mask_low cost 511 (by omega)
  replace hmask : bits .and .i64 cost 511 = (cn : Int) := hmask
  obtain ⟨z, hz⟩ : ∃ z : Int, 1 + (cn : Int) = z := ⟨_, rfl⟩
  have hz1 : 1 ≤ z := by omega
  have hz2 : z ≤ 1000 := by omega
  have HZ := Lib.hid hz
  have hwr : wrap64 (1 + (cn : Int)) = 1 + (cn : Int) := IntWalk.wrap64_in _ (by omega)
  go_enter Tryz.func5, Tryz.ntmps5
  go_wp2_with fail
  refine (net_head w).mono ?_
  rintro e w1 ⟨rfl, hb1⟩
  have HB1 := Lib.hid hb1
  have HN := bn_new 2 (by omega) (by omega) 64 (by omega) (by omega) w1
  replace HN : Calls Tryz.prog 18 #[.int .i64 2, .int .i64 64] w1 fun e w' => ∃ (N : Nat) (d : Nat → Nat), e = .returned (.pointer (some ⟨N, 0, none⟩)) ∧ Bn w1 w' N 2 (fun i => ⟨d i, none, fun _ => 0, ⟨i + 1, 31, sm0⟩⟩) [] := HN
  clear hb1 hz hcn
  go_wp2_with fail
  rw [HZ.out, IntWalk.wrap64_in z (by omega)]
  clear hwr hmask
  refine HN.mono ?_
  rintro e w2 ⟨N, d, rfl, h1⟩
  have HB0 := bn_boot h1 (i := 0) (by omega) rfl (fun _ => ⟨by decide, by decide⟩)
  rw [mrB_zero] at HB0
  replace HB0 : Calls Tryz.prog 22 #[.pointer (some ⟨N, 0, none⟩), .int .i64 0] w2 fun e w' => e = .returned (.int .i64 0) ∧ Bn w1 w' N 2 _ [] := HB0
  clear HN h1
  go_wp2_with fail
  refine HB0.mono ?_
  rintro e w3 ⟨rfl, h2⟩
  have h2' := h2.two (a := svS (d 0) 1 31 90000 (fun _ => 0) (fun _ => none) 0 (z31 0)) (b := svD (d 1) (fun _ => 0) (z31 1)) rfl rfl
  have H2 := Lib.hid h2'
  have HP := npfx_zero 0 (by omega) w3
  replace HP : Calls Tryz.prog 32 #[.int .i64 0, .int .i64 0] w3 fun e w' => e = .returned (.agg #[.int .u32 ((167772160 + 0 * 65536 : Nat) : Int), .int .i64 16]) ∧ Below w3.heap.size w3 w' := HP
  clear HB0 h2 h2'
  go_wp2_with fail
  refine HP.mono ?_
  rintro e w4 ⟨rfl, hb4⟩
  have HO := bn_own_ms (H2.out.held hb4) (i := 0) (by omega) (room := 30) rfl (k := 0) (by omega)
  replace HO : Calls Tryz.prog 31 #[.pointer (some ⟨N, 0, none⟩), .int .i64 0, .agg #[.int .u32 ((167772160 + 0 * 65536 : Nat) : Int), .int .i64 16], .bool true] w4 fun e w' => e = .returned (.int .i64 0) ∧ Bn w1 w' N 2 _ [] := HO
  clear HP hb4
  go_wp2_with fail
  refine HO.mono ?_
  rintro e w5 ⟨rfl, h5⟩
  have h5' := h5.two (a := svO (pz 0) (d 0) 1 30 90000 (fun _ => 0) 0 0 0 0 (z31 0)) (b := svD (d 1) (fun _ => 0) (z31 1)) rfl rfl
  have H5 := Lib.hid h5'
  clear HO h5 h5' H2
  go_upto_region 9 with (first
    | (go_at_call 22; have HBb := bn_boot H5.out (i := 1) (by omega) rfl (fun _ => ⟨by decide, by decide⟩); rw [mrB_zero] at HBb; replace HBb : Calls Tryz.prog 22 #[.pointer (some ⟨N, 0, none⟩), .int .i64 1] w5 fun e w' => e = .returned (.int .i64 0) ∧ Bn w1 w' N 2 _ [] := HBb; refine HBb.mono ?_; rintro e w6 ⟨rfl, h6⟩; clear HBb; have h6' := h6.two (a := svO (pz 0) (d 0) 1 30 90000 (fun _ => 0) 0 0 0 0 (z31 0)) (b := svS (d 1) 2 31 90000 (fun _ => 0) (fun _ => none) 0 (z31 1)) rfl rfl; clear h6; have H6 := Lib.hid h6'; clear h6')
    | (go_at_call 33; have HC := bn_crash H6.out (i := 1) (by omega) (A := none) (ps := []) (cap := 0) Cr.PicksAt.nil (fun ad e => by cases e) (Nat.le_refl _) (by omega); replace HC : Calls Tryz.prog 33 #[.pointer (some ⟨N, 0, none⟩), .int .i64 1, .slice none 0 0] w6 fun e w' => e = .returned (.int .i64 0) ∧ Bn w1 w' N 2 _ [] := HC; refine HC.mono ?_; rintro e w7 ⟨rfl, h7⟩; clear HC; have h7' := h7.two (a := svO (pz 0) (d 0) 1 30 90000 (fun _ => 0) 0 0 0 0 (z31 0)) (b := svD (d 1) (fun _ => 0) (z31 1)) rfl rfl; clear h7 H5 H6; have H5 := Lib.hid h7'; clear h7')
    | fail)
  all_goals
    have HL := bn_link H5.out (a := 0) (b := 1) (by omega) (by omega) (by omega) (cost := z) (by omega) hz2
    replace HL : Calls Tryz.prog 23 #[.pointer (some ⟨N, 0, none⟩), .int .i64 0, .int .i64 1, .int .i64 z] _ fun e w' => e = .returned (.int .i64 0) ∧ Bn w1 w' N 2 _ [] := HL
    clear H5
    go_wp2_with fail
    refine HL.mono ?_
    rintro e w8 ⟨rfl, h8⟩
    have h8' := h8.two (a := svO (pz 0) (d 0) 1 30 90000 (cL 1 z) 0 0 0 0 (z31 0)) (b := svD (d 1) (cL 0 z) (z31 1)) (by
      show Sv.mk _ (some ⟨_, _, Mr.link (Mo1 (pz 0) (d 0) 1 (fun _ => 0) 0 0 0 0) 1 z⟩) _ _ = _
      rw [link_mo1]; rfl) rfl
    clear h8 HL
    have H8 := Lib.hid h8'
    have HT := bn_tick_down h8' (i := 1) (by omega) rfl
    replace HT : Calls Tryz.prog 34 #[.pointer (some ⟨N, 0, none⟩), .int .i64 1] w8 fun e w' => e = .returned (.int .i64 3) ∧ w' = w8 := HT
    clear h8'
    go_wp2_with fail
    refine HT.mono ?_
    rintro e w9 ⟨rfl, rfl⟩
    clear HT
    have HP := npfx_zero 1 (by omega) w9
    replace HP : Calls Tryz.prog 32 #[.int .i64 1, .int .i64 0] w9 fun e w' => e = .returned (.agg #[.int .u32 ((167772160 + 1 * 65536 : Nat) : Int), .int .i64 16]) ∧ Below w9.heap.size w9 w' := HP
    go_wp2_with fail
    refine HP.mono ?_
    rintro e w10 ⟨rfl, hb10⟩
    have HO := bn_own_down (H8.out.held hb10) (i := 1) (by omega) rfl (167772160 + 1 * 65536) 16 true
    replace HO : Calls Tryz.prog 31 #[.pointer (some ⟨N, 0, none⟩), .int .i64 1, .agg #[.int .u32 ((167772160 + 1 * 65536 : Nat) : Int), .int .i64 16], .bool true] w10 fun e w' => e = .returned (.int .i64 3) ∧ Below w10.heap.size w10 w' := HO
    have H10 := Lib.hid (H8.out.held hb10)
    clear HP hb10
    go_wp2_with fail
    refine HO.mono ?_
    rintro e w11 ⟨rfl, hb11⟩
    have h11 := H10.out.held hb11
    have HRt := bn_router_down h11 (i := 1) (by omega) rfl
    replace HRt : Calls Tryz.prog 35 #[.pointer (some ⟨N, 0, none⟩), .int .i64 1] w11 fun e w' => e = .returned (.pointer none) ∧ w' = w11 := HRt
    have HR := down_round (by omega) h11
    clear HO hb11 h11 H10 H8
    go_wp2_with fail
    refine HRt.mono ?_
    rintro e w12 ⟨rfl, rfl⟩
    clear HRt
    go_wp2_with fail
    refine HR.mono ?_
    rintro e w13 ⟨rfl, h13⟩
    have HW := bn_waiting h13
    replace HW : Calls Tryz.prog 36 #[.pointer (some ⟨N, 0, none⟩)] w13 fun e w' => e = .returned (.int .i64 0) ∧ w' = w13 := HW
    have HBt := bn_boot h13 (i := 1) (by omega) rfl (cL_range (by omega) hz2)
    rw [show mrB (1 + 1) (d 1) sm0 (cL 0 z) = Ms (d 1) 2 (cL 0 z) (fun _ => none) 0 from mrB_cL 2 (d 1) (by omega) z] at HBt
    replace HBt : Calls Tryz.prog 22 #[.pointer (some ⟨N, 0, none⟩), .int .i64 1] w13 fun e w' => e = .returned (.int .i64 0) ∧ Bn w1 w' N 2 _ [] := HBt
    clear HR h13
    go_wp2_with fail
    refine HW.mono ?_
    rintro e w14 ⟨rfl, rfl⟩
    clear HW
    go_wp2_with fail
    refine HBt.mono ?_
    rintro e w15 ⟨rfl, h15⟩
    have h15' := h15.two (a := svO (pz 0) (d 0) 1 29 90000 (cL 1 z) 1 1 1 8 (z31 0)) (b := svS (d 1) 2 31 90000 (cL 0 z) (fun _ => none) 0 (z31 1)) rfl rfl
    have HBr := bn_boot_runs h15' (i := 1) (by omega) rfl
    replace HBr : Calls Tryz.prog 22 #[.pointer (some ⟨N, 0, none⟩), .int .i64 1] w15 fun e w' => e = .returned (.int .i64 3) ∧ w' = w15 := HBr
    have HRt := bn_router h15' (i := 1) (by omega) rfl
    replace HRt : Calls Tryz.prog 35 #[.pointer (some ⟨N, 0, none⟩), .int .i64 1] w15 _ := HRt
    have H15 := Lib.hid h15'
    clear HBt h15 h15'
    go_wp2_with fail
    refine HBr.mono ?_
    rintro e w16 ⟨rfl, rfl⟩
    clear HBr
    go_wp2_with fail
    refine HRt.mono ?_
    rintro e w17 ⟨R, rfl, rfl, F, hz⟩
    have HZr := Lib.hid hz
    have HP := npfx_zero 0 (by omega) w17
    replace HP : Calls Tryz.prog 32 #[.int .i64 0, .int .i64 0] w17 fun e w' => e = .returned (.agg #[.int .u32 ((167772160 + 0 * 65536 : Nat) : Int), .int .i64 16]) ∧ Below w17.heap.size w17 w' := HP
    clear HRt hz
    go_wp2_with fail
    refine HP.mono ?_
    rintro e w18 ⟨rfl, hb18⟩
    obtain ⟨o, fl, tb, j, N0, n0, hR⟩ := (HZr.out.held hb18).rr
    have HD := rr_dist hR (a := 167772160) (len := 16) (pz_ok (i := 0) (by omega)) (early_dist (d 1) z)
    have H18 := Lib.hid (H15.out.held hb18)
    clear HP hb18 hR HZr H15
    go_wp2_with fail
    refine Calls.mono (show Calls Tryz.prog 37 _ _ _ from HD) ?_
    rintro e w19 ⟨rfl, hb19⟩
    have HR := up_round hz1 hz2 (H18.out.held hb19)
    clear HD hb19 H18
    go_wp2_with fail
    refine HR.mono ?_
    rintro e w20 ⟨rfl, h20⟩
    have HRt := bn_router h20 (i := 1) (by omega) rfl
    replace HRt : Calls Tryz.prog 35 #[.pointer (some ⟨N, 0, none⟩), .int .i64 1] w20 _ := HRt
    have HB := Lib.hid (HB1.out.trans (h20.below.mono HB1.out.size))
    clear HR h20
    go_wp2_with fail
    refine HRt.mono ?_
    rintro e w21 ⟨R2, rfl, rfl, F2, hz⟩
    have HZr := Lib.hid hz
    have HP := npfx_zero 0 (by omega) w21
    replace HP : Calls Tryz.prog 32 #[.int .i64 0, .int .i64 0] w21 fun e w' => e = .returned (.agg #[.int .u32 ((167772160 + 0 * 65536 : Nat) : Int), .int .i64 16]) ∧ Below w21.heap.size w21 w' := HP
    clear HRt hz
    go_wp2_with fail
    refine HP.mono ?_
    rintro e w22 ⟨rfl, hb22⟩
    obtain ⟨o, fl, tb, j, N0, n0, hR⟩ := (HZr.out.held hb22).rr
    have HD := rr_dist hR (a := 167772160) (len := 16) (pz_ok (i := 0) (by omega)) (late_dist (d 1) hz1 hz2)
    have HB22 := Lib.hid (next HB.out hb22)
    clear HP hb22 hR HZr HB
    go_wp2_with fail
    refine Calls.mono (show Calls Tryz.prog 37 _ _ _ from HD) ?_
    rintro e w23 ⟨rfl, hb23⟩
    have HB23 := Lib.hid (next HB22.out hb23)
    clear HD hb23 HB22
    go_wp2_with fail
    go_ret
    exact ⟨rfl, HB23.out⟩
end Go.Proofs.YtkchckeecfalhaaGreat

-- Law
/-
  What all laws share: a call that answers true and turns nothing that was there leaves every argument readable as it was. No program's own text in sight.
-/
namespace Go.Proofs.YtkchckeecfalhaaGreat
open Go.ChangeShapes Go.WideShapes Go.ChangeAt Go.RowKit

section
variable {H : Type} {enc : TypeId × Value → H} {P : Program}
/-- Arguments read in a later world as they did, if nothing that was there has turned. -/
theorem trodAll_keep (hl : laidOutB P = true) {W W' : World} (hb : Below W.heap.size W W') {sp : Nat → Bool} :
    ∀ {ts : List TypeId} {vs : List Value} {ds : List (DataW H)} {ps : List MemPlace}, (∀ t ∈ ts, P.readableRec t = true ∧ t < P.types.size) →
      DataW.TrodAll enc P W 0 (fun _ => true) true ts vs ds ps → (∀ x ∈ ps, x.block < W.heap.size) → (∀ x ∈ ps, sp x.block = true) → DataW.TrodAll enc P W' 0 sp true ts vs ds ps
  | [], vs, ds, ps, _, h, _, _ => by
    obtain ⟨rfl, rfl, rfl⟩ := trodAll_nil h
    exact trodAll_mk0
  | t :: ts, vs, ds, ps, hr, h, hlt, hs => by
    obtain ⟨v, vs', d, ds', p, q, rfl, rfl, rfl, h0, h1⟩ := trodAll_cons h
    have r := hr t (List.mem_cons_self ..)
    exact trodAll_cons_mk (WideElems.Trod_stays hl r.1 r.2 h0 (fun x hx => hb.same (hlt x (List.mem_append_left _ hx))) (fun x hx => hs x (List.mem_append_left _ hx)))
      (trodAll_keep hl hb (fun u hu => hr u (List.mem_cons_of_mem _ hu)) h1 (fun x hx => hlt x (List.mem_append_right _ hx)) (fun x hx => hs x (List.mem_append_right _ hx)))

/-- The row's end of a law: it answered true, and nothing that was there has turned. -/
theorem law_post {f : Func} {s : ChangeSpec} {tb : TypeId} (hl : laidOutB P = true) (hr : ∀ t ∈ f.params.toList, P.readableRec t = true ∧ t < P.types.size)
    (hres : f.resultTypes = #[tb]) (htb : P.underlying tb = some .bool) {W W' : World} {args : Array Value} {ds gs : List (DataW H)} {before : List MemPlace}
    (hvars : s.vars = []) (hfn : s.fn H ds = { results := [.lit (.bool true)], args := ds })
    (hW : DataW.Whole enc P f.params.toList s.vars false W args.toList ds gs before) (hb : Below W.heap.size W W') :
    s.post enc P f false true false false W args (.bool true) W' := by
  have hlt : ∀ p ∈ before, p.block < W.heap.size := fun p hp => hW.lt p hp
  have hW0 := hW
  obtain ⟨p, q, hA, hV, hpq, hz, _⟩ := hW
  rw [hvars] at hV
  obtain ⟨rfl, rfl⟩ := trodVars_none hV
  simp only [List.append_nil] at hpq
  subst hpq
  refine ⟨ds, [], before, [], before, [], hW0, ?_, ?_, ?_, World.keptBut_mono (fun x hx => ⟨hx, .inr (.inl hx)⟩) (hb.frame (· ∈ before)), fun h => by cases h⟩
  · rw [List.append_nil, hfn, hres]
    exact trodAll_mk1 (shut_bool htb _)
  · rw [List.append_nil, hfn]
    exact trodAll_keep hl hb hr hA hlt (fun x hx => by simpa using hlt x hx)
  · rw [List.append_nil, hfn, hvars]
    exact rfl
end
end Go.Proofs.YtkchckeecfalhaaGreat

-- NvRow
/-
  What the rows over nets share.
-/
namespace Go.Proofs.YtkchckeecfalhaaGreat
open Go.ChangeShapes Go.WideShapes Go.ChangeAt Go.RowKit Go.Joins Go.Deep
set_option maxRecDepth 100000

theorem row_own : ownKnob Tryz.prog.godebug = none := by kernel_rfl
theorem row_laidOut : laidOutB Tryz.prog = true := by kernel_rfl
end Go.Proofs.YtkchckeecfalhaaGreat

-- NvFacD
/-
  NetDown: the closed facts of its row, one by one.
-/
namespace Go.Proofs.YtkchckeecfalhaaGreat
open Go
theorem netDown_two {a b : Bool} (h : a = true) (k : b = true) : (a && b) = true := by rw [h, k]; rfl
set_option maxRecDepth 100000 in
set_option maxHeartbeats 20000000 in
theorem netDown_closed : joinedFacts Tryz.prog 5 Tryz.f5 Rows.netDownSpec Rows.netDownRow = true := by
  delta joinedFacts
  repeat' with_reducible refine netDown_two ?_ ?_
  all_goals as_aux_lemma => kernel_rfl
end Go.Proofs.YtkchckeecfalhaaGreat

-- NetDown
/-
  NetDown: whatever a link costs, whether a machine ran ahead of that or not: a machine that doesn't run neither ticks nor hears nor owns; when it runs again its links are those of the net. No condition.
-/
namespace Go.Proofs.YtkchckeecfalhaaGreat
open Go.ChangeShapes Go.WideShapes Go.ChangeAt Go.RowKit Go.Joins

set_option maxRecDepth 100000 in
theorem down_lifted (os : Os) (started : os.Started) (H : Type) (enc : TypeId × Value → H) :
    ReturnsInHanded {} Tryz.checked os 5 .any (Rows.netDownSpec.pre6 enc Tryz.prog Tryz.f5 Rows.netDownRow.domain false) (Rows.netDownSpec.post enc Tryz.prog Tryz.f5 false true false false) := by
  refine returnsInHanded_of_change (C := Tryz.checked) row_own started (by kernel_rfl) Tryz.func5
    (ChangeSpec.witness6 (enc := enc) (C := Tryz.checked) false ⟨#[], #[.int .i64 0, .bool false], []⟩ 8 (by kernel_rfl) (by kernel_rfl) (by kernel_rfl) (by kernel_rfl)) ?_
  intro W base args ds gs before hval0 hW hcnd _
  have hval : ∀ (j : Nat) t v, Tryz.f5.params[j]? = some t → args[j]? = some v → Value.okWide Tryz.prog W .any base t v := hval0
  obtain ⟨p, q, hA0, hV, rfl, hfz, hnd⟩ := id hW
  have hA : DataW.TrodAll enc Tryz.prog W 0 (fun _ => true) true Tryz.f5.params.toList args.toList ds p := hA0
  rw [Tryz.params5] at hA hval
  obtain ⟨v0, vs0, d0, ds0, p0, q0, hargs, rfl, rfl, h0, r0⟩ := trodAll_cons hA
  obtain ⟨v1, vs1, d1, ds1, p1, q1, rfl, rfl, rfl, h1, r1⟩ := trodAll_cons r0
  obtain ⟨rfl, rfl, rfl⟩ := trodAll_nil r1
  obtain rfl : args = #[v0, v1] := by cases args; simp_all
  obtain ⟨a, rfl, -, -, -⟩ := open_int Tryz.underlying3 (hval 0 3 v0 rfl rfl) h0
  obtain ⟨b, rfl, -⟩ := open_bool Tryz.underlying4 (hval 1 4 v1 rfl rfl) h1
  refine (down_walk a b W).mono fun e W' ⟨he, hb⟩ => ?_
  subst he
  exact ⟨_, rfl, law_post row_laidOut (by rw [Tryz.params5]; decide +kernel) rfl Tryz.underlying4 rfl rfl hW hb⟩

theorem netDown_holds : Rows.NetDownSaid :=
  OpenClaim.holds_of_wide 5 Tryz.f5 rfl rfl rfl rfl rfl rfl rfl ⟨rfl, rfl, rfl, rfl, rfl⟩ rfl rfl rfl rfl rfl (by kernel_rfl) Tryz.func5 netDown_closed
    (of_decide_eq_true (by kernel_rfl)) (by unfold Func.isWrapper; first | (rw [if_pos (by decide +kernel)]; kernel_rfl) | (rw [if_neg (by decide +kernel)]; exact ⟨rfl, rfl⟩))
    (fun os started H enc _ => down_lifted os started H enc)
#print axioms netDown_holds
end Go.Proofs.YtkchckeecfalhaaGreat

