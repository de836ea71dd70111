/-
  The statement's Shows: its first function literal.
-/
import Derived.Test.YtncliolkdkofhaaStQ
import Derived.Test.YtncliolkdkofhaaStO
namespace Go.Proofs.Ytncliolkdkofhaa
open Go.RowKit Rm

theorem Blk.ne {t t' : TypeId} {w : World} {g g' : Nat} {C C' : Array Value} (h : Blk t w g C) (k : Blk t' w g' C') (ht : t ≠ t') : g ≠ g' := by
  rintro rfl
  unfold Blk at h k
  rw [h] at k
  cases k
  exact ht rfl
theorem wrap64_small {z : Int} (h0 : 0 ≤ z) (h1 : z ≤ 1000000) : IntKind.i64.wrap z = z := by
  simp only [IntKind.wrap_i64]
  omega

/-- what the first literal makes of its variables -/
def Sh1 (W W' : World) (Bok Bn Bl : Nat) (c : Bool) (k : Nat) (la : Nat) (ln : Int) : Prop :=
  Blk 4 W' Bok #[.bool c] ∧ Blk 3 W' Bn #[.int .i64 k] ∧ Blk 32 W' Bl #[.int .u32 la, .int .i64 ln] ∧ Turn [Bok, Bn, Bl] W W'

set_option maxHeartbeats 2000000 in
theorem shows1_no {W : World} {sd : Nat} {o fl : Option Nat} {id lease n m : Nat} {own : Pk → Option Bool} {floor : Ky → Option (Nat × Nat)} (hS : St W sd o fl id lease n m own floor)
    {md mo mf mid mlease mn mm : Nat} {mfloor : Ky → Option (Nat × Nat)} (hM : Md W md mo mf mid mlease mn mm own mfloor) {Bm Bs Bok Bn Bl k la : Nat} {ln : Int} 
    (bm : Blk 28 W Bm #[.pointer (some ⟨md, 0, none⟩)]) (bs : Blk 26 W Bs #[.pointer (some ⟨sd, 0, none⟩)]) (bo : Blk 4 W Bok #[.bool false]) (bn : Blk 3 W Bn #[.int .i64 k]) (bl : Blk 32 W Bl #[.int .u32 la, .int .i64 ln]) (hk : k ≤ 100000)
    {xa : Nat} {xn : Int} (hok : Pk.ok ⟨xa, xn⟩) {y : Bool} (hy : own ⟨xa, xn⟩ = some y) :
    Calls Try.prog 26 #[.agg #[.int .u32 xa, .int .i64 xn], .bool y, .pointer (some ⟨Bm, 0, none⟩), .pointer (some ⟨Bs, 0, none⟩), .pointer (some ⟨Bok, 0, none⟩), .pointer (some ⟨Bn, 0, none⟩), .pointer (some ⟨Bl, 0, none⟩)] W fun e W' =>
      e = .returned (.bool true) ∧ Sh1 W W' Bok Bn Bl false (k + 1) xa xn := by
  have hb := below_new W (.cells #[.int .u32 xa, .int .i64 xn] 32)
  have hz := size_new W (.cells #[.int .u32 xa, .int .i64 xn] 32)
  have PB := Blk.new W 32 #[.int .u32 xa, .int .i64 xn]
  have n1 := bo.ne bn (by decide)
  have n2 := bo.ne bl (by decide)
  have n3 := bn.ne bl (by decide)
  have l1 := bo.lt
  have l2 := bn.lt
  have l3 := bl.lt
  have m2 := hM.head.at_ 2
  go_enter Try.func26, Try.ntmps26
  go_wp2_with fail
  generalize W.alloc (.cells #[.int .u32 xa, .int .i64 xn] 32) = w at *
  have LK := (Mk.of_block (w' := w.drew) (hM.owns.held hb) rfl).look_ok (t := 48) (e := 4) (by kernel_rfl) (z := .bool false) (by kernel_rfl) (i := ⟨xa, xn⟩) hok
  rw [hy] at LK
  replace LK : (Instr.lookup 48 (.map (some mo)) (.agg #[.int .u32 xa, .int .i64 xn]) true).run Try.prog w.drew = .ok (.tuple #[.bool y, .bool true]) w.drew := LK
  have cm := held hb (bm.at_ 0)
  have cm2 := held hb m2
  have p0 := PB.at_ 0
  have p1 := PB.at_ 1
  have mdl := (hM.head.held hb).lt
  have HO := Lib.hid (own_any (((hS.held hb).drew)) hok (v := y) (ok := true) (by rw [hy]; rfl) (by rw [hy]; rfl))
  have REST := Lib.hid (And.intro hb (And.intro bs (And.intro bo (And.intro bn bl))))
  clear hS hM bm bs bo bn bl hy m2 hb
  go_region_held3 (fun w' => w' = w.drew ∧ w'.cell? ⟨Bm, 0, none⟩ = some (.pointer (some ⟨md, 0, none⟩)) ∧ w'.cell? ⟨md, 2, none⟩ = some (.map (some mo)) ∧ w'.cell? ⟨W.heap.size, 0, none⟩ = some (.int .u32 xa) ∧ w'.cell? ⟨W.heap.size, 1, none⟩ = some (.int .i64 xn)) (go_keep) (fail)
  have d1 := REST.out.1.drew
  have cs := held d1 (REST.out.2.1.at_ 0)
  have PD := PB.drew
  have q0 := PD.at_ 0
  have q1 := PD.at_ 1
  clear LK cm cm2 p0 p1
  generalize w.drew = v at *
  go_wp2_with fail
  refine HO.out.mono ?_
  rintro e w2 ⟨rfl, hb2⟩
  have D2 := next d1 hb2
  obtain ⟨-, -, bo, bn, bl⟩ := REST.out
  have bo2 := bo.held D2
  have bn2 := bn.held D2
  have bl2 := bl.held D2
  have P2 := PD.held hb2
  have np : W.heap.size ≠ Bok := by omega
  have np2 : W.heap.size ≠ Bn := by omega
  have np3 : W.heap.size ≠ Bl := by omega
  have n1' := Ne.symm n1
  have n2' := Ne.symm n2
  have n3' := Ne.symm n3
  have o0 := bo2.at_ 0
  have of0 := bo2.free 0
  have k0 := bn2.at_ 0
  have kf0 := bn2.free 0
  have l0 := bl2.at_ 0
  have l1c := bl2.at_ 1
  have lf0 := bl2.free 0
  have lf1 := bl2.free 1
  have x0 := P2.at_ 0
  have x1 := P2.at_ 1
  have wr := wrap64_small (z := (k : Int) + 1) (by omega) (by omega)
  have ALL := Lib.hid (And.intro D2 (And.intro bo2 (And.intro bn2 (And.intro bl2 P2))))
  clear REST HO q0 q1 cs PD D2 bo bn bl bo2 bn2 bl2 P2 hb2 d1

  go_wp2_with fail
  go_ret
  obtain ⟨D2, bo2, bn2, bl2, -⟩ := ALL.out
  refine ⟨rfl, ?_, ?_, ?_, ?_⟩
  · exact (((bo2.store 0 _).away n2 _).away n2 _).away n1 _
  · rw [show (((k + 1 : Nat)) : Int) = (k : Int) + 1 from by omega]
    exact (((bn2.away n1' _).away n3 _).away n3 _).store 0 _
  · exact (((bl2.away n2' _).store 0 (.int .u32 xa)).store 1 (.int .i64 xn)).away n3' _
  · exact (Turn.of_below _ D2).trans ((((Turn.setCell _ (p := ⟨Bok, 0, none⟩) (by simp) _).trans (Turn.setCell _ (p := ⟨Bl, 0, none⟩) (by simp) _)).trans (Turn.setCell _ (p := ⟨Bl, 1, none⟩) (by simp) _)).trans (Turn.setCell _ (p := ⟨Bn, 0, none⟩) (by simp) _))

set_option maxHeartbeats 2000000 in
theorem shows1_first {W : World} {sd : Nat} {o fl : Option Nat} {id lease n m : Nat} {own : Pk → Option Bool} {floor : Ky → Option (Nat × Nat)} (hS : St W sd o fl id lease n m own floor)
    {md mo mf mid mlease mn mm : Nat} {mfloor : Ky → Option (Nat × Nat)} (hM : Md W md mo mf mid mlease mn mm own mfloor) {Bm Bs Bok Bn Bl k la : Nat} {ln : Int} (hk0 : ((k : Int) == 0) = true)
    (bm : Blk 28 W Bm #[.pointer (some ⟨md, 0, none⟩)]) (bs : Blk 26 W Bs #[.pointer (some ⟨sd, 0, none⟩)]) (bo : Blk 4 W Bok #[.bool true]) (bn : Blk 3 W Bn #[.int .i64 k]) (bl : Blk 32 W Bl #[.int .u32 la, .int .i64 ln]) (hk : k ≤ 100000)
    {xa : Nat} {xn : Int} (hok : Pk.ok ⟨xa, xn⟩) {y : Bool} (hy : own ⟨xa, xn⟩ = some y) :
    Calls Try.prog 26 #[.agg #[.int .u32 xa, .int .i64 xn], .bool y, .pointer (some ⟨Bm, 0, none⟩), .pointer (some ⟨Bs, 0, none⟩), .pointer (some ⟨Bok, 0, none⟩), .pointer (some ⟨Bn, 0, none⟩), .pointer (some ⟨Bl, 0, none⟩)] W fun e W' =>
      e = .returned (.bool true) ∧ Sh1 W W' Bok Bn Bl true (k + 1) xa xn := by
  have hb := below_new W (.cells #[.int .u32 xa, .int .i64 xn] 32)
  have hz := size_new W (.cells #[.int .u32 xa, .int .i64 xn] 32)
  have PB := Blk.new W 32 #[.int .u32 xa, .int .i64 xn]
  have n1 := bo.ne bn (by decide)
  have n2 := bo.ne bl (by decide)
  have n3 := bn.ne bl (by decide)
  have l1 := bo.lt
  have l2 := bn.lt
  have l3 := bl.lt
  have m2 := hM.head.at_ 2
  go_enter Try.func26, Try.ntmps26
  go_wp2_with fail
  generalize W.alloc (.cells #[.int .u32 xa, .int .i64 xn] 32) = w at *
  have LK := (Mk.of_block (w' := w.drew) (hM.owns.held hb) rfl).look_ok (t := 48) (e := 4) (by kernel_rfl) (z := .bool false) (by kernel_rfl) (i := ⟨xa, xn⟩) hok
  rw [hy] at LK
  replace LK : (Instr.lookup 48 (.map (some mo)) (.agg #[.int .u32 xa, .int .i64 xn]) true).run Try.prog w.drew = .ok (.tuple #[.bool y, .bool true]) w.drew := LK
  have cm := held hb (bm.at_ 0)
  have cm2 := held hb m2
  have p0 := PB.at_ 0
  have p1 := PB.at_ 1
  have mdl := (hM.head.held hb).lt
  have HO := Lib.hid (own_any (((hS.held hb).drew)) hok (v := y) (ok := true) (by rw [hy]; rfl) (by rw [hy]; rfl))
  have REST := Lib.hid (And.intro hb (And.intro bs (And.intro bo (And.intro bn bl))))
  clear hS hM bm bs bo bn bl hy m2 hb
  go_region_held3 (fun w' => w' = w.drew ∧ w'.cell? ⟨Bm, 0, none⟩ = some (.pointer (some ⟨md, 0, none⟩)) ∧ w'.cell? ⟨md, 2, none⟩ = some (.map (some mo)) ∧ w'.cell? ⟨W.heap.size, 0, none⟩ = some (.int .u32 xa) ∧ w'.cell? ⟨W.heap.size, 1, none⟩ = some (.int .i64 xn)) (go_keep) (fail)
  have d1 := REST.out.1.drew
  have cs := held d1 (REST.out.2.1.at_ 0)
  have PD := PB.drew
  have q0 := PD.at_ 0
  have q1 := PD.at_ 1
  clear LK cm cm2 p0 p1
  generalize w.drew = v at *
  go_wp2_with fail
  refine HO.out.mono ?_
  rintro e w2 ⟨rfl, hb2⟩
  have D2 := next d1 hb2
  obtain ⟨-, -, bo, bn, bl⟩ := REST.out
  have bo2 := bo.held D2
  have bn2 := bn.held D2
  have bl2 := bl.held D2
  have P2 := PD.held hb2
  have np : W.heap.size ≠ Bok := by omega
  have np2 : W.heap.size ≠ Bn := by omega
  have np3 : W.heap.size ≠ Bl := by omega
  have n1' := Ne.symm n1
  have n2' := Ne.symm n2
  have n3' := Ne.symm n3
  have o0 := bo2.at_ 0
  have of0 := bo2.free 0
  have k0 := bn2.at_ 0
  have kf0 := bn2.free 0
  have l0 := bl2.at_ 0
  have l1c := bl2.at_ 1
  have lf0 := bl2.free 0
  have lf1 := bl2.free 1
  have x0 := P2.at_ 0
  have x1 := P2.at_ 1
  have wr := wrap64_small (z := (k : Int) + 1) (by omega) (by omega)
  have ALL := Lib.hid (And.intro D2 (And.intro bo2 (And.intro bn2 (And.intro bl2 P2))))
  clear REST HO q0 q1 cs PD D2 bo bn bl bo2 bn2 bl2 P2 hb2 d1

  go_wp2_with fail
  go_ret
  obtain ⟨D2, bo2, bn2, bl2, -⟩ := ALL.out
  refine ⟨rfl, ?_, ?_, ?_, ?_⟩
  · exact (((bo2.store 0 _).away n2 _).away n2 _).away n1 _
  · rw [show (((k + 1 : Nat)) : Int) = (k : Int) + 1 from by omega]
    exact (((bn2.away n1' _).away n3 _).away n3 _).store 0 _
  · exact (((bl2.away n2' _).store 0 (.int .u32 xa)).store 1 (.int .i64 xn)).away n3' _
  · exact (Turn.of_below _ D2).trans ((((Turn.setCell _ (p := ⟨Bok, 0, none⟩) (by simp) _).trans (Turn.setCell _ (p := ⟨Bl, 0, none⟩) (by simp) _)).trans (Turn.setCell _ (p := ⟨Bl, 1, none⟩) (by simp) _)).trans (Turn.setCell _ (p := ⟨Bn, 0, none⟩) (by simp) _))

set_option maxHeartbeats 2000000 in
theorem shows1_next {W : World} {sd : Nat} {o fl : Option Nat} {id lease n m : Nat} {own : Pk → Option Bool} {floor : Ky → Option (Nat × Nat)} (hS : St W sd o fl id lease n m own floor)
    {md mo mf mid mlease mn mm : Nat} {mfloor : Ky → Option (Nat × Nat)} (hM : Md W md mo mf mid mlease mn mm own mfloor) {Bm Bs Bok Bn Bl k la : Nat} {ln : Int} (hk0 : ((k : Int) == 0) = false) {r : Bool}
    (bm : Blk 28 W Bm #[.pointer (some ⟨md, 0, none⟩)]) (bs : Blk 26 W Bs #[.pointer (some ⟨sd, 0, none⟩)]) (bo : Blk 4 W Bok #[.bool true]) (bn : Blk 3 W Bn #[.int .i64 k]) (bl : Blk 32 W Bl #[.int .u32 la, .int .i64 ln]) (hk : k ≤ 100000)
    {xa : Nat} {xn : Int} (hok : Pk.ok ⟨xa, xn⟩) {y : Bool} (hy : own ⟨xa, xn⟩ = some y) (hr : Om.less la ln xa xn = r) :
    Calls Try.prog 26 #[.agg #[.int .u32 xa, .int .i64 xn], .bool y, .pointer (some ⟨Bm, 0, none⟩), .pointer (some ⟨Bs, 0, none⟩), .pointer (some ⟨Bok, 0, none⟩), .pointer (some ⟨Bn, 0, none⟩), .pointer (some ⟨Bl, 0, none⟩)] W fun e W' =>
      e = .returned (.bool true) ∧ Sh1 W W' Bok Bn Bl r (k + 1) xa xn := by
  have hb := below_new W (.cells #[.int .u32 xa, .int .i64 xn] 32)
  have hz := size_new W (.cells #[.int .u32 xa, .int .i64 xn] 32)
  have PB := Blk.new W 32 #[.int .u32 xa, .int .i64 xn]
  have n1 := bo.ne bn (by decide)
  have n2 := bo.ne bl (by decide)
  have n3 := bn.ne bl (by decide)
  have l1 := bo.lt
  have l2 := bn.lt
  have l3 := bl.lt
  have m2 := hM.head.at_ 2
  go_enter Try.func26, Try.ntmps26
  go_wp2_with fail
  generalize W.alloc (.cells #[.int .u32 xa, .int .i64 xn] 32) = w at *
  have LK := (Mk.of_block (w' := w.drew) (hM.owns.held hb) rfl).look_ok (t := 48) (e := 4) (by kernel_rfl) (z := .bool false) (by kernel_rfl) (i := ⟨xa, xn⟩) hok
  rw [hy] at LK
  replace LK : (Instr.lookup 48 (.map (some mo)) (.agg #[.int .u32 xa, .int .i64 xn]) true).run Try.prog w.drew = .ok (.tuple #[.bool y, .bool true]) w.drew := LK
  have cm := held hb (bm.at_ 0)
  have cm2 := held hb m2
  have p0 := PB.at_ 0
  have p1 := PB.at_ 1
  have mdl := (hM.head.held hb).lt
  have HO := Lib.hid (own_any (((hS.held hb).drew)) hok (v := y) (ok := true) (by rw [hy]; rfl) (by rw [hy]; rfl))
  have REST := Lib.hid (And.intro hb (And.intro bs (And.intro bo (And.intro bn bl))))
  clear hS hM bm bs bo bn bl hy m2 hb
  go_region_held3 (fun w' => w' = w.drew ∧ w'.cell? ⟨Bm, 0, none⟩ = some (.pointer (some ⟨md, 0, none⟩)) ∧ w'.cell? ⟨md, 2, none⟩ = some (.map (some mo)) ∧ w'.cell? ⟨W.heap.size, 0, none⟩ = some (.int .u32 xa) ∧ w'.cell? ⟨W.heap.size, 1, none⟩ = some (.int .i64 xn)) (go_keep) (fail)
  have d1 := REST.out.1.drew
  have cs := held d1 (REST.out.2.1.at_ 0)
  have PD := PB.drew
  have q0 := PD.at_ 0
  have q1 := PD.at_ 1
  clear LK cm cm2 p0 p1
  generalize w.drew = v at *
  go_wp2_with fail
  refine HO.out.mono ?_
  rintro e w2 ⟨rfl, hb2⟩
  have D2 := next d1 hb2
  obtain ⟨-, -, bo, bn, bl⟩ := REST.out
  have bo2 := bo.held D2
  have bn2 := bn.held D2
  have bl2 := bl.held D2
  have P2 := PD.held hb2
  have np : W.heap.size ≠ Bok := by omega
  have np2 : W.heap.size ≠ Bn := by omega
  have np3 : W.heap.size ≠ Bl := by omega
  have n1' := Ne.symm n1
  have n2' := Ne.symm n2
  have n3' := Ne.symm n3
  have o0 := bo2.at_ 0
  have of0 := bo2.free 0
  have k0 := bn2.at_ 0
  have kf0 := bn2.free 0
  have l0 := bl2.at_ 0
  have l1c := bl2.at_ 1
  have lf0 := bl2.free 0
  have lf1 := bl2.free 1
  have x0 := P2.at_ 0
  have x1 := P2.at_ 1
  have wr := wrap64_small (z := (k : Int) + 1) (by omega) (by omega)
  have ALL := Lib.hid (And.intro D2 (And.intro bo2 (And.intro bn2 (And.intro bl2 P2))))
  clear REST HO q0 q1 cs PD D2 bo bn bl bo2 bn2 bl2 P2 hb2 d1
  go_wp2_with fail
  have hl := less2_any la ln xa xn w2
  rw [hr] at hl
  refine hl.mono ?_
  rintro e w3 ⟨rfl, hb3⟩
  clear hl o0 of0 k0 kf0 l0 l1c lf0 lf1 x0 x1
  obtain ⟨D2, bo2, bn2, bl2, P2⟩ := ALL.out
  have D3 := next D2 hb3
  have bo3 := bo2.held hb3
  have bn3 := bn2.held hb3
  have bl3 := bl2.held hb3
  have P3 := P2.held hb3
  have o0 := bo3.at_ 0
  have of0 := bo3.free 0
  have k0 := bn3.at_ 0
  have kf0 := bn3.free 0
  have lf0 := bl3.free 0
  have lf1 := bl3.free 1
  have l0 := bl3.at_ 0
  have l1c := bl3.at_ 1
  have x0 := P3.at_ 0
  have x1 := P3.at_ 1
  clear D2 bo2 bn2 bl2 P2 hb3 ALL
  have ALL := Lib.hid (And.intro D3 (And.intro bo3 (And.intro bn3 (And.intro bl3 P3))))
  clear D3 bo3 bn3 bl3 P3

  go_wp2_with fail
  go_ret
  obtain ⟨D2, bo2, bn2, bl2, -⟩ := ALL.out
  refine ⟨rfl, ?_, ?_, ?_, ?_⟩
  · exact (((bo2.store 0 _).away n2 _).away n2 _).away n1 _
  · rw [show (((k + 1 : Nat)) : Int) = (k : Int) + 1 from by omega]
    exact (((bn2.away n1' _).away n3 _).away n3 _).store 0 _
  · exact (((bl2.away n2' _).store 0 (.int .u32 xa)).store 1 (.int .i64 xn)).away n3' _
  · exact (Turn.of_below _ D2).trans ((((Turn.setCell _ (p := ⟨Bok, 0, none⟩) (by simp) _).trans (Turn.setCell _ (p := ⟨Bl, 0, none⟩) (by simp) _)).trans (Turn.setCell _ (p := ⟨Bl, 1, none⟩) (by simp) _)).trans (Turn.setCell _ (p := ⟨Bn, 0, none⟩) (by simp) _))
end Go.Proofs.Ytncliolkdkofhaa
