/-
  The statement's Shows: its second function literal.
  The statement's Shows: what its function literals make of the iterators.
-/
import Derived.Test.YtpgcnjoodoabhaaGreatS12
namespace Go.Proofs.YtpgcnjoodoabhaaGreat
open Go.RowKit Rm
variable {tS : TypeId} {XS : List Value}

/-- what the second literal makes of its variables -/
def Sh2 (W W' : World) (Bok Bn Bl : Nat) (c : Bool) (k : Nat) (la : Nat) (ln : Int) (li : Nat) : Prop :=
  Blk 4 W' Bok #[.bool c] ∧ Blk 3 W' Bn #[.int .i64 k] ∧ Blk 90 W' Bl #[.int .u32 la, .int .i64 ln, .int .u32 li] ∧ Turn [Bok, Bn, Bl] W W'

set_option maxHeartbeats 8000000 in
theorem shows2_first {W : World} {sd : Nat} {o fl : Option Nat} {id lease n m : Nat} {own : Pk → Option Bool} {floor : Ky → Option (Nat × Nat)} (hS : St tS XS W sd o fl id lease n m own floor)
    {md mo mf mid mlease mn mm : Nat} {mown : Pk → Option Bool} (hM : Md W md mo mf mid mlease mn mm mown floor) {Bm Bs Bok Bn Bl k la li : Nat} {ln : Int} {c : Bool}
    (bm : Blk 32 W Bm #[.pointer (some ⟨md, 0, none⟩)]) (bs : Blk 43 W Bs #[.pointer (some ⟨sd, 0, none⟩)]) (bo : Blk 4 W Bok #[.bool c]) (bn : Blk 3 W Bn #[.int .i64 k]) (bl : Blk 90 W Bl #[.int .u32 la, .int .i64 ln, .int .u32 li]) (hk : k ≤ 100000)
    {xa xi : Nat} {xn : Int} (hok : Ky.ok ⟨xa, xn, xi⟩) {s x : Nat} (hy : floor ⟨xa, xn, xi⟩ = some (s, x)) (hkb : ((k : Int) == 0) = true) :
    Calls Tryz.prog 42 #[.agg #[.int .u32 xa, .int .i64 xn, .int .u32 xi], .agg #[.int .u32 s, .int .u16 x], .pointer (some ⟨Bm, 0, none⟩), .pointer (some ⟨Bs, 0, none⟩), .pointer (some ⟨Bn, 0, none⟩), .pointer (some ⟨Bl, 0, none⟩), .pointer (some ⟨Bok, 0, none⟩)] W fun e W' =>
      e = .returned (.bool true) ∧ Sh2 W W' Bok Bn Bl (c && true) (k + 1) xa xn xi := by
  have hb := next (below_new W (.cells #[.int .u32 xa, .int .i64 xn, .int .u32 xi] 90)) (below_new _ (.cells #[.int .u32 s, .int .u16 x] 39))
  have hz : ((W.alloc (.cells #[.int .u32 xa, .int .i64 xn, .int .u32 xi] 90)).alloc (.cells #[.int .u32 s, .int .u16 x] 39)).heap.size = W.heap.size + 2 := by rw [size_new, size_new]
  have PB := (Blk.new W 90 #[.int .u32 xa, .int .i64 xn, .int .u32 xi]).more (.cells #[.int .u32 s, .int .u16 x] 39)
  have DB := Blk.new (W.alloc (.cells #[.int .u32 xa, .int .i64 xn, .int .u32 xi] 90)) 39 #[.int .u32 s, .int .u16 x]
  rw [size_new] at DB
  have n1 := bo.ne bn (by decide)
  have n2 := bo.ne bl (by decide)
  have n3 := bn.ne bl (by decide)
  have l1 := bo.lt
  have l2 := bn.lt
  have l3 := bl.lt
  have m2 := hM.head.at_ 3
  have mlt := hM.head.lt
  have Bmlt := bm.lt
  go_enter Tryz.func42, Tryz.ntmps42
  go_wp2_with fail
  generalize (W.alloc (.cells #[.int .u32 xa, .int .i64 xn, .int .u32 xi] 90)).alloc (.cells #[.int .u32 s, .int .u16 x] 39) = w at *
  have hlook : ∀ w', Below w.heap.size w w' → (Instr.lookup 69 (.map (some mf)) (.agg #[.int .u32 xa, .int .i64 xn, .int .u32 xi]) true).run Tryz.prog w' = .ok (.tuple #[.agg #[.int .u32 s, .int .u16 x], .bool true]) w' := fun w' hw => by
    have LK := ((hM.floors.held hb).held hw).look_ok (t := 69) (e := 39) (by kernel_rfl) (zero_dist _) (i := ⟨xa, xn, xi⟩) hok
    rw [hy] at LK
    exact LK
  have LK1 := hlook w.drew (Below.refl _ _).drew
  have LK2 := hlook (w.alloc (.cells #[.int .u32 0, .int .u16 0] 39)).drew (below_new _ _).drew
  have cm := held hb (bm.at_ 0)
  have cm2 := held hb m2
  have p0 := PB.at_ 0
  have p1 := PB.at_ 1
  have p2 := PB.at_ 2
  have cm' := held (below_new w (.cells #[.int .u32 0, .int .u16 0] 39)) cm
  have cm2' := held (below_new w (.cells #[.int .u32 0, .int .u16 0] 39)) cm2
  have p0' := held (below_new w (.cells #[.int .u32 0, .int .u16 0] 39)) p0
  have p1' := held (below_new w (.cells #[.int .u32 0, .int .u16 0] 39)) p1
  have p2' := held (below_new w (.cells #[.int .u32 0, .int .u16 0] 39)) p2
  have HS := Lib.hid (fun w' (hw : Below w.heap.size w w') => floor_any ((hS.held hb).held hw) hok (s := s) (x := x) (ok := true) (by rw [hy]; rfl) (by rw [hy]; rfl))
  have REST := Lib.hid (And.intro hb (And.intro bs (And.intro bo (And.intro bn (And.intro bl (And.intro PB DB))))))
  have g1 : md < w.heap.size := by have := hb.size; omega
  have g2 : Bm < w.heap.size := by have := hb.size; omega
  have g3 : W.heap.size < w.heap.size := by omega
  clear hS hM bm bs bo bn bl hy m2 hb hlook mlt Bmlt PB DB
  go_region
  all_goals
    have hbX := (below_new w (.cells #[.int .u32 s, .int .u16 x] 39)).drew
    have XB := (Blk.new w 39 #[.int .u32 s, .int .u16 x]).drew
    have hzX : (w.alloc (.cells #[.int .u32 s, .int .u16 x] 39)).drew.heap.size = W.heap.size + 3 := by show (w.alloc _).heap.size = _; rw [size_new, hz]
    rw [hz] at XB
    obtain ⟨hb, bs, bo, bn, bl, PB, DB⟩ := REST.out
    have cs := held (next hb hbX) (bs.at_ 0)
    have PX := PB.held hbX
    have DX := DB.held hbX
    have q0 := PX.at_ 0
    have q1 := PX.at_ 1
    have q2 := PX.at_ 2
    have HF := HS.out _ hbX
    have DD := next hb hbX
    clear LK1 LK2 cm cm2 p0 p1 p2 cm' cm2' p0' p1' p2' HS REST hbX PB DB hb bs g1 g2 g3
    generalize (w.alloc (.cells #[.int .u32 s, .int .u16 x] 39)).drew = v at *
    go_wp2_with fail
    refine HF.mono ?_
    rintro e w2 ⟨rfl, hb2⟩
    have D2 := next DD hb2
    have hzF := hb2.size
    have D3 := next D2 (below_new w2 (.cells #[.int .u32 s, .int .u16 x] 39))
    have bo3 := bo.held D3
    have bn3 := bn.held D3
    have bl3 := bl.held D3
    have P3 := (PX.held hb2).more (.cells #[.int .u32 s, .int .u16 x] 39)
    have DB3 := (DX.held hb2).more (.cells #[.int .u32 s, .int .u16 x] 39)
    have X3 := (XB.held hb2).more (.cells #[.int .u32 s, .int .u16 x] 39)
    have F3 := Blk.new w2 39 #[.int .u32 s, .int .u16 x]
    have ALL := Lib.hid (And.intro D3 (And.intro bo3 (And.intro bn3 (And.intro bl3 (And.intro P3 (And.intro DB3 (And.intro X3 F3)))))))
    have n1' := Ne.symm n1
    have n2' := Ne.symm n2
    have n3' := Ne.symm n3
    have np1 : W.heap.size ≠ Bok := by omega
    have np2 : W.heap.size ≠ Bn := by omega
    have np3 : W.heap.size ≠ Bl := by omega
    have wr := wrap64_small (z := (k : Int) + 1) (by omega) (by omega)
    clear HF q0 q1 q2 cs PX DX XB DD hb2 D2 bo bn bl
    have o0 := bo3.at_ 0
    have of0 := bo3.free 0
    have k0 := bn3.at_ 0
    have kf0 := bn3.free 0
    have l0 := bl3.at_ 0
    have l1c := bl3.at_ 1
    have l2c := bl3.at_ 2
    have lf0 := bl3.free 0
    have lf1 := bl3.free 1
    have lf2 := bl3.free 2
    have x0 := P3.at_ 0
    have x1 := P3.at_ 1
    have x2 := P3.at_ 2
    have d0 := DB3.at_ 0
    have d1 := DB3.at_ 1
    have y0 := X3.at_ 0
    have y1 := X3.at_ 1
    have f0 := F3.at_ 0
    have f1 := F3.at_ 1
    clear bo3 bn3 bl3 P3 DB3 X3 F3
    cases c
    all_goals
      go_wp2_with fail
      go_ret
      obtain ⟨D4, bo4, bn4, bl4, -⟩ := ALL.out
      refine ⟨rfl, ?_, ?_, ?_, ?_⟩
      · exact ((((bo4.store 0 _).away n2 _).away n2 _).away n2 _).away n1 _
      · rw [show (((k + 1 : Nat)) : Int) = (k : Int) + 1 from by omega]
        exact ((((bn4.away n1' _).away (p := ⟨Bl, 0, none⟩) n3 _).away (p := ⟨Bl, 1, none⟩) n3 _).away (p := ⟨Bl, 2, none⟩) n3 _).store 0 _
      · exact ((((bl4.away n2' _).store 0 (.int .u32 xa)).store 1 (.int .i64 xn)).store 2 (.int .u32 xi)).away n3' _
      · exact (Turn.of_below _ D4).trans (((((Turn.setCell _ (p := ⟨Bok, 0, none⟩) (by simp) _).trans (Turn.setCell _ (p := ⟨Bl, 0, none⟩) (by simp) _)).trans (Turn.setCell _ (p := ⟨Bl, 1, none⟩) (by simp) _)).trans (Turn.setCell _ (p := ⟨Bl, 2, none⟩) (by simp) _)).trans (Turn.setCell _ (p := ⟨Bn, 0, none⟩) (by simp) _))

set_option maxHeartbeats 8000000 in
theorem shows2_less {W : World} {sd : Nat} {o fl : Option Nat} {id lease n m : Nat} {own : Pk → Option Bool} {floor : Ky → Option (Nat × Nat)} (hS : St tS XS W sd o fl id lease n m own floor)
    {md mo mf mid mlease mn mm : Nat} {mown : Pk → Option Bool} (hM : Md W md mo mf mid mlease mn mm mown floor) {Bm Bs Bok Bn Bl k la li : Nat} {ln : Int} {c : Bool}
    (bm : Blk 32 W Bm #[.pointer (some ⟨md, 0, none⟩)]) (bs : Blk 43 W Bs #[.pointer (some ⟨sd, 0, none⟩)]) (bo : Blk 4 W Bok #[.bool c]) (bn : Blk 3 W Bn #[.int .i64 k]) (bl : Blk 90 W Bl #[.int .u32 la, .int .i64 ln, .int .u32 li]) (hk : k ≤ 100000)
    {xa xi : Nat} {xn : Int} (hok : Ky.ok ⟨xa, xn, xi⟩) {s x : Nat} (hy : floor ⟨xa, xn, xi⟩ = some (s, x)) (hkb : ((k : Int) == 0) = false) (hr : Om.less la ln xa xn = true) :
    Calls Tryz.prog 42 #[.agg #[.int .u32 xa, .int .i64 xn, .int .u32 xi], .agg #[.int .u32 s, .int .u16 x], .pointer (some ⟨Bm, 0, none⟩), .pointer (some ⟨Bs, 0, none⟩), .pointer (some ⟨Bn, 0, none⟩), .pointer (some ⟨Bl, 0, none⟩), .pointer (some ⟨Bok, 0, none⟩)] W fun e W' =>
      e = .returned (.bool true) ∧ Sh2 W W' Bok Bn Bl (c && true) (k + 1) xa xn xi := by
  have hb := next (below_new W (.cells #[.int .u32 xa, .int .i64 xn, .int .u32 xi] 90)) (below_new _ (.cells #[.int .u32 s, .int .u16 x] 39))
  have hz : ((W.alloc (.cells #[.int .u32 xa, .int .i64 xn, .int .u32 xi] 90)).alloc (.cells #[.int .u32 s, .int .u16 x] 39)).heap.size = W.heap.size + 2 := by rw [size_new, size_new]
  have PB := (Blk.new W 90 #[.int .u32 xa, .int .i64 xn, .int .u32 xi]).more (.cells #[.int .u32 s, .int .u16 x] 39)
  have DB := Blk.new (W.alloc (.cells #[.int .u32 xa, .int .i64 xn, .int .u32 xi] 90)) 39 #[.int .u32 s, .int .u16 x]
  rw [size_new] at DB
  have n1 := bo.ne bn (by decide)
  have n2 := bo.ne bl (by decide)
  have n3 := bn.ne bl (by decide)
  have l1 := bo.lt
  have l2 := bn.lt
  have l3 := bl.lt
  have m2 := hM.head.at_ 3
  have mlt := hM.head.lt
  have Bmlt := bm.lt
  go_enter Tryz.func42, Tryz.ntmps42
  go_wp2_with fail
  generalize (W.alloc (.cells #[.int .u32 xa, .int .i64 xn, .int .u32 xi] 90)).alloc (.cells #[.int .u32 s, .int .u16 x] 39) = w at *
  have hlook : ∀ w', Below w.heap.size w w' → (Instr.lookup 69 (.map (some mf)) (.agg #[.int .u32 xa, .int .i64 xn, .int .u32 xi]) true).run Tryz.prog w' = .ok (.tuple #[.agg #[.int .u32 s, .int .u16 x], .bool true]) w' := fun w' hw => by
    have LK := ((hM.floors.held hb).held hw).look_ok (t := 69) (e := 39) (by kernel_rfl) (zero_dist _) (i := ⟨xa, xn, xi⟩) hok
    rw [hy] at LK
    exact LK
  have LK1 := hlook w.drew (Below.refl _ _).drew
  have LK2 := hlook (w.alloc (.cells #[.int .u32 0, .int .u16 0] 39)).drew (below_new _ _).drew
  have cm := held hb (bm.at_ 0)
  have cm2 := held hb m2
  have p0 := PB.at_ 0
  have p1 := PB.at_ 1
  have p2 := PB.at_ 2
  have cm' := held (below_new w (.cells #[.int .u32 0, .int .u16 0] 39)) cm
  have cm2' := held (below_new w (.cells #[.int .u32 0, .int .u16 0] 39)) cm2
  have p0' := held (below_new w (.cells #[.int .u32 0, .int .u16 0] 39)) p0
  have p1' := held (below_new w (.cells #[.int .u32 0, .int .u16 0] 39)) p1
  have p2' := held (below_new w (.cells #[.int .u32 0, .int .u16 0] 39)) p2
  have HS := Lib.hid (fun w' (hw : Below w.heap.size w w') => floor_any ((hS.held hb).held hw) hok (s := s) (x := x) (ok := true) (by rw [hy]; rfl) (by rw [hy]; rfl))
  have REST := Lib.hid (And.intro hb (And.intro bs (And.intro bo (And.intro bn (And.intro bl (And.intro PB DB))))))
  have g1 : md < w.heap.size := by have := hb.size; omega
  have g2 : Bm < w.heap.size := by have := hb.size; omega
  have g3 : W.heap.size < w.heap.size := by omega
  clear hS hM bm bs bo bn bl hy m2 hb hlook mlt Bmlt PB DB
  go_region
  all_goals
    have hbX := (below_new w (.cells #[.int .u32 s, .int .u16 x] 39)).drew
    have XB := (Blk.new w 39 #[.int .u32 s, .int .u16 x]).drew
    have hzX : (w.alloc (.cells #[.int .u32 s, .int .u16 x] 39)).drew.heap.size = W.heap.size + 3 := by show (w.alloc _).heap.size = _; rw [size_new, hz]
    rw [hz] at XB
    obtain ⟨hb, bs, bo, bn, bl, PB, DB⟩ := REST.out
    have cs := held (next hb hbX) (bs.at_ 0)
    have PX := PB.held hbX
    have DX := DB.held hbX
    have q0 := PX.at_ 0
    have q1 := PX.at_ 1
    have q2 := PX.at_ 2
    have HF := HS.out _ hbX
    have DD := next hb hbX
    clear LK1 LK2 cm cm2 p0 p1 p2 cm' cm2' p0' p1' p2' HS REST hbX PB DB hb bs g1 g2 g3
    generalize (w.alloc (.cells #[.int .u32 s, .int .u16 x] 39)).drew = v at *
    go_wp2_with fail
    refine HF.mono ?_
    rintro e w2 ⟨rfl, hb2⟩
    have D2 := next DD hb2
    have hzF := hb2.size
    have D3 := next D2 (below_new w2 (.cells #[.int .u32 s, .int .u16 x] 39))
    have bo3 := bo.held D3
    have bn3 := bn.held D3
    have bl3 := bl.held D3
    have P3 := (PX.held hb2).more (.cells #[.int .u32 s, .int .u16 x] 39)
    have DB3 := (DX.held hb2).more (.cells #[.int .u32 s, .int .u16 x] 39)
    have X3 := (XB.held hb2).more (.cells #[.int .u32 s, .int .u16 x] 39)
    have F3 := Blk.new w2 39 #[.int .u32 s, .int .u16 x]
    have ALL := Lib.hid (And.intro D3 (And.intro bo3 (And.intro bn3 (And.intro bl3 (And.intro P3 (And.intro DB3 (And.intro X3 F3)))))))
    have n1' := Ne.symm n1
    have n2' := Ne.symm n2
    have n3' := Ne.symm n3
    have np1 : W.heap.size ≠ Bok := by omega
    have np2 : W.heap.size ≠ Bn := by omega
    have np3 : W.heap.size ≠ Bl := by omega
    have wr := wrap64_small (z := (k : Int) + 1) (by omega) (by omega)
    clear HF q0 q1 q2 cs PX DX XB DD hb2 D2 bo bn bl
    have l0 := bl3.at_ 0
    have l1c := bl3.at_ 1
    have l2c := bl3.at_ 2
    have k0 := bn3.at_ 0
    have x0 := P3.at_ 0
    have x1 := P3.at_ 1
    have x2 := P3.at_ 2
    have hless := less2_any la ln xa xn (w2.alloc (.cells #[.int .u32 s, .int .u16 x] 39))
    rw [hr] at hless
    go_wp2_with fail
    refine hless.mono ?_
    rintro e w4 ⟨rfl, hb4⟩
    clear hless bo3 bn3 bl3 P3 DB3 X3 F3 D3 k0 l0 l1c l2c x0 x1 x2
    obtain ⟨D3, bo, bn, bl, PB, DB, XB, FB⟩ := ALL.out
    have D5 := next D3 hb4
    have bo3 := bo.held hb4
    have bn3 := bn.held hb4
    have bl3 := bl.held hb4
    have P3 := PB.held hb4
    have DB3 := DB.held hb4
    have X3 := XB.held hb4
    have F3 := FB.held hb4
    clear ALL D3 hb4 bo bn bl PB DB XB FB
    have ALL := Lib.hid (And.intro D5 (And.intro bo3 (And.intro bn3 (And.intro bl3 P3))))
    clear D5
    have o0 := bo3.at_ 0
    have of0 := bo3.free 0
    have k0 := bn3.at_ 0
    have kf0 := bn3.free 0
    have l0 := bl3.at_ 0
    have l1c := bl3.at_ 1
    have l2c := bl3.at_ 2
    have lf0 := bl3.free 0
    have lf1 := bl3.free 1
    have lf2 := bl3.free 2
    have x0 := P3.at_ 0
    have x1 := P3.at_ 1
    have x2 := P3.at_ 2
    have d0 := DB3.at_ 0
    have d1 := DB3.at_ 1
    have y0 := X3.at_ 0
    have y1 := X3.at_ 1
    have f0 := F3.at_ 0
    have f1 := F3.at_ 1
    clear bo3 bn3 bl3 P3 DB3 X3 F3
    cases c
    all_goals
      go_wp2_with fail
      go_ret
      obtain ⟨D4, bo4, bn4, bl4, -⟩ := ALL.out
      refine ⟨rfl, ?_, ?_, ?_, ?_⟩
      · exact ((((bo4.store 0 _).away n2 _).away n2 _).away n2 _).away n1 _
      · rw [show (((k + 1 : Nat)) : Int) = (k : Int) + 1 from by omega]
        exact ((((bn4.away n1' _).away (p := ⟨Bl, 0, none⟩) n3 _).away (p := ⟨Bl, 1, none⟩) n3 _).away (p := ⟨Bl, 2, none⟩) n3 _).store 0 _
      · exact ((((bl4.away n2' _).store 0 (.int .u32 xa)).store 1 (.int .i64 xn)).store 2 (.int .u32 xi)).away n3' _
      · exact (Turn.of_below _ D4).trans (((((Turn.setCell _ (p := ⟨Bok, 0, none⟩) (by simp) _).trans (Turn.setCell _ (p := ⟨Bl, 0, none⟩) (by simp) _)).trans (Turn.setCell _ (p := ⟨Bl, 1, none⟩) (by simp) _)).trans (Turn.setCell _ (p := ⟨Bl, 2, none⟩) (by simp) _)).trans (Turn.setCell _ (p := ⟨Bn, 0, none⟩) (by simp) _))

set_option maxHeartbeats 8000000 in
theorem shows2_id {W : World} {sd : Nat} {o fl : Option Nat} {id lease n m : Nat} {own : Pk → Option Bool} {floor : Ky → Option (Nat × Nat)} (hS : St tS XS W sd o fl id lease n m own floor)
    {md mo mf mid mlease mn mm : Nat} {mown : Pk → Option Bool} (hM : Md W md mo mf mid mlease mn mm mown floor) {Bm Bs Bok Bn Bl k la li : Nat} {ln : Int} {c : Bool}
    (bm : Blk 32 W Bm #[.pointer (some ⟨md, 0, none⟩)]) (bs : Blk 43 W Bs #[.pointer (some ⟨sd, 0, none⟩)]) (bo : Blk 4 W Bok #[.bool c]) (bn : Blk 3 W Bn #[.int .i64 k]) (bl : Blk 90 W Bl #[.int .u32 la, .int .i64 ln, .int .u32 li]) (hk : k ≤ 100000)
    {xa xi : Nat} {xn : Int} (hok : Ky.ok ⟨xa, xn, xi⟩) {s x : Nat} (hy : floor ⟨xa, xn, xi⟩ = some (s, x)) (hkb : ((k : Int) == 0) = false) (hr : Om.less la ln xa xn = false) (he1 : ((la : Int) == xa) = true) (he2 : (ln == xn) = true) (hi : (li : Int) < xi) :
    Calls Tryz.prog 42 #[.agg #[.int .u32 xa, .int .i64 xn, .int .u32 xi], .agg #[.int .u32 s, .int .u16 x], .pointer (some ⟨Bm, 0, none⟩), .pointer (some ⟨Bs, 0, none⟩), .pointer (some ⟨Bn, 0, none⟩), .pointer (some ⟨Bl, 0, none⟩), .pointer (some ⟨Bok, 0, none⟩)] W fun e W' =>
      e = .returned (.bool true) ∧ Sh2 W W' Bok Bn Bl (c && true) (k + 1) xa xn xi := by
  have hb := next (below_new W (.cells #[.int .u32 xa, .int .i64 xn, .int .u32 xi] 90)) (below_new _ (.cells #[.int .u32 s, .int .u16 x] 39))
  have hz : ((W.alloc (.cells #[.int .u32 xa, .int .i64 xn, .int .u32 xi] 90)).alloc (.cells #[.int .u32 s, .int .u16 x] 39)).heap.size = W.heap.size + 2 := by rw [size_new, size_new]
  have PB := (Blk.new W 90 #[.int .u32 xa, .int .i64 xn, .int .u32 xi]).more (.cells #[.int .u32 s, .int .u16 x] 39)
  have DB := Blk.new (W.alloc (.cells #[.int .u32 xa, .int .i64 xn, .int .u32 xi] 90)) 39 #[.int .u32 s, .int .u16 x]
  rw [size_new] at DB
  have n1 := bo.ne bn (by decide)
  have n2 := bo.ne bl (by decide)
  have n3 := bn.ne bl (by decide)
  have l1 := bo.lt
  have l2 := bn.lt
  have l3 := bl.lt
  have m2 := hM.head.at_ 3
  have mlt := hM.head.lt
  have Bmlt := bm.lt
  go_enter Tryz.func42, Tryz.ntmps42
  go_wp2_with fail
  generalize (W.alloc (.cells #[.int .u32 xa, .int .i64 xn, .int .u32 xi] 90)).alloc (.cells #[.int .u32 s, .int .u16 x] 39) = w at *
  have hlook : ∀ w', Below w.heap.size w w' → (Instr.lookup 69 (.map (some mf)) (.agg #[.int .u32 xa, .int .i64 xn, .int .u32 xi]) true).run Tryz.prog w' = .ok (.tuple #[.agg #[.int .u32 s, .int .u16 x], .bool true]) w' := fun w' hw => by
    have LK := ((hM.floors.held hb).held hw).look_ok (t := 69) (e := 39) (by kernel_rfl) (zero_dist _) (i := ⟨xa, xn, xi⟩) hok
    rw [hy] at LK
    exact LK
  have LK1 := hlook w.drew (Below.refl _ _).drew
  have LK2 := hlook (w.alloc (.cells #[.int .u32 0, .int .u16 0] 39)).drew (below_new _ _).drew
  have cm := held hb (bm.at_ 0)
  have cm2 := held hb m2
  have p0 := PB.at_ 0
  have p1 := PB.at_ 1
  have p2 := PB.at_ 2
  have cm' := held (below_new w (.cells #[.int .u32 0, .int .u16 0] 39)) cm
  have cm2' := held (below_new w (.cells #[.int .u32 0, .int .u16 0] 39)) cm2
  have p0' := held (below_new w (.cells #[.int .u32 0, .int .u16 0] 39)) p0
  have p1' := held (below_new w (.cells #[.int .u32 0, .int .u16 0] 39)) p1
  have p2' := held (below_new w (.cells #[.int .u32 0, .int .u16 0] 39)) p2
  have HS := Lib.hid (fun w' (hw : Below w.heap.size w w') => floor_any ((hS.held hb).held hw) hok (s := s) (x := x) (ok := true) (by rw [hy]; rfl) (by rw [hy]; rfl))
  have REST := Lib.hid (And.intro hb (And.intro bs (And.intro bo (And.intro bn (And.intro bl (And.intro PB DB))))))
  have g1 : md < w.heap.size := by have := hb.size; omega
  have g2 : Bm < w.heap.size := by have := hb.size; omega
  have g3 : W.heap.size < w.heap.size := by omega
  clear hS hM bm bs bo bn bl hy m2 hb hlook mlt Bmlt PB DB
  go_region
  all_goals
    have hbX := (below_new w (.cells #[.int .u32 s, .int .u16 x] 39)).drew
    have XB := (Blk.new w 39 #[.int .u32 s, .int .u16 x]).drew
    have hzX : (w.alloc (.cells #[.int .u32 s, .int .u16 x] 39)).drew.heap.size = W.heap.size + 3 := by show (w.alloc _).heap.size = _; rw [size_new, hz]
    rw [hz] at XB
    obtain ⟨hb, bs, bo, bn, bl, PB, DB⟩ := REST.out
    have cs := held (next hb hbX) (bs.at_ 0)
    have PX := PB.held hbX
    have DX := DB.held hbX
    have q0 := PX.at_ 0
    have q1 := PX.at_ 1
    have q2 := PX.at_ 2
    have HF := HS.out _ hbX
    have DD := next hb hbX
    clear LK1 LK2 cm cm2 p0 p1 p2 cm' cm2' p0' p1' p2' HS REST hbX PB DB hb bs g1 g2 g3
    generalize (w.alloc (.cells #[.int .u32 s, .int .u16 x] 39)).drew = v at *
    go_wp2_with fail
    refine HF.mono ?_
    rintro e w2 ⟨rfl, hb2⟩
    have D2 := next DD hb2
    have hzF := hb2.size
    have D3 := next D2 (below_new w2 (.cells #[.int .u32 s, .int .u16 x] 39))
    have bo3 := bo.held D3
    have bn3 := bn.held D3
    have bl3 := bl.held D3
    have P3 := (PX.held hb2).more (.cells #[.int .u32 s, .int .u16 x] 39)
    have DB3 := (DX.held hb2).more (.cells #[.int .u32 s, .int .u16 x] 39)
    have X3 := (XB.held hb2).more (.cells #[.int .u32 s, .int .u16 x] 39)
    have F3 := Blk.new w2 39 #[.int .u32 s, .int .u16 x]
    have ALL := Lib.hid (And.intro D3 (And.intro bo3 (And.intro bn3 (And.intro bl3 (And.intro P3 (And.intro DB3 (And.intro X3 F3)))))))
    have n1' := Ne.symm n1
    have n2' := Ne.symm n2
    have n3' := Ne.symm n3
    have np1 : W.heap.size ≠ Bok := by omega
    have np2 : W.heap.size ≠ Bn := by omega
    have np3 : W.heap.size ≠ Bl := by omega
    have wr := wrap64_small (z := (k : Int) + 1) (by omega) (by omega)
    clear HF q0 q1 q2 cs PX DX XB DD hb2 D2 bo bn bl
    have l0 := bl3.at_ 0
    have l1c := bl3.at_ 1
    have l2c := bl3.at_ 2
    have k0 := bn3.at_ 0
    have x0 := P3.at_ 0
    have x1 := P3.at_ 1
    have x2 := P3.at_ 2
    have hless := less2_any la ln xa xn (w2.alloc (.cells #[.int .u32 s, .int .u16 x] 39))
    rw [hr] at hless
    go_wp2_with fail
    refine hless.mono ?_
    rintro e w4 ⟨rfl, hb4⟩
    clear hless bo3 bn3 bl3 P3 DB3 X3 F3 D3 k0 l0 l1c l2c x0 x1 x2
    obtain ⟨D3, bo, bn, bl, PB, DB, XB, FB⟩ := ALL.out
    have D5 := next D3 hb4
    have bo3 := bo.held hb4
    have bn3 := bn.held hb4
    have bl3 := bl.held hb4
    have P3 := PB.held hb4
    have DB3 := DB.held hb4
    have X3 := XB.held hb4
    have F3 := FB.held hb4
    clear ALL D3 hb4 bo bn bl PB DB XB FB
    have ALL := Lib.hid (And.intro D5 (And.intro bo3 (And.intro bn3 (And.intro bl3 P3))))
    clear D5
    have o0 := bo3.at_ 0
    have of0 := bo3.free 0
    have k0 := bn3.at_ 0
    have kf0 := bn3.free 0
    have l0 := bl3.at_ 0
    have l1c := bl3.at_ 1
    have l2c := bl3.at_ 2
    have lf0 := bl3.free 0
    have lf1 := bl3.free 1
    have lf2 := bl3.free 2
    have x0 := P3.at_ 0
    have x1 := P3.at_ 1
    have x2 := P3.at_ 2
    have d0 := DB3.at_ 0
    have d1 := DB3.at_ 1
    have y0 := X3.at_ 0
    have y1 := X3.at_ 1
    have f0 := F3.at_ 0
    have f1 := F3.at_ 1
    clear bo3 bn3 bl3 P3 DB3 X3 F3
    cases c
    all_goals
      go_wp2_with fail
      go_ret
      obtain ⟨D4, bo4, bn4, bl4, -⟩ := ALL.out
      refine ⟨rfl, ?_, ?_, ?_, ?_⟩
      · exact ((((bo4.store 0 _).away n2 _).away n2 _).away n2 _).away n1 _
      · rw [show (((k + 1 : Nat)) : Int) = (k : Int) + 1 from by omega]
        exact ((((bn4.away n1' _).away (p := ⟨Bl, 0, none⟩) n3 _).away (p := ⟨Bl, 1, none⟩) n3 _).away (p := ⟨Bl, 2, none⟩) n3 _).store 0 _
      · exact ((((bl4.away n2' _).store 0 (.int .u32 xa)).store 1 (.int .i64 xn)).store 2 (.int .u32 xi)).away n3' _
      · exact (Turn.of_below _ D4).trans (((((Turn.setCell _ (p := ⟨Bok, 0, none⟩) (by simp) _).trans (Turn.setCell _ (p := ⟨Bl, 0, none⟩) (by simp) _)).trans (Turn.setCell _ (p := ⟨Bl, 1, none⟩) (by simp) _)).trans (Turn.setCell _ (p := ⟨Bl, 2, none⟩) (by simp) _)).trans (Turn.setCell _ (p := ⟨Bn, 0, none⟩) (by simp) _))

set_option maxHeartbeats 8000000 in
theorem shows2_noid {W : World} {sd : Nat} {o fl : Option Nat} {id lease n m : Nat} {own : Pk → Option Bool} {floor : Ky → Option (Nat × Nat)} (hS : St tS XS W sd o fl id lease n m own floor)
    {md mo mf mid mlease mn mm : Nat} {mown : Pk → Option Bool} (hM : Md W md mo mf mid mlease mn mm mown floor) {Bm Bs Bok Bn Bl k la li : Nat} {ln : Int} {c : Bool}
    (bm : Blk 32 W Bm #[.pointer (some ⟨md, 0, none⟩)]) (bs : Blk 43 W Bs #[.pointer (some ⟨sd, 0, none⟩)]) (bo : Blk 4 W Bok #[.bool c]) (bn : Blk 3 W Bn #[.int .i64 k]) (bl : Blk 90 W Bl #[.int .u32 la, .int .i64 ln, .int .u32 li]) (hk : k ≤ 100000)
    {xa xi : Nat} {xn : Int} (hok : Ky.ok ⟨xa, xn, xi⟩) {s x : Nat} (hy : floor ⟨xa, xn, xi⟩ = some (s, x)) (hkb : ((k : Int) == 0) = false) (hr : Om.less la ln xa xn = false) (he1 : ((la : Int) == xa) = true) (he2 : (ln == xn) = true) (hi : decide (li < xi) = false) :
    Calls Tryz.prog 42 #[.agg #[.int .u32 xa, .int .i64 xn, .int .u32 xi], .agg #[.int .u32 s, .int .u16 x], .pointer (some ⟨Bm, 0, none⟩), .pointer (some ⟨Bs, 0, none⟩), .pointer (some ⟨Bn, 0, none⟩), .pointer (some ⟨Bl, 0, none⟩), .pointer (some ⟨Bok, 0, none⟩)] W fun e W' =>
      e = .returned (.bool true) ∧ Sh2 W W' Bok Bn Bl (c && false) (k + 1) xa xn xi := by
  have hb := next (below_new W (.cells #[.int .u32 xa, .int .i64 xn, .int .u32 xi] 90)) (below_new _ (.cells #[.int .u32 s, .int .u16 x] 39))
  have hz : ((W.alloc (.cells #[.int .u32 xa, .int .i64 xn, .int .u32 xi] 90)).alloc (.cells #[.int .u32 s, .int .u16 x] 39)).heap.size = W.heap.size + 2 := by rw [size_new, size_new]
  have PB := (Blk.new W 90 #[.int .u32 xa, .int .i64 xn, .int .u32 xi]).more (.cells #[.int .u32 s, .int .u16 x] 39)
  have DB := Blk.new (W.alloc (.cells #[.int .u32 xa, .int .i64 xn, .int .u32 xi] 90)) 39 #[.int .u32 s, .int .u16 x]
  rw [size_new] at DB
  have n1 := bo.ne bn (by decide)
  have n2 := bo.ne bl (by decide)
  have n3 := bn.ne bl (by decide)
  have l1 := bo.lt
  have l2 := bn.lt
  have l3 := bl.lt
  have m2 := hM.head.at_ 3
  have mlt := hM.head.lt
  have Bmlt := bm.lt
  go_enter Tryz.func42, Tryz.ntmps42
  go_wp2_with fail
  generalize (W.alloc (.cells #[.int .u32 xa, .int .i64 xn, .int .u32 xi] 90)).alloc (.cells #[.int .u32 s, .int .u16 x] 39) = w at *
  have hlook : ∀ w', Below w.heap.size w w' → (Instr.lookup 69 (.map (some mf)) (.agg #[.int .u32 xa, .int .i64 xn, .int .u32 xi]) true).run Tryz.prog w' = .ok (.tuple #[.agg #[.int .u32 s, .int .u16 x], .bool true]) w' := fun w' hw => by
    have LK := ((hM.floors.held hb).held hw).look_ok (t := 69) (e := 39) (by kernel_rfl) (zero_dist _) (i := ⟨xa, xn, xi⟩) hok
    rw [hy] at LK
    exact LK
  have LK1 := hlook w.drew (Below.refl _ _).drew
  have LK2 := hlook (w.alloc (.cells #[.int .u32 0, .int .u16 0] 39)).drew (below_new _ _).drew
  have cm := held hb (bm.at_ 0)
  have cm2 := held hb m2
  have p0 := PB.at_ 0
  have p1 := PB.at_ 1
  have p2 := PB.at_ 2
  have cm' := held (below_new w (.cells #[.int .u32 0, .int .u16 0] 39)) cm
  have cm2' := held (below_new w (.cells #[.int .u32 0, .int .u16 0] 39)) cm2
  have p0' := held (below_new w (.cells #[.int .u32 0, .int .u16 0] 39)) p0
  have p1' := held (below_new w (.cells #[.int .u32 0, .int .u16 0] 39)) p1
  have p2' := held (below_new w (.cells #[.int .u32 0, .int .u16 0] 39)) p2
  have HS := Lib.hid (fun w' (hw : Below w.heap.size w w') => floor_any ((hS.held hb).held hw) hok (s := s) (x := x) (ok := true) (by rw [hy]; rfl) (by rw [hy]; rfl))
  have REST := Lib.hid (And.intro hb (And.intro bs (And.intro bo (And.intro bn (And.intro bl (And.intro PB DB))))))
  have g1 : md < w.heap.size := by have := hb.size; omega
  have g2 : Bm < w.heap.size := by have := hb.size; omega
  have g3 : W.heap.size < w.heap.size := by omega
  clear hS hM bm bs bo bn bl hy m2 hb hlook mlt Bmlt PB DB
  go_region
  all_goals
    have hbX := (below_new w (.cells #[.int .u32 s, .int .u16 x] 39)).drew
    have XB := (Blk.new w 39 #[.int .u32 s, .int .u16 x]).drew
    have hzX : (w.alloc (.cells #[.int .u32 s, .int .u16 x] 39)).drew.heap.size = W.heap.size + 3 := by show (w.alloc _).heap.size = _; rw [size_new, hz]
    rw [hz] at XB
    obtain ⟨hb, bs, bo, bn, bl, PB, DB⟩ := REST.out
    have cs := held (next hb hbX) (bs.at_ 0)
    have PX := PB.held hbX
    have DX := DB.held hbX
    have q0 := PX.at_ 0
    have q1 := PX.at_ 1
    have q2 := PX.at_ 2
    have HF := HS.out _ hbX
    have DD := next hb hbX
    clear LK1 LK2 cm cm2 p0 p1 p2 cm' cm2' p0' p1' p2' HS REST hbX PB DB hb bs g1 g2 g3
    generalize (w.alloc (.cells #[.int .u32 s, .int .u16 x] 39)).drew = v at *
    go_wp2_with fail
    refine HF.mono ?_
    rintro e w2 ⟨rfl, hb2⟩
    have D2 := next DD hb2
    have hzF := hb2.size
    have D3 := next D2 (below_new w2 (.cells #[.int .u32 s, .int .u16 x] 39))
    have bo3 := bo.held D3
    have bn3 := bn.held D3
    have bl3 := bl.held D3
    have P3 := (PX.held hb2).more (.cells #[.int .u32 s, .int .u16 x] 39)
    have DB3 := (DX.held hb2).more (.cells #[.int .u32 s, .int .u16 x] 39)
    have X3 := (XB.held hb2).more (.cells #[.int .u32 s, .int .u16 x] 39)
    have F3 := Blk.new w2 39 #[.int .u32 s, .int .u16 x]
    have ALL := Lib.hid (And.intro D3 (And.intro bo3 (And.intro bn3 (And.intro bl3 (And.intro P3 (And.intro DB3 (And.intro X3 F3)))))))
    have n1' := Ne.symm n1
    have n2' := Ne.symm n2
    have n3' := Ne.symm n3
    have np1 : W.heap.size ≠ Bok := by omega
    have np2 : W.heap.size ≠ Bn := by omega
    have np3 : W.heap.size ≠ Bl := by omega
    have wr := wrap64_small (z := (k : Int) + 1) (by omega) (by omega)
    clear HF q0 q1 q2 cs PX DX XB DD hb2 D2 bo bn bl
    have l0 := bl3.at_ 0
    have l1c := bl3.at_ 1
    have l2c := bl3.at_ 2
    have k0 := bn3.at_ 0
    have x0 := P3.at_ 0
    have x1 := P3.at_ 1
    have x2 := P3.at_ 2
    have hless := less2_any la ln xa xn (w2.alloc (.cells #[.int .u32 s, .int .u16 x] 39))
    rw [hr] at hless
    go_wp2_with fail
    refine hless.mono ?_
    rintro e w4 ⟨rfl, hb4⟩
    clear hless bo3 bn3 bl3 P3 DB3 X3 F3 D3 k0 l0 l1c l2c x0 x1 x2
    obtain ⟨D3, bo, bn, bl, PB, DB, XB, FB⟩ := ALL.out
    have D5 := next D3 hb4
    have bo3 := bo.held hb4
    have bn3 := bn.held hb4
    have bl3 := bl.held hb4
    have P3 := PB.held hb4
    have DB3 := DB.held hb4
    have X3 := XB.held hb4
    have F3 := FB.held hb4
    clear ALL D3 hb4 bo bn bl PB DB XB FB
    have ALL := Lib.hid (And.intro D5 (And.intro bo3 (And.intro bn3 (And.intro bl3 P3))))
    clear D5
    have o0 := bo3.at_ 0
    have of0 := bo3.free 0
    have k0 := bn3.at_ 0
    have kf0 := bn3.free 0
    have l0 := bl3.at_ 0
    have l1c := bl3.at_ 1
    have l2c := bl3.at_ 2
    have lf0 := bl3.free 0
    have lf1 := bl3.free 1
    have lf2 := bl3.free 2
    have x0 := P3.at_ 0
    have x1 := P3.at_ 1
    have x2 := P3.at_ 2
    have d0 := DB3.at_ 0
    have d1 := DB3.at_ 1
    have y0 := X3.at_ 0
    have y1 := X3.at_ 1
    have f0 := F3.at_ 0
    have f1 := F3.at_ 1
    clear bo3 bn3 bl3 P3 DB3 X3 F3
    cases c
    all_goals
      go_wp2_with fail
      go_ret
      obtain ⟨D4, bo4, bn4, bl4, -⟩ := ALL.out
      refine ⟨rfl, ?_, ?_, ?_, ?_⟩
      · exact ((((bo4.store 0 _).away n2 _).away n2 _).away n2 _).away n1 _
      · rw [show (((k + 1 : Nat)) : Int) = (k : Int) + 1 from by omega]
        exact ((((bn4.away n1' _).away (p := ⟨Bl, 0, none⟩) n3 _).away (p := ⟨Bl, 1, none⟩) n3 _).away (p := ⟨Bl, 2, none⟩) n3 _).store 0 _
      · exact ((((bl4.away n2' _).store 0 (.int .u32 xa)).store 1 (.int .i64 xn)).store 2 (.int .u32 xi)).away n3' _
      · exact (Turn.of_below _ D4).trans (((((Turn.setCell _ (p := ⟨Bok, 0, none⟩) (by simp) _).trans (Turn.setCell _ (p := ⟨Bl, 0, none⟩) (by simp) _)).trans (Turn.setCell _ (p := ⟨Bl, 1, none⟩) (by simp) _)).trans (Turn.setCell _ (p := ⟨Bl, 2, none⟩) (by simp) _)).trans (Turn.setCell _ (p := ⟨Bn, 0, none⟩) (by simp) _))

set_option maxHeartbeats 8000000 in
theorem shows2_no2 {W : World} {sd : Nat} {o fl : Option Nat} {id lease n m : Nat} {own : Pk → Option Bool} {floor : Ky → Option (Nat × Nat)} (hS : St tS XS W sd o fl id lease n m own floor)
    {md mo mf mid mlease mn mm : Nat} {mown : Pk → Option Bool} (hM : Md W md mo mf mid mlease mn mm mown floor) {Bm Bs Bok Bn Bl k la li : Nat} {ln : Int} {c : Bool}
    (bm : Blk 32 W Bm #[.pointer (some ⟨md, 0, none⟩)]) (bs : Blk 43 W Bs #[.pointer (some ⟨sd, 0, none⟩)]) (bo : Blk 4 W Bok #[.bool c]) (bn : Blk 3 W Bn #[.int .i64 k]) (bl : Blk 90 W Bl #[.int .u32 la, .int .i64 ln, .int .u32 li]) (hk : k ≤ 100000)
    {xa xi : Nat} {xn : Int} (hok : Ky.ok ⟨xa, xn, xi⟩) {s x : Nat} (hy : floor ⟨xa, xn, xi⟩ = some (s, x)) (hkb : ((k : Int) == 0) = false) (hr : Om.less la ln xa xn = false) (he1 : ((la : Int) == xa) = true) (he2 : (ln == xn) = false) :
    Calls Tryz.prog 42 #[.agg #[.int .u32 xa, .int .i64 xn, .int .u32 xi], .agg #[.int .u32 s, .int .u16 x], .pointer (some ⟨Bm, 0, none⟩), .pointer (some ⟨Bs, 0, none⟩), .pointer (some ⟨Bn, 0, none⟩), .pointer (some ⟨Bl, 0, none⟩), .pointer (some ⟨Bok, 0, none⟩)] W fun e W' =>
      e = .returned (.bool true) ∧ Sh2 W W' Bok Bn Bl (c && false) (k + 1) xa xn xi := by
  have hb := next (below_new W (.cells #[.int .u32 xa, .int .i64 xn, .int .u32 xi] 90)) (below_new _ (.cells #[.int .u32 s, .int .u16 x] 39))
  have hz : ((W.alloc (.cells #[.int .u32 xa, .int .i64 xn, .int .u32 xi] 90)).alloc (.cells #[.int .u32 s, .int .u16 x] 39)).heap.size = W.heap.size + 2 := by rw [size_new, size_new]
  have PB := (Blk.new W 90 #[.int .u32 xa, .int .i64 xn, .int .u32 xi]).more (.cells #[.int .u32 s, .int .u16 x] 39)
  have DB := Blk.new (W.alloc (.cells #[.int .u32 xa, .int .i64 xn, .int .u32 xi] 90)) 39 #[.int .u32 s, .int .u16 x]
  rw [size_new] at DB
  have n1 := bo.ne bn (by decide)
  have n2 := bo.ne bl (by decide)
  have n3 := bn.ne bl (by decide)
  have l1 := bo.lt
  have l2 := bn.lt
  have l3 := bl.lt
  have m2 := hM.head.at_ 3
  have mlt := hM.head.lt
  have Bmlt := bm.lt
  go_enter Tryz.func42, Tryz.ntmps42
  go_wp2_with fail
  generalize (W.alloc (.cells #[.int .u32 xa, .int .i64 xn, .int .u32 xi] 90)).alloc (.cells #[.int .u32 s, .int .u16 x] 39) = w at *
  have hlook : ∀ w', Below w.heap.size w w' → (Instr.lookup 69 (.map (some mf)) (.agg #[.int .u32 xa, .int .i64 xn, .int .u32 xi]) true).run Tryz.prog w' = .ok (.tuple #[.agg #[.int .u32 s, .int .u16 x], .bool true]) w' := fun w' hw => by
    have LK := ((hM.floors.held hb).held hw).look_ok (t := 69) (e := 39) (by kernel_rfl) (zero_dist _) (i := ⟨xa, xn, xi⟩) hok
    rw [hy] at LK
    exact LK
  have LK1 := hlook w.drew (Below.refl _ _).drew
  have LK2 := hlook (w.alloc (.cells #[.int .u32 0, .int .u16 0] 39)).drew (below_new _ _).drew
  have cm := held hb (bm.at_ 0)
  have cm2 := held hb m2
  have p0 := PB.at_ 0
  have p1 := PB.at_ 1
  have p2 := PB.at_ 2
  have cm' := held (below_new w (.cells #[.int .u32 0, .int .u16 0] 39)) cm
  have cm2' := held (below_new w (.cells #[.int .u32 0, .int .u16 0] 39)) cm2
  have p0' := held (below_new w (.cells #[.int .u32 0, .int .u16 0] 39)) p0
  have p1' := held (below_new w (.cells #[.int .u32 0, .int .u16 0] 39)) p1
  have p2' := held (below_new w (.cells #[.int .u32 0, .int .u16 0] 39)) p2
  have HS := Lib.hid (fun w' (hw : Below w.heap.size w w') => floor_any ((hS.held hb).held hw) hok (s := s) (x := x) (ok := true) (by rw [hy]; rfl) (by rw [hy]; rfl))
  have REST := Lib.hid (And.intro hb (And.intro bs (And.intro bo (And.intro bn (And.intro bl (And.intro PB DB))))))
  have g1 : md < w.heap.size := by have := hb.size; omega
  have g2 : Bm < w.heap.size := by have := hb.size; omega
  have g3 : W.heap.size < w.heap.size := by omega
  clear hS hM bm bs bo bn bl hy m2 hb hlook mlt Bmlt PB DB
  go_region
  all_goals
    have hbX := (below_new w (.cells #[.int .u32 s, .int .u16 x] 39)).drew
    have XB := (Blk.new w 39 #[.int .u32 s, .int .u16 x]).drew
    have hzX : (w.alloc (.cells #[.int .u32 s, .int .u16 x] 39)).drew.heap.size = W.heap.size + 3 := by show (w.alloc _).heap.size = _; rw [size_new, hz]
    rw [hz] at XB
    obtain ⟨hb, bs, bo, bn, bl, PB, DB⟩ := REST.out
    have cs := held (next hb hbX) (bs.at_ 0)
    have PX := PB.held hbX
    have DX := DB.held hbX
    have q0 := PX.at_ 0
    have q1 := PX.at_ 1
    have q2 := PX.at_ 2
    have HF := HS.out _ hbX
    have DD := next hb hbX
    clear LK1 LK2 cm cm2 p0 p1 p2 cm' cm2' p0' p1' p2' HS REST hbX PB DB hb bs g1 g2 g3
    generalize (w.alloc (.cells #[.int .u32 s, .int .u16 x] 39)).drew = v at *
    go_wp2_with fail
    refine HF.mono ?_
    rintro e w2 ⟨rfl, hb2⟩
    have D2 := next DD hb2
    have hzF := hb2.size
    have D3 := next D2 (below_new w2 (.cells #[.int .u32 s, .int .u16 x] 39))
    have bo3 := bo.held D3
    have bn3 := bn.held D3
    have bl3 := bl.held D3
    have P3 := (PX.held hb2).more (.cells #[.int .u32 s, .int .u16 x] 39)
    have DB3 := (DX.held hb2).more (.cells #[.int .u32 s, .int .u16 x] 39)
    have X3 := (XB.held hb2).more (.cells #[.int .u32 s, .int .u16 x] 39)
    have F3 := Blk.new w2 39 #[.int .u32 s, .int .u16 x]
    have ALL := Lib.hid (And.intro D3 (And.intro bo3 (And.intro bn3 (And.intro bl3 (And.intro P3 (And.intro DB3 (And.intro X3 F3)))))))
    have n1' := Ne.symm n1
    have n2' := Ne.symm n2
    have n3' := Ne.symm n3
    have np1 : W.heap.size ≠ Bok := by omega
    have np2 : W.heap.size ≠ Bn := by omega
    have np3 : W.heap.size ≠ Bl := by omega
    have wr := wrap64_small (z := (k : Int) + 1) (by omega) (by omega)
    clear HF q0 q1 q2 cs PX DX XB DD hb2 D2 bo bn bl
    have l0 := bl3.at_ 0
    have l1c := bl3.at_ 1
    have l2c := bl3.at_ 2
    have k0 := bn3.at_ 0
    have x0 := P3.at_ 0
    have x1 := P3.at_ 1
    have x2 := P3.at_ 2
    have hless := less2_any la ln xa xn (w2.alloc (.cells #[.int .u32 s, .int .u16 x] 39))
    rw [hr] at hless
    go_wp2_with fail
    refine hless.mono ?_
    rintro e w4 ⟨rfl, hb4⟩
    clear hless bo3 bn3 bl3 P3 DB3 X3 F3 D3 k0 l0 l1c l2c x0 x1 x2
    obtain ⟨D3, bo, bn, bl, PB, DB, XB, FB⟩ := ALL.out
    have D5 := next D3 hb4
    have bo3 := bo.held hb4
    have bn3 := bn.held hb4
    have bl3 := bl.held hb4
    have P3 := PB.held hb4
    have DB3 := DB.held hb4
    have X3 := XB.held hb4
    have F3 := FB.held hb4
    clear ALL D3 hb4 bo bn bl PB DB XB FB
    have ALL := Lib.hid (And.intro D5 (And.intro bo3 (And.intro bn3 (And.intro bl3 P3))))
    clear D5
    have o0 := bo3.at_ 0
    have of0 := bo3.free 0
    have k0 := bn3.at_ 0
    have kf0 := bn3.free 0
    have l0 := bl3.at_ 0
    have l1c := bl3.at_ 1
    have l2c := bl3.at_ 2
    have lf0 := bl3.free 0
    have lf1 := bl3.free 1
    have lf2 := bl3.free 2
    have x0 := P3.at_ 0
    have x1 := P3.at_ 1
    have x2 := P3.at_ 2
    have d0 := DB3.at_ 0
    have d1 := DB3.at_ 1
    have y0 := X3.at_ 0
    have y1 := X3.at_ 1
    have f0 := F3.at_ 0
    have f1 := F3.at_ 1
    clear bo3 bn3 bl3 P3 DB3 X3 F3
    cases c
    all_goals
      go_wp2_with fail
      go_ret
      obtain ⟨D4, bo4, bn4, bl4, -⟩ := ALL.out
      refine ⟨rfl, ?_, ?_, ?_, ?_⟩
      · exact ((((bo4.store 0 _).away n2 _).away n2 _).away n2 _).away n1 _
      · rw [show (((k + 1 : Nat)) : Int) = (k : Int) + 1 from by omega]
        exact ((((bn4.away n1' _).away (p := ⟨Bl, 0, none⟩) n3 _).away (p := ⟨Bl, 1, none⟩) n3 _).away (p := ⟨Bl, 2, none⟩) n3 _).store 0 _
      · exact ((((bl4.away n2' _).store 0 (.int .u32 xa)).store 1 (.int .i64 xn)).store 2 (.int .u32 xi)).away n3' _
      · exact (Turn.of_below _ D4).trans (((((Turn.setCell _ (p := ⟨Bok, 0, none⟩) (by simp) _).trans (Turn.setCell _ (p := ⟨Bl, 0, none⟩) (by simp) _)).trans (Turn.setCell _ (p := ⟨Bl, 1, none⟩) (by simp) _)).trans (Turn.setCell _ (p := ⟨Bl, 2, none⟩) (by simp) _)).trans (Turn.setCell _ (p := ⟨Bn, 0, none⟩) (by simp) _))

set_option maxHeartbeats 8000000 in
theorem shows2_no1 {W : World} {sd : Nat} {o fl : Option Nat} {id lease n m : Nat} {own : Pk → Option Bool} {floor : Ky → Option (Nat × Nat)} (hS : St tS XS W sd o fl id lease n m own floor)
    {md mo mf mid mlease mn mm : Nat} {mown : Pk → Option Bool} (hM : Md W md mo mf mid mlease mn mm mown floor) {Bm Bs Bok Bn Bl k la li : Nat} {ln : Int} {c : Bool}
    (bm : Blk 32 W Bm #[.pointer (some ⟨md, 0, none⟩)]) (bs : Blk 43 W Bs #[.pointer (some ⟨sd, 0, none⟩)]) (bo : Blk 4 W Bok #[.bool c]) (bn : Blk 3 W Bn #[.int .i64 k]) (bl : Blk 90 W Bl #[.int .u32 la, .int .i64 ln, .int .u32 li]) (hk : k ≤ 100000)
    {xa xi : Nat} {xn : Int} (hok : Ky.ok ⟨xa, xn, xi⟩) {s x : Nat} (hy : floor ⟨xa, xn, xi⟩ = some (s, x)) (hkb : ((k : Int) == 0) = false) (hr : Om.less la ln xa xn = false) (he1 : ((la : Int) == xa) = false) :
    Calls Tryz.prog 42 #[.agg #[.int .u32 xa, .int .i64 xn, .int .u32 xi], .agg #[.int .u32 s, .int .u16 x], .pointer (some ⟨Bm, 0, none⟩), .pointer (some ⟨Bs, 0, none⟩), .pointer (some ⟨Bn, 0, none⟩), .pointer (some ⟨Bl, 0, none⟩), .pointer (some ⟨Bok, 0, none⟩)] W fun e W' =>
      e = .returned (.bool true) ∧ Sh2 W W' Bok Bn Bl (c && false) (k + 1) xa xn xi := by
  have hb := next (below_new W (.cells #[.int .u32 xa, .int .i64 xn, .int .u32 xi] 90)) (below_new _ (.cells #[.int .u32 s, .int .u16 x] 39))
  have hz : ((W.alloc (.cells #[.int .u32 xa, .int .i64 xn, .int .u32 xi] 90)).alloc (.cells #[.int .u32 s, .int .u16 x] 39)).heap.size = W.heap.size + 2 := by rw [size_new, size_new]
  have PB := (Blk.new W 90 #[.int .u32 xa, .int .i64 xn, .int .u32 xi]).more (.cells #[.int .u32 s, .int .u16 x] 39)
  have DB := Blk.new (W.alloc (.cells #[.int .u32 xa, .int .i64 xn, .int .u32 xi] 90)) 39 #[.int .u32 s, .int .u16 x]
  rw [size_new] at DB
  have n1 := bo.ne bn (by decide)
  have n2 := bo.ne bl (by decide)
  have n3 := bn.ne bl (by decide)
  have l1 := bo.lt
  have l2 := bn.lt
  have l3 := bl.lt
  have m2 := hM.head.at_ 3
  have mlt := hM.head.lt
  have Bmlt := bm.lt
  go_enter Tryz.func42, Tryz.ntmps42
  go_wp2_with fail
  generalize (W.alloc (.cells #[.int .u32 xa, .int .i64 xn, .int .u32 xi] 90)).alloc (.cells #[.int .u32 s, .int .u16 x] 39) = w at *
  have hlook : ∀ w', Below w.heap.size w w' → (Instr.lookup 69 (.map (some mf)) (.agg #[.int .u32 xa, .int .i64 xn, .int .u32 xi]) true).run Tryz.prog w' = .ok (.tuple #[.agg #[.int .u32 s, .int .u16 x], .bool true]) w' := fun w' hw => by
    have LK := ((hM.floors.held hb).held hw).look_ok (t := 69) (e := 39) (by kernel_rfl) (zero_dist _) (i := ⟨xa, xn, xi⟩) hok
    rw [hy] at LK
    exact LK
  have LK1 := hlook w.drew (Below.refl _ _).drew
  have LK2 := hlook (w.alloc (.cells #[.int .u32 0, .int .u16 0] 39)).drew (below_new _ _).drew
  have cm := held hb (bm.at_ 0)
  have cm2 := held hb m2
  have p0 := PB.at_ 0
  have p1 := PB.at_ 1
  have p2 := PB.at_ 2
  have cm' := held (below_new w (.cells #[.int .u32 0, .int .u16 0] 39)) cm
  have cm2' := held (below_new w (.cells #[.int .u32 0, .int .u16 0] 39)) cm2
  have p0' := held (below_new w (.cells #[.int .u32 0, .int .u16 0] 39)) p0
  have p1' := held (below_new w (.cells #[.int .u32 0, .int .u16 0] 39)) p1
  have p2' := held (below_new w (.cells #[.int .u32 0, .int .u16 0] 39)) p2
  have HS := Lib.hid (fun w' (hw : Below w.heap.size w w') => floor_any ((hS.held hb).held hw) hok (s := s) (x := x) (ok := true) (by rw [hy]; rfl) (by rw [hy]; rfl))
  have REST := Lib.hid (And.intro hb (And.intro bs (And.intro bo (And.intro bn (And.intro bl (And.intro PB DB))))))
  have g1 : md < w.heap.size := by have := hb.size; omega
  have g2 : Bm < w.heap.size := by have := hb.size; omega
  have g3 : W.heap.size < w.heap.size := by omega
  clear hS hM bm bs bo bn bl hy m2 hb hlook mlt Bmlt PB DB
  go_region
  all_goals
    have hbX := (below_new w (.cells #[.int .u32 s, .int .u16 x] 39)).drew
    have XB := (Blk.new w 39 #[.int .u32 s, .int .u16 x]).drew
    have hzX : (w.alloc (.cells #[.int .u32 s, .int .u16 x] 39)).drew.heap.size = W.heap.size + 3 := by show (w.alloc _).heap.size = _; rw [size_new, hz]
    rw [hz] at XB
    obtain ⟨hb, bs, bo, bn, bl, PB, DB⟩ := REST.out
    have cs := held (next hb hbX) (bs.at_ 0)
    have PX := PB.held hbX
    have DX := DB.held hbX
    have q0 := PX.at_ 0
    have q1 := PX.at_ 1
    have q2 := PX.at_ 2
    have HF := HS.out _ hbX
    have DD := next hb hbX
    clear LK1 LK2 cm cm2 p0 p1 p2 cm' cm2' p0' p1' p2' HS REST hbX PB DB hb bs g1 g2 g3
    generalize (w.alloc (.cells #[.int .u32 s, .int .u16 x] 39)).drew = v at *
    go_wp2_with fail
    refine HF.mono ?_
    rintro e w2 ⟨rfl, hb2⟩
    have D2 := next DD hb2
    have hzF := hb2.size
    have D3 := next D2 (below_new w2 (.cells #[.int .u32 s, .int .u16 x] 39))
    have bo3 := bo.held D3
    have bn3 := bn.held D3
    have bl3 := bl.held D3
    have P3 := (PX.held hb2).more (.cells #[.int .u32 s, .int .u16 x] 39)
    have DB3 := (DX.held hb2).more (.cells #[.int .u32 s, .int .u16 x] 39)
    have X3 := (XB.held hb2).more (.cells #[.int .u32 s, .int .u16 x] 39)
    have F3 := Blk.new w2 39 #[.int .u32 s, .int .u16 x]
    have ALL := Lib.hid (And.intro D3 (And.intro bo3 (And.intro bn3 (And.intro bl3 (And.intro P3 (And.intro DB3 (And.intro X3 F3)))))))
    have n1' := Ne.symm n1
    have n2' := Ne.symm n2
    have n3' := Ne.symm n3
    have np1 : W.heap.size ≠ Bok := by omega
    have np2 : W.heap.size ≠ Bn := by omega
    have np3 : W.heap.size ≠ Bl := by omega
    have wr := wrap64_small (z := (k : Int) + 1) (by omega) (by omega)
    clear HF q0 q1 q2 cs PX DX XB DD hb2 D2 bo bn bl
    have l0 := bl3.at_ 0
    have l1c := bl3.at_ 1
    have l2c := bl3.at_ 2
    have k0 := bn3.at_ 0
    have x0 := P3.at_ 0
    have x1 := P3.at_ 1
    have x2 := P3.at_ 2
    have hless := less2_any la ln xa xn (w2.alloc (.cells #[.int .u32 s, .int .u16 x] 39))
    rw [hr] at hless
    go_wp2_with fail
    refine hless.mono ?_
    rintro e w4 ⟨rfl, hb4⟩
    clear hless bo3 bn3 bl3 P3 DB3 X3 F3 D3 k0 l0 l1c l2c x0 x1 x2
    obtain ⟨D3, bo, bn, bl, PB, DB, XB, FB⟩ := ALL.out
    have D5 := next D3 hb4
    have bo3 := bo.held hb4
    have bn3 := bn.held hb4
    have bl3 := bl.held hb4
    have P3 := PB.held hb4
    have DB3 := DB.held hb4
    have X3 := XB.held hb4
    have F3 := FB.held hb4
    clear ALL D3 hb4 bo bn bl PB DB XB FB
    have ALL := Lib.hid (And.intro D5 (And.intro bo3 (And.intro bn3 (And.intro bl3 P3))))
    clear D5
    have o0 := bo3.at_ 0
    have of0 := bo3.free 0
    have k0 := bn3.at_ 0
    have kf0 := bn3.free 0
    have l0 := bl3.at_ 0
    have l1c := bl3.at_ 1
    have l2c := bl3.at_ 2
    have lf0 := bl3.free 0
    have lf1 := bl3.free 1
    have lf2 := bl3.free 2
    have x0 := P3.at_ 0
    have x1 := P3.at_ 1
    have x2 := P3.at_ 2
    have d0 := DB3.at_ 0
    have d1 := DB3.at_ 1
    have y0 := X3.at_ 0
    have y1 := X3.at_ 1
    have f0 := F3.at_ 0
    have f1 := F3.at_ 1
    clear bo3 bn3 bl3 P3 DB3 X3 F3
    cases c
    all_goals
      go_wp2_with fail
      go_ret
      obtain ⟨D4, bo4, bn4, bl4, -⟩ := ALL.out
      refine ⟨rfl, ?_, ?_, ?_, ?_⟩
      · exact ((((bo4.store 0 _).away n2 _).away n2 _).away n2 _).away n1 _
      · rw [show (((k + 1 : Nat)) : Int) = (k : Int) + 1 from by omega]
        exact ((((bn4.away n1' _).away (p := ⟨Bl, 0, none⟩) n3 _).away (p := ⟨Bl, 1, none⟩) n3 _).away (p := ⟨Bl, 2, none⟩) n3 _).store 0 _
      · exact ((((bl4.away n2' _).store 0 (.int .u32 xa)).store 1 (.int .i64 xn)).store 2 (.int .u32 xi)).away n3' _
      · exact (Turn.of_below _ D4).trans (((((Turn.setCell _ (p := ⟨Bok, 0, none⟩) (by simp) _).trans (Turn.setCell _ (p := ⟨Bl, 0, none⟩) (by simp) _)).trans (Turn.setCell _ (p := ⟨Bl, 1, none⟩) (by simp) _)).trans (Turn.setCell _ (p := ⟨Bl, 2, none⟩) (by simp) _)).trans (Turn.setCell _ (p := ⟨Bn, 0, none⟩) (by simp) _))

/-- in order: the first, or one behind the last -/
def Rises (k la : Nat) (ln : Int) (li xa : Nat) (xn : Int) (xi : Nat) : Prop := k = 0 ∨ (la < xa ∨ la = xa ∧ ln < xn) ∨ (la = xa ∧ ln = xn) ∧ li < xi
theorem shows2 {W : World} {sd : Nat} {o fl : Option Nat} {id lease n m : Nat} {own : Pk → Option Bool} {floor : Ky → Option (Nat × Nat)} (hS : St tS XS W sd o fl id lease n m own floor)
    {md mo mf mid mlease mn mm : Nat} {mown : Pk → Option Bool} (hM : Md W md mo mf mid mlease mn mm mown floor) {Bm Bs Bok Bn Bl k la li : Nat} {ln : Int} {c : Bool}
    (bm : Blk 32 W Bm #[.pointer (some ⟨md, 0, none⟩)]) (bs : Blk 43 W Bs #[.pointer (some ⟨sd, 0, none⟩)]) (bo : Blk 4 W Bok #[.bool c]) (bn : Blk 3 W Bn #[.int .i64 k]) (bl : Blk 90 W Bl #[.int .u32 la, .int .i64 ln, .int .u32 li]) (hk : k ≤ 100000)
    {xa xi : Nat} {xn : Int} (hok : Ky.ok ⟨xa, xn, xi⟩) {s x : Nat} (hy : floor ⟨xa, xn, xi⟩ = some (s, x)) :
    Calls Tryz.prog 42 #[.agg #[.int .u32 xa, .int .i64 xn, .int .u32 xi], .agg #[.int .u32 s, .int .u16 x], .pointer (some ⟨Bm, 0, none⟩), .pointer (some ⟨Bs, 0, none⟩), .pointer (some ⟨Bn, 0, none⟩), .pointer (some ⟨Bl, 0, none⟩), .pointer (some ⟨Bok, 0, none⟩)] W fun e W' =>
      e = .returned (.bool true) ∧ ∃ r : Bool, (Rises k la ln li xa xn xi → r = true) ∧ Sh2 W W' Bok Bn Bl (c && r) (k + 1) xa xn xi := by
  unfold Rises
  by_cases hk0 : k = 0
  · exact (shows2_first hS hM bm bs bo bn bl hk hok hy (by rw [beq_iff_eq]; omega)).mono fun e W' h => ⟨h.1, true, fun _ => rfl, h.2⟩
  have hkb : ((k : Int) == 0) = false := by rw [beq_eq_false_iff_ne]; omega
  cases hr : Om.less la ln xa xn with
  | true => exact (shows2_less hS hM bm bs bo bn bl hk hok hy hkb hr).mono fun e W' h => ⟨h.1, true, fun _ => rfl, h.2⟩
  | false =>
    have hno : ¬ ((la : Int) < xa ∨ (la : Int) = xa ∧ ln < xn) := by
      have hr' := hr
      unfold Om.less at hr'
      rwa [decide_eq_false_iff_not] at hr'
    by_cases he1 : la = xa
    · have e1 : ((la : Int) == xa) = true := by rw [beq_iff_eq]; omega
      by_cases he2 : ln = xn
      · have e2 : (ln == xn) = true := by rw [beq_iff_eq]; exact he2
        by_cases hi : li < xi
        · exact (shows2_id hS hM bm bs bo bn bl hk hok hy hkb hr e1 e2 (by omega)).mono fun e W' h => ⟨h.1, true, fun _ => rfl, h.2⟩
        · exact (shows2_noid hS hM bm bs bo bn bl hk hok hy hkb hr e1 e2 (decide_eq_false (by omega))).mono fun e W' h => ⟨h.1, false, fun q => by omega, h.2⟩
      · exact (shows2_no2 hS hM bm bs bo bn bl hk hok hy hkb hr e1 (by rw [beq_eq_false_iff_ne]; exact he2)).mono fun e W' h => ⟨h.1, false, fun q => by omega, h.2⟩
    · exact (shows2_no1 hS hM bm bs bo bn bl hk hok hy hkb hr (by rw [beq_eq_false_iff_ne]; omega)).mono fun e W' h => ⟨h.1, false, fun q => by omega, h.2⟩
end Go.Proofs.YtpgcnjoodoabhaaGreat

namespace Go.Proofs.YtpgcnjoodoabhaaGreat
open Go.RowKit Rm
variable {tS : TypeId} {XS : List Value}

/-! ### a call that turns a few variables keeps all else -/
/-- the blocks in L are variables, none of type t -/
def Vars (L : List Nat) (t : TypeId) (W : World) : Prop := ∀ b, b ∈ L → ∃ t' C, t' ≠ t ∧ Blk t' W b C
theorem Turn.keepsFrom {L : List Nat} {t : TypeId} {W W' : World} (h : Turn L W W') (hV : Vars L t W) (B : Nat) : KeepsFrom B W W' :=
  ⟨h.size, fun k o _ hk ho => (h.block k (Array.getElem?_eq_some_iff.1 hk).1 fun hm => by
    obtain ⟨t', C, -, hB⟩ := hV k hm
    unfold Blk at hB
    rw [hB] at hk
    cases hk
    cases ho).trans hk⟩
theorem Turn.keepT {L : List Nat} {t : TypeId} {W W' : World} (h : Turn L W W') (hV : Vars L t W) : KeepT t W W' := fun b C hb =>
  hb.turn h fun hm => by
    obtain ⟨t', C', ht, hB⟩ := hV b hm
    exact hB.ne hb ht rfl
theorem Turn.keepS {L T : List Nat} {W W' : World} (h : Turn T W W') (hL : ∀ b, b ∈ L → b < W.heap.size ∧ b ∉ T) : KeepS L W W' :=
  ⟨fun b hb => h.block b (hL b hb).1 (hL b hb).2, h.size⟩
theorem ownFrom_turn {β : Type} {L : List Nat} {W0 : World} {B : Nat} (hB : W0.heap.size ≤ B) : OwnFrom B (fun (_ : β) W => Turn L W0 W) := fun _ W W' row hs hg hr =>
  ⟨hg.os.trans hs.os, hg.tape.trans hs.tape, hg.output.trans hs.output, Nat.le_trans hs.size hg.size, fun i hi hn => (hg.block i (Nat.lt_of_lt_of_le hi hs.size) fun e => by
    have := (hr i e.symm).1
    omega).trans (hs.block i hi hn)⟩
theorem ownFrom_blk {β : Type} {t : TypeId} {b B : Nat} (C : β → Array Value) : OwnFrom B (fun s W => Blk t W b (C s)) := fun _ _ _ _ hs hg hr => hs.grown hg hr
theorem ownFrom_ex {β γ : Type} {B : Nat} {I : γ → β → World → Prop} (h : ∀ c, OwnFrom B (I c)) : OwnFrom B (fun s W => ∃ c, I c s W) := fun s W W' row ⟨c, hs⟩ hg hr => ⟨c, h c s W W' row hs hg hr⟩

/-! ### prefixes -/
theorem shows1 {W : World} {sd : Nat} {o fl : Option Nat} {id lease n m : Nat} {own : Pk → Option Bool} {floor : Ky → Option (Nat × Nat)} (hS : St tS XS W sd o fl id lease n m own floor)
    {md mo mf mid mlease mn mm : Nat} {mfloor : Ky → Option (Nat × Nat)} (hM : Md W md mo mf mid mlease mn mm own mfloor) {Bm Bs Bok Bn Bl k la : Nat} {ln : Int} {c : Bool}
    (bm : Blk 32 W Bm #[.pointer (some ⟨md, 0, none⟩)]) (bs : Blk 43 W Bs #[.pointer (some ⟨sd, 0, none⟩)]) (bo : Blk 4 W Bok #[.bool c]) (bn : Blk 3 W Bn #[.int .i64 k]) (bl : Blk 36 W Bl #[.int .u32 la, .int .i64 ln]) (hk : k ≤ 100000)
    {xa : Nat} {xn : Int} (hok : Pk.ok ⟨xa, xn⟩) {y : Bool} (hy : own ⟨xa, xn⟩ = some y) :
    Calls Tryz.prog 39 #[.agg #[.int .u32 xa, .int .i64 xn], .bool y, .pointer (some ⟨Bm, 0, none⟩), .pointer (some ⟨Bs, 0, none⟩), .pointer (some ⟨Bok, 0, none⟩), .pointer (some ⟨Bn, 0, none⟩), .pointer (some ⟨Bl, 0, none⟩)] W fun e W' =>
      e = .returned (.bool true) ∧ ∃ r : Bool, (k = 0 ∨ ltP ⟨la, ln⟩ ⟨xa, xn⟩ → r = true) ∧ Sh1 W W' Bok Bn Bl (c && r) (k + 1) xa xn := by
  cases c with
  | false => exact (shows1_no hS hM bm bs bo bn bl hk hok hy).mono fun e W' h => ⟨h.1, true, fun _ => rfl, h.2⟩
  | true =>
    by_cases hk0 : k = 0
    · exact (shows1_first hS hM (by rw [beq_iff_eq]; omega) bm bs bo bn bl hk hok hy).mono fun e W' h => ⟨h.1, true, fun _ => rfl, h.2⟩
    · refine (shows1_next hS hM (by rw [beq_eq_false_iff_ne]; omega) bm bs bo bn bl hk hok hy rfl).mono fun e W' h => ⟨h.1, Om.less la ln xa xn, fun q => ?_, by rw [Bool.true_and]; exact h.2⟩
      refine decide_eq_true ?_
      rcases q with q | q
      · exact absurd q hk0
      · unfold ltP at q
        dsimp only at q
        omega

/-- the last key -/
def lastP {f : Pk → Option Bool} (pre : List (ElP f)) : Pk := ((pre.getLast?).map (·.key)).getD ⟨0, 0⟩
theorem lastP_snoc {f : Pk → Option Bool} (pre : List (ElP f)) (x : ElP f) : lastP (pre ++ [x]) = x.key := by simp [lastP]
def Chain1 {f : Pk → Option Bool} (pre : List (ElP f)) : Prop := (pre.map (·.key)).Pairwise ltP
theorem Chain1.pre {f : Pk → Option Bool} {pre : List (ElP f)} {x : ElP f} (h : Chain1 (pre ++ [x])) : Chain1 pre := by
  unfold Chain1 at h ⊢
  rw [List.map_append, List.pairwise_append] at h
  exact h.1
theorem Chain1.last {f : Pk → Option Bool} {pre : List (ElP f)} {x : ElP f} (h : Chain1 (pre ++ [x])) (hp : pre.length ≠ 0) : ltP (lastP pre) x.key := by
  unfold Chain1 at h
  rw [List.map_append, List.pairwise_append] at h
  have hne : pre ≠ [] := fun e => hp (by rw [e]; rfl)
  refine h.2.2 _ ?_ _ (by simp)
  rw [List.mem_map]
  exact ⟨pre.getLast hne, List.getLast_mem hne, by simp [lastP, List.getLast?_eq_some_getLast hne]⟩
/-- what the first literal has made, pre having come -/
def JO (f : Pk → Option Bool) (W0 : World) (Bok Bn Bl : Nat) (pre : List (ElP f)) (W : World) : Prop :=
  ∃ c : Bool, (Chain1 pre → c = true) ∧ Sh1 W0 W Bok Bn Bl c pre.length (lastP pre).a (lastP pre).n
theorem jo_own (f : Pk → Option Bool) (W0 : World) (Bok Bn Bl B : Nat) (hB : W0.heap.size ≤ B) : OwnFrom B (JO f W0 Bok Bn Bl) := by
  refine ownFrom_ex fun c => OwnFrom.and (ownFrom_pure _ _) ?_
  unfold Sh1
  exact OwnFrom.and (ownFrom_blk _) (OwnFrom.and (ownFrom_blk _) (OwnFrom.and (ownFrom_blk _) (ownFrom_turn hB)))

theorem jo_step {W0 : World} {sd : Nat} {o fl : Option Nat} {id lease n m : Nat} {own : Pk → Option Bool} {floor : Ky → Option (Nat × Nat)} (hS : St tS XS W0 sd o fl id lease n m own floor)
    {md mo mf mid mlease mn mm : Nat} {mfloor : Ky → Option (Nat × Nat)} (hM : Md W0 md mo mf mid mlease mn mm own mfloor) {Bm Bs Bok Bn Bl N : Nat} {L : List Nat}
    (bm : Blk 32 W0 Bm #[.pointer (some ⟨md, 0, none⟩)]) (bs : Blk 43 W0 Bs #[.pointer (some ⟨sd, 0, none⟩)]) (hN : N ≤ 100000)
    (hfr : ∀ b, b ∈ sd :: Bm :: Bs :: md :: mo :: mf :: (o.toList ++ fl.toList) → b ≠ Bok ∧ b ≠ Bn ∧ b ≠ Bl) (hL : ∀ b, b ∈ L → b < W0.heap.size ∧ b ≠ Bok ∧ b ≠ Bn ∧ b ≠ Bl)
    (pre : List (ElP own)) (x : ElP own) (W1 : World) (hj : JO own W0 Bok Bn Bl pre W1) (_ : W0.heap.size ≤ W1.heap.size) (hlen : pre.length < N) :
    Fv.At Tryz.prog (.fn 39 #[.pointer (some ⟨Bm, 0, none⟩), .pointer (some ⟨Bs, 0, none⟩), .pointer (some ⟨Bok, 0, none⟩), .pointer (some ⟨Bn, 0, none⟩), .pointer (some ⟨Bl, 0, none⟩)]) (arO x) W1 (goO W0.heap.size L (JO own W0 Bok Bn Bl) (fun _ _ => False) pre x W1) := by
  obtain ⟨c, hc, bo, bn, bl, T⟩ := hj
  have hT : ∀ b, b ∈ sd :: Bm :: Bs :: md :: mo :: mf :: (o.toList ++ fl.toList) → b ∉ [Bok, Bn, Bl] := fun b hb => by simpa using hfr b hb
  have hS1 := hS.turn T fun b hb => hT b (by rcases mem_fp.1 hb with rfl | h | h <;> simp [*])
  have hM1 := hM.turn T (hT _ (by simp)) (hT _ (by simp)) (hT _ (by simp))
  have bm1 := bm.turn T (hT _ (by simp))
  have bs1 := bs.turn T (hT _ (by simp))
  have hV : Vars [Bok, Bn, Bl] 96 W1 := fun b hb => by
    simp only [List.mem_cons, List.not_mem_nil, or_false] at hb
    rcases hb with rfl | rfl | rfl
    · exact ⟨_, _, by decide, bo⟩
    · exact ⟨_, _, by decide, bn⟩
    · exact ⟨_, _, by decide, bl⟩
  obtain ⟨⟨xa, xn⟩, y, hok, hfit, hhas⟩ := x
  refine ⟨enters_of Tryz.func39 (by kernel_rfl) rfl, (shows1 hS1 hM1 bm1 bs1 bo bn bl (by omega) hok hhas).mono ?_⟩
  rintro e W' ⟨rfl, r, hr, h1, h2, h3, T'⟩
  refine ⟨true, rfl, T'.keepsFrom hV _, ?_⟩
  rw [if_pos rfl]
  refine ⟨⟨c && r, fun hch => ?_, h1, ?_, ?_, T.trans T'⟩, T'.keepS fun b hb => ⟨?_, by simpa using (hL b hb).2⟩, T'.keepT hV⟩
  · rw [hc hch.pre, hr ?_]; rfl
    by_cases h0 : pre.length = 0
    · exact .inl h0
    · exact .inr (hch.last h0)
  · simpa using h2
  · rw [lastP_snoc]; exact h3
  · have := (hL b hb).1
    have := T.size
    omega
end Go.Proofs.YtpgcnjoodoabhaaGreat

