/-
  RouteActs' closure over Prefixes.
-/
import Derived.Test.YtblhijgjidfioaaRePas
import Derived.Test.YtblhijgjidfioaaAddrOrdM
namespace Go.Proofs.Ytblhijgjidfioaa
open Go.RowKit Go.Maps
attribute [local go_sem] Oper.semAt_some

set_option maxHeartbeats 400000 in
theorem less2_any (a n b m : Int) (w : World) :
    Calls Try.prog 21 #[.agg #[.int .u32 a, .int .i64 n], .agg #[.int .u32 b, .int .i64 m]] w fun e w' => e = .returned (.bool (Om.less a n b m)) ∧ Below w.heap.size w w' := by
  go_enter Try.func21, Try.ntmps21
  go_wp2
  all_goals
    go_ret
    exact ⟨ret_bool (by first | (unfold Om.less; rw [decide_eq_decide]; omega) | (unfold Om.less; symm; rw [decide_eq_true_eq]; omega)), next (below_new _ _) (below_new _ _)⟩
theorem less2_true {x y : Pk} (h : ltP x y) (w : World) :
    Calls Try.prog 21 #[.agg #[.int .u32 x.a, .int .i64 x.n], .agg #[.int .u32 y.a, .int .i64 y.n]] w fun e w' => e = .returned (.bool true) ∧ Below w.heap.size w w' := by
  have e : Om.less x.a x.n y.a y.n = true := by
    unfold Om.less
    unfold ltP at h
    rw [decide_eq_true_eq]
    omega
  have := less2_any x.a x.n y.a y.n w
  rw [e] at this
  exact this

set_option maxHeartbeats 4000000 in
set_option maxRecDepth 100000 in
theorem cl3_any {W : World} {G Sn sb N La k ns : Nat} {sf : Pk → Option Value} {la : Pk} (hG : Blk 4 W G #[.bool true]) (hS : Blk 48 W Sn #[.map (some sb)]) (hM : Mk pkE W sb ns sf) (hN : Blk 3 W N #[.int .i64 (k : Int)]) (hL : Blk 32 W La #[.int .u32 la.a, .int .i64 la.n]) (hk : k < 100000)
    {p : Pk} (hp : p.ok) (hs : sf p = some (.bool true)) (hlt : k = 0 ∨ ltP la p) :
    Calls Try.prog 20 #[.agg #[.int .u32 p.a, .int .i64 p.n], .pointer (some ⟨G, 0, none⟩), .pointer (some ⟨Sn, 0, none⟩), .pointer (some ⟨N, 0, none⟩), .pointer (some ⟨La, 0, none⟩)] W fun e W' =>
      e = .returned (.bool true) ∧ Blk 4 W' G #[.bool true] ∧ Blk 3 W' N #[.int .i64 ((k : Int) + 1)] ∧ Blk 32 W' La #[.int .u32 p.a, .int .i64 p.n] ∧ Turn [G, N, La] W W' := by
  obtain ⟨a, n⟩ := p
  have hb := below_new W (.cells #[.int .u32 a, .int .i64 n] 32)
  have ne_of : ∀ {t t' : TypeId} {C C' : Nat} {cs cs' : Array Value}, Blk t W C cs → Blk t' W C' cs' → t ≠ t' → C ≠ C' := fun h1 h2 ht e => by
    unfold Blk at h1 h2
    rw [e, h2] at h1
    cases h1
    exact ht rfl
  have hGN : G ≠ N := ne_of hG hN (by decide)
  have hGL : G ≠ La := ne_of hG hL (by decide)
  have hNL : N ≠ La := ne_of hN hL (by decide)
  have hlook : ∀ w', Below W.heap.size W w' → (Instr.lookup 48 (.map (some sb)) (.agg #[.int .u32 a, .int .i64 n]) false).run Try.prog w' = .ok (.bool true) w' := fun w' hb' => by
    have h2 := (hM.held hb').look (t := 48) (e := 4) (by kernel_rfl) (z := .bool false) (by kernel_rfl) (i := ⟨a, n⟩) hp
    rw [hs] at h2
    exact h2
  have q1 := hlook _ hb
  have q2 := fun w' h => hlook w' (next hb h)
  have PB := Blk.new W 32 #[.int .u32 a, .int .i64 n]
  have HG := hG.held hb
  have HN := hN.held hb
  have HL := hL.held hb
  have s0 := (hS.held hb).at_ 0
  have hPG : W.heap.size ≠ G := fun e => by have := hG.lt; omega
  have hPN : W.heap.size ≠ N := fun e => by have := hN.lt; omega
  have hPL : W.heap.size ≠ La := fun e => by have := hL.lt; omega
  have hT : Turn [G, N, La] W (W.alloc (.cells #[.int .u32 a, .int .i64 n] 32)) := Turn.of_below _ hb
  clear hG hS hM hN hL hs hlook hb ne_of q2
  have fin : ∀ w3, Blk 4 w3 G #[.bool true] → Blk 3 w3 N #[.int .i64 (k : Int)] → Blk 32 w3 La #[.int .u32 la.a, .int .i64 la.n] → Turn [G, N, La] W w3 →
      Blk 4 (((w3.setCell ⟨La, 0, none⟩ (.int .u32 a)).setCell ⟨La, 1, none⟩ (.int .i64 n)).setCell ⟨N, 0, none⟩ (.int .i64 ((k : Int) + 1))) G #[.bool true] ∧ Blk 3 (((w3.setCell ⟨La, 0, none⟩ (.int .u32 a)).setCell ⟨La, 1, none⟩ (.int .i64 n)).setCell ⟨N, 0, none⟩ (.int .i64 ((k : Int) + 1))) N #[.int .i64 ((k : Int) + 1)] ∧
      Blk 32 (((w3.setCell ⟨La, 0, none⟩ (.int .u32 a)).setCell ⟨La, 1, none⟩ (.int .i64 n)).setCell ⟨N, 0, none⟩ (.int .i64 ((k : Int) + 1))) La #[.int .u32 a, .int .i64 n] ∧ Turn [G, N, La] W (((w3.setCell ⟨La, 0, none⟩ (.int .u32 a)).setCell ⟨La, 1, none⟩ (.int .i64 n)).setCell ⟨N, 0, none⟩ (.int .i64 ((k : Int) + 1))) := fun w3 h1 h2 h3 h4 =>
    ⟨((h1.away (p := ⟨La, 0, none⟩) hGL _).away (p := ⟨La, 1, none⟩) hGL _).away (p := ⟨N, 0, none⟩) hGN _, ((h2.away (p := ⟨La, 0, none⟩) hNL _).away (p := ⟨La, 1, none⟩) hNL _).store 0 _, ((h3.store 0 (.int .u32 a)).store 1 (.int .i64 n)).away (p := ⟨N, 0, none⟩) hNL.symm _,
      ((h4.trans (Turn.setCell _ (by simp) _)).trans (Turn.setCell _ (by simp) _)).trans (Turn.setCell _ (by simp) _)⟩
  have FIN := Lib.hid fin
  clear fin
  go_enter Try.func20, Try.ntmps20
  go_upto_region 1 with (fail)
  generalize W.alloc (.cells #[.int .u32 a, .int .i64 n] 32) = w2 at *
  generalize hP : W.heap.size = P at *
  have g0 := HG.at_ 0
  have g1 := HG.free 0
  have n0 := HN.at_ 0
  have l0 := HL.at_ 0
  have l1 := HL.at_ 1
  have p0 := PB.at_ 0
  have p1 := PB.at_ 1
  have X := Lib.hid (And.intro HG (And.intro HN (And.intro HL (And.intro PB hT))))
  clear HG HN HL PB hT hP
  by_cases hk0 : k = 0
  · have hkz : ((k : Int) == 0) = true := by rw [beq_iff_eq]; omega
    go_upto_region 2 with (fail)
    have BG : Blk 4 (w2.setCell ⟨G, 0, none⟩ (.bool true)) G #[.bool true] := X.out.1.store 0 (.bool true)
    have BN := X.out.2.1.away (p := ⟨G, 0, none⟩) hGN.symm (.bool true)
    have BL := X.out.2.2.1.away (p := ⟨G, 0, none⟩) hGL.symm (.bool true)
    have BP := X.out.2.2.2.1.away (p := ⟨G, 0, none⟩) hPG (.bool true)
    have hT : Turn [G, N, La] W (w2.setCell ⟨G, 0, none⟩ (.bool true)) := X.out.2.2.2.2.trans (Turn.setCell _ (by simp) _)
    clear X g0 g1 n0 l0 l1 p0 p1
    generalize w2.setCell ⟨G, 0, none⟩ (.bool true) = w4 at *
    have p0 := BP.at_ 0
    have p1 := BP.at_ 1
    have l0 := BL.at_ 0
    have l1 := (BL.store 0 (.int .u32 a)).at_ 1
    have f0 := BL.free 0
    have f1 := (BL.store 0 (.int .u32 a)).free 1
    have BN2 := (BN.away (p := ⟨La, 0, none⟩) hNL (.int .u32 a)).away (p := ⟨La, 1, none⟩) hNL (.int .i64 n)
    have n0 := BN2.at_ 0
    have n1 := BN2.free 0
    have Y := Lib.hid (FIN.out w4 BG BN BL hT)
    clear BG BN BL BP hT BN2 FIN
    go_wp2_with fail
    go_ret
    subst hk0
    exact ⟨rfl, Y.out⟩
  · have hkz : ((k : Int) == 0) = false := by rw [beq_eq_false_iff_ne]; omega
    have hlt2 : ltP la ⟨a, n⟩ := by
      rcases hlt with h | h
      · exact absurd h hk0
      · exact h
    have hLs := less2_true hlt2 w2
    go_wp2_with fail
    refine hLs.mono ?_
    rintro e w3 ⟨rfl, hb3⟩
    replace X := Lib.hid (And.intro (X.out.1.held hb3) (And.intro (X.out.2.1.held hb3) (And.intro (X.out.2.2.1.held hb3) (And.intro (X.out.2.2.2.1.held hb3) (X.out.2.2.2.2.trans (Turn.of_below _ hb3))))))
    clear hLs hb3 g0 g1 n0 l0 l1 p0 p1 s0 q1
    have g0 := X.out.1.at_ 0
    have g1 := X.out.1.free 0
    go_upto_region 2 with (fail)
    have BG : Blk 4 (w3.setCell ⟨G, 0, none⟩ (.bool true)) G #[.bool true] := X.out.1.store 0 (.bool true)
    have BN := X.out.2.1.away (p := ⟨G, 0, none⟩) hGN.symm (.bool true)
    have BL := X.out.2.2.1.away (p := ⟨G, 0, none⟩) hGL.symm (.bool true)
    have BP := X.out.2.2.2.1.away (p := ⟨G, 0, none⟩) hPG (.bool true)
    have hT : Turn [G, N, La] W (w3.setCell ⟨G, 0, none⟩ (.bool true)) := X.out.2.2.2.2.trans (Turn.setCell _ (by simp) _)
    clear X g0 g1
    generalize w3.setCell ⟨G, 0, none⟩ (.bool true) = w4 at *
    have p0 := BP.at_ 0
    have p1 := BP.at_ 1
    have l0 := BL.at_ 0
    have l1 := (BL.store 0 (.int .u32 a)).at_ 1
    have f0 := BL.free 0
    have f1 := (BL.store 0 (.int .u32 a)).free 1
    have BN2 := (BN.away (p := ⟨La, 0, none⟩) hNL (.int .u32 a)).away (p := ⟨La, 1, none⟩) hNL (.int .i64 n)
    have n0 := BN2.at_ 0
    have n1 := BN2.free 0
    have Y := Lib.hid (FIN.out w4 BG BN BL hT)
    clear BG BN BL BP hT BN2 FIN
    go_wp2_with fail
    go_ret
    exact ⟨rfl, Y.out⟩
end Go.Proofs.Ytblhijgjidfioaa
