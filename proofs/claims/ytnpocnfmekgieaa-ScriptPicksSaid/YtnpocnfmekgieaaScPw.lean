/-
  ScriptPicks: a crash's picks.
-/
import Derived.Test.YtnpocnfmekgieaaScC
import Derived.Test.YtnpocnfmekgieaaScH
import Derived.Lib.QuietBelow
namespace Go.Proofs.Ytnpocnfmekgieaa
open Go.RowKit Go.Maps Sc

theorem val_four' (a b c d : Nat) : val [a, b, c, d] = a * 16777216 + b * 65536 + c * 256 + d := by simp only [val, List.foldl]; omega
theorem four_at {b : List Nat} {o : Nat} (h : o + 4 ≤ b.length) : (b.drop o).take 4 = [b.getD o 0, b.getD (o + 1) 0, b.getD (o + 2) 0, b.getD (o + 3) 0] := by
  apply List.ext_getElem
  · simp; omega
  · intro k h1 h2
    have hk : k = 0 ∨ k = 1 ∨ k = 2 ∨ k = 3 := by simp at h2; omega
    rcases hk with rfl | rfl | rfl | rfl <;> simp [List.getD, show o < b.length by omega, show o + 1 < b.length by omega, show o + 2 < b.length by omega, show o + 3 < b.length by omega]
theorem sixth {p : List UInt8} {k j : Nat} (hj : j < 6) (h : 6 * k + 6 ≤ p.length) : (nats ((p.drop (6 * k)).take 6)).getD j 0 = (nats p).getD (6 * k + j) 0 := by
  have h1 : 6 * k + j < p.length := by omega
  simp [nats, List.getD, List.getElem?_drop, hj]
theorem str_part {s : ByteArray} {p : List UInt8} (hs : s = ⟨p.toArray⟩) {k : Nat} : s.extract (6 * k) (6 * k + 6) = ⟨((p.drop (6 * k)).take 6).toArray⟩ := by
  apply ByteArray.ext
  rw [hs]
  simp [ByteArray.data_extract]
set_option maxHeartbeats 400000 in
theorem str_cut {s : ByteArray} {p : List UInt8} (hs : s = ⟨p.toArray⟩) {k : Nat} (h : 6 * k + 6 ≤ p.length) (W : World) : (Instr.slice 9 (.string s) (some (.int .i64 (6 * (k : Int)))) (some (.int .i64 (6 * (k : Int) + 6))) none).run Try.prog W = .ok (.string ⟨((p.drop (6 * k)).take 6).toArray⟩) W := by
  have hz : s.size = p.length := by rw [hs]; exact str_size p
  have d1 : (6 * (k : Int) + 6) ≤ (s.size : Int) := by omega
  have d2 : (0 : Int) ≤ 6 * (k : Int) := by omega
  have d3 : (6 * (k : Int)) ≤ 6 * (k : Int) + 6 := by omega
  have e1 : s.extract (6 * k) (6 * k + 6) = ⟨((p.drop (6 * k)).take 6).toArray⟩ := by
    apply ByteArray.ext
    rw [hs]
    simp [ByteArray.data_extract]
  have t1 : (6 * (k : Int)).toNat = 6 * k := by omega
  have t2 : (6 * (k : Int) + 6).toNat = 6 * k + 6 := by omega
  have hlt : (6 * (k : Int) + 6) ≤ (p.length : Int) := by omega
  subst hs
  go_simp

set_option maxRecDepth 100000 in
set_option maxHeartbeats 8000000 in
theorem spicks_any (s : ByteArray) (hmx : s.size ≤ maxLen) {w : World} : Calls Try.prog 5 #[.string s] w fun x w' => x = .returned (.bool true) ∧ Below w.heap.size w w' := by
  obtain ⟨p, hs⟩ : ∃ p : List UInt8, s = ⟨p.toArray⟩ := ⟨s.data.toList, rfl⟩
  have hsz : s.size = p.length := by rw [hs]; exact str_size p
  have hmx' : s.size ≤ 9223372036854775807 := by unfold maxLen at hmx; omega
  clear hmx
  go_enter Try.func5, Try.ntmps5
  have S0 := Lib.hid (And.intro hs hsz)
  clear hs hsz
  go_upto_region 3 with (go_at_call 7; refine (head_any w).mono ?_; rintro e w1 ⟨rfl, hb1⟩)
  have B1 := Lib.hid hb1
  clear hb1
  cases hl : decide ((300 : Int) < (s.size : Int)) with
  | true =>
    go_wp2_with fail
    go_ret
    exact ⟨rfl, B1.out⟩
  | false =>
    have hp : p.length ≤ 300 := by have := of_decide_eq_false hl; have := S0.out.2; omega
    have HC0 := chosen_any (e := ⟨1, 0, 0, 0, 0, 0, p⟩) (by show p.length ≤ 5000; omega) w1
    have HC : Calls Try.prog 16 #[.agg #[.int .i64 1, .int .i64 0, .int .i64 0, .int .i64 0, .int .u32 0, .int .i64 0, .string s]] w1 fun x w' => ∃ v, x = .returned v ∧ Op3 w1.heap.size v (Sc.picksOf (nats p)) w' ∧ Below w1.heap.size w1 w' := by rw [S0.out.1]; exact HC0
    clear HC0
    have HP := Lib.hid hp
    go_wp2_with fail
    refine HC.mono ?_
    rintro e2 w2 ⟨v, rfl, hO, hb2⟩
    obtain ⟨pa, pc, rfl, -⟩ := hO.form
    have hlen := picks_len (nats p)
    rw [nats_length] at hlen
    rw [hlen]
    obtain ⟨N, hN⟩ : ∃ N, N = p.length / 6 := ⟨_, rfl⟩
    rw [← hN] at hlen ⊢
    have hq : ((N : Int) != (s.size : Int) / 6) = false := by
      rw [bne_eq_false_iff_eq, S0.out.2]; omega
    rw [hlen] at hO
    have O := Lib.hid (And.intro hO (And.intro (next B1.out hb2) (And.intro hN hlen)))
    clear HC hO hb2 hN hlen B1 hp hl
    go_wp2_with fail
    go_loopw [23] (fun v wr => ∃ k : Nat, v = .int .i64 (k : Nat) ∧ k ≤ N ∧ Hid (Below w2.heap.size w2 wr)) (fun v _ => N - (intOf v).toNat)
    case atStart => exact ⟨0, rfl, Nat.zero_le _, Lib.hid (.refl _ _)⟩
    case round =>
      obtain ⟨k, rfl, hkn, R⟩ := hrel
      by_cases hlt : k < N
      · have d1 : decide ((k : Int) < (N : Int)) = true := decide_eq_true (by omega)
        have hp6 : 6 * k + 6 ≤ p.length := by have := O.out.2.2.1; omega
        have hOk := O.out.1.held R.out
        obtain ⟨g, cp, he, h1c, h2c, hc⟩ := Ol.at_ elemP.len hOk (i := k) (by rw [O.out.2.2.2]; exact hlt)
        cases he
        have hpk : (Sc.picksOf (nats p))[k]'(by rw [O.out.2.2.2]; exact hlt) = Sc.six (nats p) k := by simp [Sc.picksOf]
        rw [hpk] at hc
        have hf := four_at (b := nats p) (o := 6 * k + 2) (by rw [nats_length]; omega)
        have x0 : wr.cell? ⟨g, k * 3, none⟩ = some (.int .i64 ((nats p).getD (6 * k) 0 : Nat)) := hc 0 (by omega)
        have x1 : wr.cell? ⟨g, k * 3 + 1, none⟩ = some (.int .i64 (2 * ((nats p).getD (6 * k + 1) 0 : Nat) : Int)) := (hc 1 (by omega)).trans (by simp [Sc.six, pcl])
        have x2 : wr.cell? ⟨g, k * 3 + 2, none⟩ = some (.int .u32 (((nats p).getD (6 * k + 2) 0 : Nat) * 16777216 + ((nats p).getD (6 * k + 3) 0 : Nat) * 65536 + ((nats p).getD (6 * k + 4) 0 : Nat) * 256 + ((nats p).getD (6 * k + 5) 0 : Nat) : Int)) := (hc 2 (by omega)).trans (by
          show some (Value.int .u32 ((val (((nats p).drop (6 * k + 2)).take 4) : Nat) : Int)) = _
          rw [hf, val_four']
          simp)
        have hcut := fun W => str_cut S0.out.1 hp6 W
        have hex := str_part S0.out.1 (k := k)
        have hk50 : k ≤ 50 := by have := HP.out; omega
        obtain ⟨q, hq6⟩ : ∃ q, q = (p.drop (6 * k)).take 6 := ⟨_, rfl⟩
        rw [← hq6] at hcut hex
        obtain ⟨t, ht⟩ : ∃ t : ByteArray, t = ⟨q.toArray⟩ := ⟨_, rfl⟩
        rw [← ht] at hcut hex
        have hex2 : s.extract (6 * (k : Int)).toNat (6 * (k : Int) + 6).toNat = t := by rw [← hex]; congr 1 <;> omega
        have hql : q.length = 6 := by rw [hq6]; simp; omega
        have htz : t.size = 6 := by rw [ht, str_size, hql]
        have cvt : ∀ W : World, (convert 9 32 (.string t)).run Try.prog W = .ok (.slice (some ⟨W.heap.size, 0, none⟩) t.size (grownCap W t.size 0 5)) (Lib.bytesWorld W 5 t) := fun W => Lib.run_convert_string_bytes (u := .string) W 9 32 5 t (by kernel_rfl) (by kernel_rfl) (by kernel_rfl)
        rw [htz] at cvt
        have hg : ∀ j, j < 6 → (nats q).getD j 0 = (nats p).getD (6 * k + j) 0 := fun j hj => by rw [hq6]; exact sixth hj hp6
        have hlt0 : ∀ j, (nats p).getD j 0 < 256 := fun j => getD_lt (nats_lt p) j
        have b0 := hlt0 (6 * k)
        have b1 := hlt0 (6 * k + 1)
        have b2 := hlt0 (6 * k + 2)
        have b3 := hlt0 (6 * k + 3)
        have b4 := hlt0 (6 * k + 4)
        have b5 := hlt0 (6 * k + 5)
        have e0 := hg 0 (by omega)
        have e1 := hg 1 (by omega)
        have e2 := hg 2 (by omega)
        have e3 := hg 3 (by omega)
        have e4 := hg 4 (by omega)
        have e5 := hg 5 (by omega)
        rw [Nat.add_zero] at e0
        have E := Lib.hid (And.intro (And.intro e0 (And.intro e1 (And.intro e2 (And.intro e3 (And.intro e4 e5))))) (And.intro ht hql))
        clear e0 e1 e2 e3 e4 e5 hg hlt0 hq6 hf hpk hc hOk ht hp6
        generalize (nats p).getD (6 * k) 0 = y0 at *
        generalize (nats p).getD (6 * k + 1) 0 = y1 at *
        generalize (nats p).getD (6 * k + 2) 0 = y2 at *
        generalize (nats p).getD (6 * k + 3) 0 = y3 at *
        generalize (nats p).getD (6 * k + 4) 0 = y4 at *
        generalize (nats p).getD (6 * k + 5) 0 = y5 at *
        have BP := Blk.new wr 47 #[.int .i64 (y0 : Nat), .int .i64 (2 * (y1 : Int)), .int .u32 ((y2 : Int) * 16777216 + (y3 : Int) * 65536 + (y4 : Int) * 256 + (y5 : Int))]
        have hbp := below_new wr (.cells #[.int .i64 (y0 : Nat), .int .i64 (2 * (y1 : Int)), .int .u32 ((y2 : Int) * 16777216 + (y3 : Int) * 65536 + (y4 : Int) * 256 + (y5 : Int))] 47)
        have X := Lib.hid (And.intro BP (R.out.trans (hbp.mono R.out.size)))
        clear BP hbp
        go_upto_region 11 with fail
        generalize wr.alloc _ = w3 at *
        generalize wr.heap.size = bx at *
        clear x0 x1 x2
        go_upto_region 12 with fail
        clear hcut cvt hex hex2
        have hSl := bw_sl w3 t q E.out.2.1 (by have := E.out.2.2; omega) E.out.2.2.symm
        have hBw := bw_below w3 5 t
        have BP2 := X.out.1.held hBw
        have hB2 := X.out.2.trans (hBw.mono X.out.2.size)
        generalize Lib.bytesWorld w3 5 t = w4 at *
        have v0 := hSl.at_ (k := 0) (by omega)
        have v1 := hSl.at_ (k := 1) (by omega)
        have v2 := hSl.at_ (k := 2) (by omega)
        have v3 := hSl.at_ (k := 3) (by omega)
        have v4 := hSl.at_ (k := 4) (by omega)
        have v5 := hSl.at_ (k := 5) (by omega)
        rw [E.out.1.1] at v0
        rw [E.out.1.2.1] at v1
        rw [E.out.1.2.2.1] at v2
        rw [E.out.1.2.2.2.1] at v3
        rw [E.out.1.2.2.2.2.1] at v4
        rw [E.out.1.2.2.2.2.2] at v5
        simp only [Nat.zero_add, Nat.add_zero] at v0 v1 v2 v3 v4 v5
        have p0 : w4.cell? ⟨bx, 0, none⟩ = some (.int .i64 (y0 : Nat)) := BP2.at_ 0
        have p1 : w4.cell? ⟨bx, 1, none⟩ = some (.int .i64 (2 * (y1 : Int))) := BP2.at_ 1
        have p2 : w4.cell? ⟨bx, 2, none⟩ = some (.int .u32 ((y2 : Int) * 16777216 + (y3 : Int) * 65536 + (y4 : Int) * 256 + (y5 : Int))) := BP2.at_ 2
        have k0 := fun d os => cell_regrown v0 d os
        have k1 := fun d os => cell_regrown v1 d os
        have k2 := fun d os => cell_regrown v2 d os
        have k3 := fun d os => cell_regrown v3 d os
        have k4 := fun d os => cell_regrown v4 d os
        have k5 := fun d os => cell_regrown v5 d os
        have z0 := fun d os => cell_regrown p0 d os
        have z1 := fun d os => cell_regrown p1 d os
        have z2 := fun d os => cell_regrown p2 d os
        have B4 := Lib.hid hB2
        clear v0 v1 v2 v3 v4 v5 p0 p1 p2 BP2 hSl hBw hB2 X E
        refine wp_region_quiet_below (by kernel_rfl) (by kernel_rfl) ?_
        repeat (go_big_quiet_step (fail))
        refine wpQuiet_nil ?_
        intro _ hw'
        obtain ⟨⟨dq, osq⟩, hw''⟩ := hw'
        subst hw''
        have B5 := Lib.hid (B4.out.trans ((below_regrown w4 dq osq).mono B4.out.size))
        clear k0 k1 k2 k3 k4 k5 z0 z1 z2
        go_wp2_with fail
        go_roundw
        case rel => exact ⟨k + 1, by go_num, by omega, B5⟩
        case measure => simp [intOf]; omega
      · obtain rfl : k = N := by omega
        have d1 : decide ((k : Int) < (k : Int)) = false := decide_eq_false (by omega)
        go_wp2_with fail
        go_ret
        exact ⟨rfl, O.out.2.1.trans (R.out.mono O.out.2.1.size)⟩
end Go.Proofs.Ytnpocnfmekgieaa
