/-
  The statements' Fibs: the walk.
-/
import Derived.Test.YtdeiolpcppibgaaLpI
namespace Go.Proofs.Ytdeiolpcppibgaa
open Go.RowKit Go.Maps Fm
attribute [local go_sem] Oper.semAt_some

theorem mod_n (z : Int) {n : Nat} (h1 : 1 ≤ n) (h2 : n ≤ 8) : ∃ c : Nat, c < n ∧ wrap64 ((IntKind.u64.wrap z).tmod (n : Int)) = (c : Int) := by
  have h0 : 0 ≤ IntKind.u64.wrap z := by
    simp only [IntKind.wrap, IntKind.bits, IntKind.signed]
    simp
    omega
  obtain ⟨k, hk⟩ := Int.eq_ofNat_of_zero_le h0
  rw [hk]
  have hlt : k % n < n := Nat.mod_lt _ (by omega)
  have e : ((k : Nat) : Int).tmod (n : Int) = ((k % n : Nat) : Int) := by
    rw [Int.tmod_eq_emod_of_nonneg (by omega)]
    exact (Int.natCast_emod k n).symm
  refine ⟨k % n, hlt, ?_⟩
  rw [e, IntWalk.wrap64_in _ (by omega)]
theorem mask_i (z : Int) (m : Nat) (hm : m ≤ 1000) : ∃ c : Nat, c ≤ m ∧ bits .and .i64 z m = (c : Int) := by
  have h1 : (BitVec.ofInt 64 z &&& BitVec.ofInt 64 m).toNat ≤ m := by
    rw [BitVec.toNat_and]
    refine Nat.le_trans Nat.and_le_right ?_
    simp
    omega
  refine ⟨(BitVec.ofInt 64 z &&& BitVec.ofInt 64 m).toNat, h1, ?_⟩
  have e : bits .and .i64 z m = IntKind.i64.wrap ((BitVec.ofInt 64 z &&& BitVec.ofInt 64 m).toNat : Int) := rfl
  rw [e]
  generalize (BitVec.ofInt 64 z &&& BitVec.ofInt 64 m).toNat = n at *
  simp only [IntKind.wrap, IntKind.bits, IntKind.signed]
  simp
  omega
/-- a list of three numbers each in memory -/
structure InT (w : World) (A : Option Addr) (len cap : Nat) (f : Nat → Nat → Int) : Prop where
  hm : len ≤ maxLen
  hc : len ≤ cap
  hA : 0 < len → ∃ b off, A = some ⟨b, off, none⟩
  hR : ∀ b off, A = some ⟨b, off, none⟩ → ∀ i, i < len → ∀ j, j < 3 → w.cell? ⟨b, off + i * 3 + j, none⟩ = some (.int .i64 (f i j))
/-- while they grow -/
structure Fw (w : World) (n k : Nat) (wr : World) : Prop where
  ex : ∃ vs fs, Fo wr w.heap.size n k vs fs
  lt : w.heap.size < wr.heap.size
  below : Below w.heap.size w wr
theorem Fw.held {w w1 w2 : World} {n k : Nat} (h : Fw w n k w1) (hb : Below w1.heap.size w1 w2) : Fw w n k w2 := by
  obtain ⟨vs, fs, hF⟩ := h.ex
  exact ⟨⟨vs, fs, hF.held h.lt hb⟩, Nat.lt_of_lt_of_le h.lt hb.size, h.below.trans (hb.mono h.below.size)⟩
/-- the four prefixes, picked by a number -/
theorem four_at {m : Nat} (hm : m ≤ 3) (w : World) : ∃ (pa : Nat) (pn : Int), (w.alloc (.cells #[.int .u32 167772160, .int .i64 8, .int .u32 167837696, .int .i64 16, .int .u32 0, .int .i64 0, .int .u32 167838211, .int .i64 32] 34)).cell? ⟨w.heap.size, m * 2, none⟩ = some (.int .u32 pa) ∧ (w.alloc (.cells #[.int .u32 167772160, .int .i64 8, .int .u32 167837696, .int .i64 16, .int .u32 0, .int .i64 0, .int .u32 167838211, .int .i64 32] 34)).cell? ⟨w.heap.size, m * 2 + 1, none⟩ = some (.int .i64 pn) ∧ pa < 4294967296 ∧ 0 ≤ pn ∧ pn ≤ 32 := by
  have hb := Blk.new w 34 #[.int .u32 167772160, .int .i64 8, .int .u32 167837696, .int .i64 16, .int .u32 0, .int .i64 0, .int .u32 167838211, .int .i64 32]
  have h4 : m = 0 ∨ m = 1 ∨ m = 2 ∨ m = 3 := by omega
  rcases h4 with rfl | rfl | rfl | rfl
  · exact ⟨167772160, 8, hb.at_ 0, hb.at_ 1, by omega, by omega, by omega⟩
  · exact ⟨167837696, 16, hb.at_ 2, hb.at_ 3, by omega, by omega, by omega⟩
  · exact ⟨0, 0, hb.at_ 4, hb.at_ 5, by omega, by omega, by omega⟩
  · exact ⟨167838211, 32, hb.at_ 6, hb.at_ 7, by omega, by omega, by omega⟩
set_option maxRecDepth 100000 in
set_option maxHeartbeats 2000000 in
theorem fibs_any {w : World} {A : Option Addr} {len cap n : Nat} {f : Nat → Nat → Int} (h : InT w A len cap f) (hl : len ≤ 40) (h1 : 1 ≤ n) (h8 : n ≤ 8) :
    Calls Try.prog 7 #[.int .i64 (n : Int), .slice A len cap] w fun e w' => ∃ fss, e = .returned (.slice (some ⟨w.heap.size, 0, none⟩) n n) ∧ fss.length = n ∧ InF w' w.heap.size n fss ∧ Below w.heap.size w w' ∧ ∀ i (hi : i < fss.length), ∀ e ∈ fss[i], 0 ≤ e.nx := by
  have hmk := run_make_fibs n (by omega)
  have hlc := h.hc
  have H := Lib.hid h
  clear h
  have S0 := Lib.hid (show Fw w n 0 (w.alloc (.cells (Array.replicate n (.slice none 0 0)) 37)) from ⟨⟨_, _, Fo.new w n⟩, by rw [size_new]; omega, below_new _ _⟩)
  go_enter Try.func7, Try.ntmps7
  go_wp2_with fail
  clear hmk
  generalize w.alloc (.cells (Array.replicate n (.slice none 0 0)) 37) = w1 at *
  go_loopw [15] (fun i wr => ∃ k : Nat, i = .int .i64 k ∧ k ≤ len ∧ Hid (Fw w n k wr)) (fun i _ => len - (intOf i).toNat)
  case atStart => exact ⟨0, rfl, Nat.zero_le _, S0.out⟩
  case round =>
    clear S0
    obtain ⟨k, rfl, hk, S⟩ := hrel
    by_cases hkl : k < len
    · have hkz : (k : Int) < (len : Int) := by omega
      have hkc : (k : Int) < (cap : Int) := by omega
      have hnz : (1 : Int) ≤ (n : Int) := by omega
      obtain ⟨b, off, rfl⟩ := H.out.hA (by omega)
      have c0 := held S.out.below (H.out.hR b off rfl k hkl 0 (by omega))
      have c1 := held S.out.below (H.out.hR b off rfl k hkl 1 (by omega))
      have c2 := held S.out.below (H.out.hR b off rfl k hkl 2 (by omega))
      rw [Nat.add_zero] at c0
      generalize f k 0 = z0 at c0
      generalize f k 1 = z1 at c1
      generalize f k 2 = z2 at c2
      obtain ⟨i, hi, hmi⟩ := mod_n z0 h1 h8
      have n0 := Blk.new wr 45 #[.int .i64 z0, .int .i64 z1, .int .i64 z2]
      have m0 := n0.at_ 0
      have m1 := n0.at_ 1
      have m2 := n0.at_ 2
      have hb1 := below_new wr (.cells #[.int .i64 z0, .int .i64 z1, .int .i64 z2] 45)
      have hs1 := size_new wr (.cells #[.int .i64 z0, .int .i64 z1, .int .i64 z2] 45)
      go_upto_region 6 with fail
      rw [hmi]
      clear hmi c0 c1 c2 m0
      generalize (IntKind.u64.wrap z0).tmod (n : Int) = y1
      generalize IntKind.u64.wrap z0 = y2
      have S2 := Lib.hid (S.out.held hb1)
      clear S hb1 m1 m2
      generalize hq0 : wr.heap.size = q0 at *
      generalize wr.alloc (.cells #[.int .i64 z0, .int .i64 z1, .int .i64 z2] 45) = w2 at *
      have HS1 := Lib.hid hs1
      clear hs1
      obtain ⟨m, hm, hmm⟩ := mask_i z1 3 (by omega)
      replace hmm : bits .and .i64 z1 3 = (m : Int) := hmm
      have hm4 : (m : Int) < 4 := by omega
      obtain ⟨pa, pn, a0, a1, hpa, hpn0, hpn1⟩ := four_at hm w2
      have hb3 := below_new w2 (.cells #[.int .u32 167772160, .int .i64 8, .int .u32 167837696, .int .i64 16, .int .u32 0, .int .i64 0, .int .u32 167838211, .int .i64 32] 34)
      have x1 := (n0.held hb3).at_ 1
      go_upto_region 7 with fail
      clear a0 a1 hmm hm4 x1
      have S3 := Lib.hid (S2.out.held hb3)
      have n3 := n0.held hb3
      clear S2 hb3 n0
      have hs3 := size_new w2 (.cells #[.int .u32 167772160, .int .i64 8, .int .u32 167837696, .int .i64 16, .int .u32 0, .int .i64 0, .int .u32 167838211, .int .i64 32] 34)
      generalize hqz : w2.heap.size = qz at *
      generalize w2.alloc (.cells #[.int .u32 167772160, .int .i64 8, .int .u32 167837696, .int .i64 16, .int .u32 0, .int .i64 0, .int .u32 167838211, .int .i64 32] 34) = w3 at *
      rw [← hs3]
      generalize qz + 1 = q9 at *
      obtain ⟨hw, hhw, hmw⟩ := mask_i z2 3 (by omega)
      replace hmw : bits .and .i64 z2 3 = (hw : Int) := hmw
      have hb4 := below_new w3 (.cells #[.int .u32 pa, .int .i64 pn] 34)
      have p4 := Blk.new w3 34 #[.int .u32 pa, .int .i64 pn]
      have hs4 := size_new w3 (.cells #[.int .u32 pa, .int .i64 pn] 34)
      have n4 := n3.held hb4
      have S4 := Lib.hid (S3.out.held hb4)
      clear hb4 S3 n3 hs3 hqz
      generalize hq3 : w3.heap.size = q3 at *
      generalize w3.alloc (.cells #[.int .u32 pa, .int .i64 pn] 34) = w4 at *
      have y0 := p4.at_ 0
      have y1' := p4.at_ 1
      have x2 := n4.at_ 2
      have hs5 := size_new w4 (.cells #[.int .u32 pa, .int .i64 pn, .int .i64 hw, .int .i64 0] 39)
      have hb5 := below_new w4 (.cells #[.int .u32 pa, .int .i64 pn, .int .i64 hw, .int .i64 0] 39)
      have p5 := Blk.new w4 39 #[.int .u32 pa, .int .i64 pn, .int .i64 hw, .int .i64 0]
      have HS4 := Lib.hid hs4
      clear hs4
      go_upto_region 8 with fail
      have n5 := n4.held hb5
      have hgq := S4.out.lt
      clear n4 p4 y0 y1' x2 hmw hs5
      generalize hq5 : w4.heap.size = q5 at *
      generalize w4.alloc (.cells #[.int .u32 pa, .int .i64 pn, .int .i64 hw, .int .i64 0] 39) = w5 at *
      have x2 := n5.at_ 2
      have e2 := p5.at_ 2
      have e3 := p5.at_ 3
      have f3 := p5.free 3
      have G := Lib.hid (And.intro hb5 (And.intro p5 (And.intro hgq (And.intro hq5 (And.intro hpa (And.intro hpn0 hpn1))))))
      clear hb5 p5 hgq hpa hpn0 hpn1 n5 hq5
      by_cases hh : hw = 2
      case' pos =>
        have d1 : ((hw : Int) == 2) = true := beq_iff_eq.2 (by omega)
        go_upto_region 10 with fail
        obtain ⟨nx, hnx, hmn⟩ := mask_i (z2 / 4) 7 (by omega)
        replace hmn : bits .and .i64 (z2 / 4) 7 = (nx : Int) := hmn
        rw [hmn]
        clear hmn
        have p6 : Blk 39 (w5.setCell ⟨q5, 3, none⟩ (.int .i64 (nx : Int))) q5 #[.int .u32 pa, .int .i64 pn, .int .i64 hw, .int .i64 nx] := G.out.2.1.store 3 (.int .i64 (nx : Int))
        have b6 : Below q5 w4 (w5.setCell ⟨q5, 3, none⟩ (.int .i64 (nx : Int))) := G.out.1.trans ((Turn.setCell (L := [q5]) w5 (by simp) _).below (fun i hi => by simp at hi; omega) (Nat.le_of_lt G.out.2.1.lt))
        have S6 := Lib.hid (And.intro S4.out (And.intro (show Below w4.heap.size w4 (w5.setCell ⟨q5, 3, none⟩ (.int .i64 (nx : Int))) by rw [G.out.2.2.2.1]; exact b6) (And.intro hnx hhw)))
        clear S4 b6 x2 e2 e3 f3 d1 hh hnx hhw
        generalize w5.setCell ⟨q5, 3, none⟩ (.int .i64 (nx : Int)) = w6 at *
      case' neg =>
        have d1 : ((hw : Int) == 2) = false := beq_eq_false_iff_ne.2 (by omega)
        go_upto_region 10 with fail
        obtain ⟨nx, hnx, p6⟩ : ∃ nx : Nat, nx ≤ 7 ∧ Blk 39 w5 q5 #[.int .u32 pa, .int .i64 pn, .int .i64 hw, .int .i64 nx] := ⟨0, by omega, G.out.2.1⟩
        have S6 := Lib.hid (And.intro S4.out (And.intro (show Below w4.heap.size w4 w5 by rw [G.out.2.2.2.1]; exact G.out.1) (And.intro hnx hhw)))
        clear S4 x2 e2 e3 f3 d1 hh hnx hhw
        generalize w5 = w6 at *
      all_goals
        have hgq := G.out.2.2.1
        obtain ⟨⟨vs, fs, hF4⟩, hlt4, hbl4⟩ := S6.out.1
        have hFo := hF4.held hlt4 S6.out.2.1
        have hlt6 := Nat.lt_of_lt_of_le hlt4 S6.out.2.1.size
        have hbl6 := hbl4.trans (S6.out.2.1.mono hbl4.size)
        have hown := fun b (hb : (vs i).ownBlock = some b) => (hF4.own i hi).lt hb
        rw [G.out.2.2.2.1] at hown
        clear hF4 hlt4 hbl4
        have he : (⟨pa, pn, hw, nx⟩ : En).Fits := ⟨G.out.2.2.2.2.1, by have := G.out.2.2.2.2.2.1; show (-9223372036854775808 : Int) ≤ pn; omega, by have := G.out.2.2.2.2.2.2; show pn ≤ (9223372036854775807 : Int); omega, by have := S6.out.2.2.2; show (-9223372036854775808 : Int) ≤ (hw : Int); omega, by have := S6.out.2.2.2; show (hw : Int) ≤ (9223372036854775807 : Int); omega, by have := S6.out.2.2.1; show (-9223372036854775808 : Int) ≤ (nx : Int); omega, by have := S6.out.2.2.1; show (nx : Int) ≤ (9223372036854775807 : Int); omega⟩
        obtain ⟨p0, c0, hv, hc0⟩ := (hFo.own i hi).form
        have hfl := (hFo.fit i hi).2
        obtain ⟨g', c', w9, hrun, hO9, hT9, hat9⟩ := Ol.push1 elemE (hFo.drew.own i hi) (show w.heap.size + 1 ≤ w6.drew.heap.size from hlt6) ⟨pa, pn, hw, nx⟩ (by omega) 37
        obtain ⟨L, hL⟩ : ∃ L, (fs i).length = L := ⟨_, rfl⟩
        have hP := hFo.drew.push (show w.heap.size < w6.drew.heap.size from hlt6) hi ⟨he, by show (0 : Int) ≤ (nx : Int); omega⟩ hO9 hT9 hat9
        rw [hL] at hrun hO9 hv hP
        have r0 := (hFo.drew.row i hi).1
        rw [hv] at r0 hrun hT9 hat9 hown
        have k0 : w6.drew.cell? ⟨q5, 0, none⟩ = some (.int .u32 pa) := p6.at_ 0
        have k1 : w6.drew.cell? ⟨q5, 1, none⟩ = some (.int .i64 pn) := p6.at_ 1
        have k2 : w6.drew.cell? ⟨q5, 2, none⟩ = some (.int .i64 hw) := p6.at_ 2
        have k3 : w6.drew.cell? ⟨q5, 3, none⟩ = some (.int .i64 nx) := p6.at_ 3
        have hiz : (i : Int) < (n : Int) := by omega
        have hrun2 : (Builtin.append_ #[37, 37] 37 #[.slice p0 L c0, .slice (some ⟨w6.drew.heap.size, 0, none⟩) 1 1]).run Try.prog (w6.drew.alloc (.cells #[.int .u32 pa, .int .i64 pn, .int .i64 hw, .int .i64 nx] 39)) = .ok (.slice (some ⟨g', 0, none⟩) (L + 1) c') w9 := hrun
        have hb8 := below_new w6.drew (.cells #[.int .u32 pa, .int .i64 pn, .int .i64 hw, .int .i64 nx] 39)
        have j0 := held hb8 k0
        have j1 := held hb8 k1
        have j2 := held hb8 k2
        have j3 := held hb8 k3
        have jr := held hb8 r0
        have hq6 : q5 < w6.drew.heap.size := p6.lt
        have hg6 : w.heap.size < w6.drew.heap.size := hlt6
        have hn5 : q5 ∉ (Value.slice p0 L c0).ownBlock.toList := fun hm => by
          have := (hown q5 (by simpa using hm)).1
          omega
        have hng : w.heap.size ∉ (Value.slice p0 L c0).ownBlock.toList := fun hm => by
          have := (hown w.heap.size (by simpa using hm)).2
          omega
        have l0 := hT9.cell k0 hn5
        have l1 := hT9.cell k1 hn5
        have l2 := hT9.cell k2 hn5
        have l3 := hT9.cell k3 hn5
        have lr := hT9.cell r0 hng
        have lf : w9.frozen? ⟨w.heap.size, i, none⟩ = false := by
          have h1 := (hFo.drew.row i hi).2
          unfold World.frozen? at h1 ⊢
          rw [hT9.block w.heap.size hg6 hng]
          exact h1
        have hB9 : Below w.heap.size w (w9.setCell ⟨w.heap.size, i, none⟩ (.slice (some ⟨g', 0, none⟩) (L + 1) c')) := by
          refine (hbl6.drew.trans (hT9.below (B := w.heap.size) (fun x hx => ?_) (Nat.le_of_lt hg6))).trans ((Turn.setCell (L := [w.heap.size]) w9 (by simp) _).below (fun x hx => by simp at hx; omega) (Nat.le_of_lt (Nat.lt_of_lt_of_le hg6 hT9.size)))
          have := (hown x (by simpa using hx)).2
          omega
        have Z := Lib.hid (And.intro hP (And.intro hB9 (show w.heap.size < (w9.setCell ⟨w.heap.size, i, none⟩ (.slice (some ⟨g', 0, none⟩) (L + 1) c')).heap.size from Nat.lt_of_lt_of_le hg6 (Nat.le_trans hT9.size (Turn.setCell (L := [w.heap.size]) w9 (by simp) _).size))))
        have hqg : w.heap.size ≠ q5 := by omega
        clear hP hB9 hT9 hat9 hO9 hrun hv hFo hown hn5 hng hbl6 hlt6 hg6 hq6 hL hc0 hfl he hb8 p6 S6 G hgq
        refine wp_region_held_drew (S := fun u => u.cell? ⟨q5, 0, none⟩ = some (.int .u32 pa) ∧ u.cell? ⟨q5, 1, none⟩ = some (.int .i64 pn) ∧ u.cell? ⟨q5, 2, none⟩ = some (.int .i64 hw) ∧ u.cell? ⟨q5, 3, none⟩ = some (.int .i64 nx)) (by kernel_rfl) ⟨k0, k1, k2, k3⟩ (fun hHeld => ?_)
        generalize w6.drew = w7 at *
        refine take_list (i := 0) (v := .slice (some ⟨w.heap.size, 0, none⟩) n n) rfl (by kernel_rfl) (by kernel_rfl) (by kernel_rfl) (fun _ _ _ h => h) (.inl ⟨rfl, ?_⟩) hHeld ?_
        · (intro w hSw; go_simp)
        go_frame
        refine take_list (i := 1) (v := .int .i64 i) rfl (by kernel_rfl) (by kernel_rfl) (by kernel_rfl) (fun _ _ _ h => h) (.inl ⟨rfl, ?_⟩) hHeld ?_
        · (intro w hSw; go_simp)
        go_frame
        refine take_list (i := 2) (v := .slice (some ⟨w.heap.size, 0, none⟩) n n) rfl (by kernel_rfl) (by kernel_rfl) (by kernel_rfl) (fun _ _ _ h => h) (.inl ⟨rfl, ?_⟩) hHeld ?_
        · (intro w hSw; go_simp)
        go_frame
        refine take_list (i := 3) (v := .int .i64 i) rfl (by kernel_rfl) (by kernel_rfl) (by kernel_rfl) (fun _ _ _ h => h) (.inl ⟨rfl, ?_⟩) hHeld ?_
        · (intro w hSw; go_simp)
        go_frame
        refine take_list (i := 4) (v := .pointer (some ⟨w.heap.size, i, none⟩)) rfl (by kernel_rfl) (by kernel_rfl) (by kernel_rfl) (fun _ _ _ h => h) (.inl ⟨rfl, ?_⟩) hHeld ?_
        · (intro w hSw; go_simp)
        go_frame
        refine take_list (i := 6) (v := .agg #[.int .u32 pa, .int .i64 pn, .int .i64 hw, .int .i64 nx]) rfl (by kernel_rfl) (by kernel_rfl) (by kernel_rfl) (fun _ _ _ h => h) (.inl ⟨rfl, ?_⟩) hHeld ?_
        · (intro w hSw; go_simp)
        go_frame
        refine ready_two (i := 5) (i' := 7) rfl rfl (by kernel_rfl) (fun K hK => ?_) (fun K hK => ?_)
        · go_simp
          refine hK.out _ _ ⟨k0, k1, k2, k3⟩ (fun hHeld => ?_)
          clear hK K
          try go_frame
          refine ready_list (i := 7) rfl (by kernel_rfl) (fun K hK => ?_)
          go_simp
          refine hK.out _ _ ⟨j0, j1, j2, j3⟩ (fun hHeld => ?_)
          clear hK K
          try go_frame
          refine ready_list (i := 8) rfl (by kernel_rfl) (fun K hK => ?_)
          refine step_append_run rfl _ _ _ rfl _ _ _ _ _ ?_ ?_ ?_ hrun2 ?_ <;> first | rfl | skip
          refine hK.out _ _ ⟨l0, l1, l2, l3⟩ (fun hHeld => ?_)
          clear hK K j0 j1 j2 j3 jr hrun2
          try go_frame
          refine ready_list (i := 9) rfl (by kernel_rfl) (fun K hK => ?_)
          go_simp
          refine hK.out _ _ ⟨l0, l1, l2, l3⟩ (fun hHeld => ?_)
          clear hK K
          try go_frame
          refine ready_list (i := 10) rfl (by kernel_rfl) (fun K hK => ?_)
          go_simp
          refine hK.out _ _ ⟨?_, ?_, ?_, ?_⟩ (fun hHeld => ?_)
          · rw [World.cell?_setCell_far _ _ _ _ hqg]; exact l0
          · rw [World.cell?_setCell_far _ _ _ _ hqg]; exact l1
          · rw [World.cell?_setCell_far _ _ _ _ hqg]; exact l2
          · rw [World.cell?_setCell_far _ _ _ _ hqg]; exact l3
          clear hK K
          refine wpAnyH_done (by kernel_rfl) ?_ _
          try go_frame
          clear hHeld lr lf l0 l1 l2 l3
          have Z2 := Lib.hid (show Fw w n (k + 1) _ from ⟨⟨_, _, Z.out.1⟩, Z.out.2.2, Z.out.2.1⟩)
          clear Z
          generalize w9.setCell ⟨w.heap.size, i, none⟩ (.slice (some ⟨g', 0, none⟩) (L + 1) c') = wZ at *
          go_wp2_with fail
          go_roundw
          case rel => exact ⟨k + 1, by go_num, by omega, Z2.out⟩
          case measure => simp [intOf]; omega
        · go_simp
          refine hK.out _ _ ⟨j0, j1, j2, j3⟩ (fun hHeld => ?_)
          clear hK K
          try go_frame
          refine ready_list (i := 5) rfl (by kernel_rfl) (fun K hK => ?_)
          go_simp
          refine hK.out _ _ ⟨j0, j1, j2, j3⟩ (fun hHeld => ?_)
          clear hK K
          try go_frame
          refine ready_list (i := 8) rfl (by kernel_rfl) (fun K hK => ?_)
          refine step_append_run rfl _ _ _ rfl _ _ _ _ _ ?_ ?_ ?_ hrun2 ?_ <;> first | rfl | skip
          refine hK.out _ _ ⟨l0, l1, l2, l3⟩ (fun hHeld => ?_)
          clear hK K j0 j1 j2 j3 jr hrun2
          try go_frame
          refine ready_list (i := 9) rfl (by kernel_rfl) (fun K hK => ?_)
          go_simp
          refine hK.out _ _ ⟨l0, l1, l2, l3⟩ (fun hHeld => ?_)
          clear hK K
          try go_frame
          refine ready_list (i := 10) rfl (by kernel_rfl) (fun K hK => ?_)
          go_simp
          refine hK.out _ _ ⟨?_, ?_, ?_, ?_⟩ (fun hHeld => ?_)
          · rw [World.cell?_setCell_far _ _ _ _ hqg]; exact l0
          · rw [World.cell?_setCell_far _ _ _ _ hqg]; exact l1
          · rw [World.cell?_setCell_far _ _ _ _ hqg]; exact l2
          · rw [World.cell?_setCell_far _ _ _ _ hqg]; exact l3
          clear hK K
          refine wpAnyH_done (by kernel_rfl) ?_ _
          try go_frame
          clear hHeld lr lf l0 l1 l2 l3
          have Z2 := Lib.hid (show Fw w n (k + 1) _ from ⟨⟨_, _, Z.out.1⟩, Z.out.2.2, Z.out.2.1⟩)
          clear Z
          generalize w9.setCell ⟨w.heap.size, i, none⟩ (.slice (some ⟨g', 0, none⟩) (L + 1) c') = wZ at *
          go_wp2_with fail
          go_roundw
          case rel => exact ⟨k + 1, by go_num, by omega, Z2.out⟩
          case measure => simp [intOf]; omega
    · have hke : k = len := by omega
      have dkz : decide ((k : Int) < (len : Int)) = false := decide_eq_false (by omega)
      clear hkl
      go_wp2_with fail
      go_ret
      obtain ⟨⟨vs, fs, hFo⟩, hlt, hbl⟩ := S.out
      exact ⟨_, rfl, by simp, hFo.inF (by omega), hbl, hFo.pos⟩
end Go.Proofs.Ytdeiolpcppibgaa
