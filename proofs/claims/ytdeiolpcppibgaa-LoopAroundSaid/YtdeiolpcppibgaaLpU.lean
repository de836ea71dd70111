/-
  Package loop: Addresses, of two machines: the walk.
-/
import Derived.Test.YtdeiolpcppibgaaLpT
import Derived.Lib.OwnBridge
namespace Go.Proofs.Ytdeiolpcppibgaa
open Go.RowKit Go.Maps Fm

/-- two machines that send the one prefix to each other -/
def twoF : List (List En) := [[⟨167772160, 8, 2, 1⟩], [⟨167772160, 8, 2, 0⟩]]
/-- both addresses, so often -/
def ads (k : Nat) : List Int := (List.replicate k [167772160, 184549375]).flatten
theorem ads_succ (k : Nat) : ads (k + 1) = ads k ++ [167772160, 184549375] := by
  unfold ads
  rw [List.replicate_succ', List.flatten_append]
  simp
theorem ads_len : ∀ k, (ads k).length = 2 * k
  | 0 => rfl
  | k + 1 => by rw [ads_succ, List.length_append, ads_len k]; simp; omega
theorem twoF_at {w : World} {g cap : Nat} (h : InF w g cap twoF) {k : Nat} (hk : k < 2) : ∃ b off c nx, w.cell? ⟨g, k, none⟩ = some (.slice (some ⟨b, off, none⟩) 1 c) ∧ 1 ≤ c ∧ w.cell? ⟨b, off, none⟩ = some (.int .u32 167772160) ∧ w.cell? ⟨b, off + 1, none⟩ = some (.int .i64 8) ∧ w.cell? ⟨b, off + 2, none⟩ = some (.int .i64 2) ∧ w.cell? ⟨b, off + 3, none⟩ = some (.int .i64 nx) := by
  have h2 : k = 0 ∨ k = 1 := by omega
  obtain ⟨A, c, hc, hE⟩ := h.rows k hk
  have hl : twoF[k].length = 1 := by rcases h2 with rfl | rfl <;> rfl
  obtain ⟨nx, hx⟩ : ∃ nx, ∀ (hh : 0 < twoF[k].length), twoF[k][0] = ⟨167772160, 8, 2, nx⟩ := by rcases h2 with rfl | rfl <;> exact ⟨_, fun _ => rfl⟩
  rw [hl] at hc
  obtain ⟨b, off, rfl⟩ := hE.hA (by omega)
  have hR := hE.hR b off rfl
  obtain ⟨c0, c1, c2, c3⟩ := Ents.cells hR (k := 0) (by omega) (hx (by omega))
  have hcc := hE.hc
  exact ⟨b, off, c, nx, hc, by omega, c0, c1, c2, c3⟩
theorem acl_map : ∀ xs : List Int, xs.flatMap acl = xs.map (Value.int .u32)
  | [] => rfl
  | x :: r => by rw [List.flatMap_cons, acl_map r]; rfl

set_option maxRecDepth 100000 in
set_option maxHeartbeats 2000000 in
theorem addresses_two {w : World} {g cap : Nat} (h : InF w g cap twoF) :
    Calls Try.prog 19 #[.slice (some ⟨g, 0, none⟩) 2 cap] w fun e w' => ∃ g' cap', e = .returned (.slice (some ⟨g', 0, none⟩) 2 cap') ∧ 2 ≤ cap' ∧ w'.cell? ⟨g', 0, none⟩ = some (.int .u32 167772160) ∧ w'.cell? ⟨g', 1, none⟩ = some (.int .u32 184549375) ∧ Below w.heap.size w w' := by
  have hcap := h.le
  replace hcap : 2 ≤ cap := hcap
  have H := Lib.hid h
  clear h
  have S0 := Lib.hid (show Blk 53 (w.alloc (.cells #[.slice none 0 0] 53)) w.heap.size #[.slice none (2 * 0) 0] ∧ Oa (w.heap.size + 1) (.slice none (2 * 0) 0) (ads 0) (w.alloc (.cells #[.slice none 0 0] 53)) ∧ Below w.heap.size w (w.alloc (.cells #[.slice none 0 0] 53)) from ⟨Blk.new w _ _, Ol.nil _ _, below_new _ _⟩)
  go_enter Try.func19, Try.ntmps19
  go_wp2_with fail
  go_loopw [12] (fun i wr => ∃ (k : Nat) (p0 : Option Addr) (cc : Nat), i = .int .i64 k ∧ k ≤ 2 ∧ Hid (Blk 53 wr w.heap.size #[.slice p0 (2 * k) cc] ∧ Oa (w.heap.size + 1) (.slice p0 (2 * k) cc) (ads k) wr ∧ Below w.heap.size w wr)) (fun i _ => 2 - (intOf i).toNat)
  case atStart => exact ⟨0, none, 0, rfl, by omega, S0.out⟩
  case round =>
    clear S0
    obtain ⟨k, p0, cc, rfl, hk, S⟩ := hrel
    by_cases hk2 : k < 2
    · have hkz : (k : Int) < 2 := by omega
      have hkc : (k : Int) < (cap : Int) := by omega
      obtain ⟨b, off, c, nx, qw, hc1, ew⟩ := twoF_at H.out hk2
      have q0 := held S.out.2.2 qw
      have EW := Lib.hid ew
      clear qw ew
      have S0 := Lib.hid S.out
      clear S
      go_wp2_with fail
      go_loopw [18] (fun i wr2 => ∃ (j : Nat) (p1 : Option Addr) (c1 : Nat), i = .int .i64 j ∧ j ≤ 1 ∧ Hid (Blk 53 wr2 w.heap.size #[.slice p1 (2 * (k + j)) c1] ∧ Oa (w.heap.size + 1) (.slice p1 (2 * (k + j)) c1) (ads (k + j)) wr2 ∧ Below w.heap.size w wr2)) (fun i _ => 1 - (intOf i).toNat)
      case atStart => exact ⟨0, p0, cc, rfl, by omega, S0.out⟩
      case round =>
        clear S0 q0
        obtain ⟨j, p1, c1, rfl, hj, S⟩ := hrel
        by_cases hj1 : j < 1
        · obtain rfl : j = 0 := by omega
          have e0 := held S.out.2.2 EW.out.1
          have e1 := held S.out.2.2 EW.out.2.1
          have e2 := held S.out.2.2 EW.out.2.2.1
          have e3 := held S.out.2.2 EW.out.2.2.2
          have hb1 := below_new wr (.cells #[.int .u32 167772160, .int .i64 8, .int .i64 2, .int .i64 nx] 39)
          have hA := add_any (S.out.1.held hb1) (S.out.2.1.held hb1) (ads_len _) (by omega)
          have B1 := S.out.2.2.trans (hb1.mono S.out.2.2.size)
          have Bn := (Blk.new wr 39 #[.int .u32 167772160, .int .i64 8, .int .i64 2, .int .i64 nx])
          have n0 := Bn.at_ 0
          have n1 := Bn.at_ 1
          clear S hb1 Bn
          go_wp2_with (first | (go_at_call 23; refine hA.mono ?_; rintro e w2 ⟨rfl, g2, c2, hx2, hO2, hB2⟩; have S2 := Lib.hid (And.intro hx2 (And.intro hO2 (B1.trans hB2))); clear hA hx2 hO2 hB2 B1) | fail)
          go_roundw
          case rel => exact ⟨1, some ⟨g2, 0, none⟩, c2, rfl, Nat.le_refl _, by rw [show 2 * (k + 1) = 2 * (k + 0) + 2 by omega, show ads (k + 1) = ads (k + 0) ++ [167772160, 184549375] from ads_succ k]; exact S2.out⟩
          case measure => simp [intOf]
        · have hje : j = 1 := by omega
          have hS := S.out
          rw [hje] at hS
          have djz : decide ((j : Int) < 1) = false := decide_eq_false (by omega)
          have S2 := Lib.hid hS
          clear S hS hj hje hj1
          go_wp2_with fail
          go_roundw
          case rel => exact ⟨k + 1, p1, c1, by go_num, by omega, S2.out⟩
          case measure => simp [intOf]; omega
    · have hke : k = 2 := by omega
      have hS := S.out
      rw [hke] at hS
      have dkz : decide ((k : Int) < 2) = false := decide_eq_false (by omega)
      clear S hk hk2 hke
      obtain ⟨hbx, hO, hB⟩ := hS
      have hO2 : w.heap.size + 1 ≤ wr.heap.size := hbx.lt
      rcases hO.2 with ⟨e, -⟩ | ⟨g1, c1, cur, e, hg1, hg2, hl1, hl2, hl3, hl4⟩
      · cases e
      cases e
      have hrow : wr.ownsRow (w.heap.size + 1) 23 1 (.slice (some ⟨g1, 0, none⟩) 4 cc) 4 ([167772160, 184549375, 167772160, 184549375].map (Value.int .u32)) := by rw [← acl_map]; exact hO
      obtain ⟨g2, c2, e2, hgb, hgl, -, hcm, -, hH⟩ := Lib.holds_of_ownsRow hrow (by simp)
      cases e2
      have b0 := hbx.at_ 0
      have hs3 : Sort.insertionSort Sort.ltInt #[167772160, 184549375, 167772160, 184549375] 0 4 = #[167772160, 167772160, 184549375, 184549375] := by decide +kernel
      have HSo : Calls Try.prog 25 #[.slice (some ⟨g1, 0, none⟩) 4 cc] wr fun e w' => e = .returned (.tuple #[]) ∧ ∃ n, w' = Sort.putRow (Value.int .u32) (Sort.ahead wr n) g1 0 #[167772160, 167772160, 184549375, 184549375] := by
        have := sort32 g1 cc #[167772160, 184549375, 167772160, 184549375] wr hH (by decide)
        rw [show (#[167772160, 184549375, 167772160, 184549375] : Array Int).size = 4 from rfl, hs3] at this
        exact this
      have hne : g1 ≠ w.heap.size := by omega
      have hlc : 4 ≤ cc := by have := hl1; rw [ads_len] at this; omega
      have HP := fun n => Sort.holds_putRow (Value.int .u32) (Sort.ahead wr n) g1 0 #[167772160, 184549375, 167772160, 184549375] #[167772160, 167772160, 184549375, 184549375] (Sort.holds_ahead _ _ _ _ _ _ hH) rfl
      have Z := Lib.hid (And.intro hB (And.intro HP (And.intro hgb (And.intro hcm hlc))))
      clear hO hrow hg2 hl3 hl4 hH hs3 HP hg1 hB hl1 hl2 hcm
      go_upto_region 13 with (first | (go_at_call 25; refine HSo.mono ?_; rintro e w2 ⟨rfl, n, rfl⟩) | fail)
      have hc2 : Lib.compactUpTo #[(167772160 : Int), 167772160, 184549375, 184549375] 4 = [167772160, 184549375] := by decide +kernel
      have hh := Z.out.2.1 n
      have HC := compact32 g1 0 cc #[167772160, 167772160, 184549375, 184549375] _ hh (by decide) (by have := Z.out.2.2.2.2; simp; omega)
      rw [show (#[167772160, 167772160, 184549375, 184549375] : Array Int).size = 4 from rfl, hc2] at HC
      replace HC : Calls Try.prog 26 #[.slice (some ⟨g1, 0, none⟩) 4 cc] (Sort.putRow (Value.int .u32) (Sort.ahead wr n) g1 0 #[167772160, 167772160, 184549375, 184549375]) fun e w' => e = .returned (.slice (some ⟨g1, 0, none⟩) 2 cc) ∧ ∃ q, w' = Sort.putRow e32 (Sort.ahead (Sort.putRow (Value.int .u32) (Sort.ahead wr n) g1 0 #[167772160, 167772160, 184549375, 184549375]) q) g1 0 #[167772160, 184549375, 0, 0] := HC
      have b1 : (Sort.putRow (Value.int .u32) (Sort.ahead wr n) g1 0 #[167772160, 167772160, 184549375, 184549375]).cell? ⟨w.heap.size, 0, none⟩ = some (.slice (some ⟨g1, 0, none⟩) 4 cc) := by
        rw [Sort.cell?_putRow_other _ _ _ _ _ _ (.inl (by show w.heap.size ≠ g1; omega))]
        exact b0
      have hB3 := Lib.below_putRow (enc := Value.int .u32) (q := n) (d := #[167772160, 167772160, 184549375, 184549375]) Z.out.1 (show w.heap.size ≤ g1 by omega)
      have Y := Lib.hid (And.intro hB3 hh)
      clear hc2 hh hB3 b0 hbx HSo
      generalize Sort.putRow (Value.int .u32) (Sort.ahead wr n) g1 0 #[167772160, 167772160, 184549375, 184549375] = w3 at *
      go_wp2_with (first | (go_at_call 26; refine HC.mono ?_; rintro e w4 ⟨rfl, q, rfl⟩) | fail)
      go_ret
      have hh4 := Sort.holds_putRow e32 (Sort.ahead w3 q) g1 0 #[167772160, 167772160, 184549375, 184549375] #[167772160, 184549375, 0, 0] (Sort.holds_ahead _ _ _ _ _ _ Y.out.2) rfl
      exact ⟨g1, cc, rfl, by have := Z.out.2.2.2.2; omega, (hh4 0 (by decide)).1, (hh4 1 (by decide)).1, Lib.below_putRow Y.out.1 (by omega)⟩
end Go.Proofs.Ytdeiolpcppibgaa
