/-
  LoopAround: the walk.
-/
import Derived.Test.YtdeiolpcppibgaaLpX
namespace Go.Proofs.Ytdeiolpcppibgaa
open Go.RowKit Go.Maps Fm
attribute [local go_sem] Oper.semAt_some

theorem run_make_nums (n : Nat) (hn : n ≤ 1000) (w : World) : (Instr.makeSlice 28 (.int .i64 (n : Int)) (.int .i64 (n : Int))).run Try.prog w = .ok (.slice (some ⟨w.heap.size, 0, none⟩) n n) (w.alloc (.cells (Array.replicate n (.int .i64 0)) 3)) := by
  obtain ⟨i, h1, h2, h3, h4⟩ := info_parts (P := Try.prog) (e := 3) (z := .int .i64 0) (size := 1) (bytes := 8) (by kernel_rfl)
  have h := run_make (P := Try.prog) w 28 3 i _ (by kernel_rfl) h1 h2 .i64 .i64 (n : Int) (n : Int) (by omega) (by omega) (by rw [h4]; omega) (by omega)
  rw [h, h3]
  have e : madeCells (Value.int .i64 0).cells ((n : Int).toNat * 1) = Array.replicate n (.int .i64 0) := by
    apply Array.ext
    · simp [madeCells]
    · intro j h1 h2
      simp [madeCells, Value.cells, Nat.mod_one]
  rw [e]
  simp
theorem four_right {m : Nat} (hm : m ≤ 3) (w : World) : ∃ (pa : Nat) (pn : Int), (w.alloc (.cells #[.int .u32 167772160, .int .i64 8, .int .u32 167837696, .int .i64 16, .int .u32 0, .int .i64 0, .int .u32 167838211, .int .i64 32] 34)).cell? ⟨w.heap.size, m * 2, none⟩ = some (.int .u32 pa) ∧ (w.alloc (.cells #[.int .u32 167772160, .int .i64 8, .int .u32 167837696, .int .i64 16, .int .u32 0, .int .i64 0, .int .u32 167838211, .int .i64 32] 34)).cell? ⟨w.heap.size, m * 2 + 1, none⟩ = some (.int .i64 pn) ∧ pa < 4294967296 ∧ Am.right pa pn = true := by
  have hb := Blk.new w 34 #[.int .u32 167772160, .int .i64 8, .int .u32 167837696, .int .i64 16, .int .u32 0, .int .i64 0, .int .u32 167838211, .int .i64 32]
  have h4 : m = 0 ∨ m = 1 ∨ m = 2 ∨ m = 3 := by omega
  rcases h4 with rfl | rfl | rfl | rfl
  · exact ⟨167772160, 8, hb.at_ 0, hb.at_ 1, by omega, by decide +kernel⟩
  · exact ⟨167837696, 16, hb.at_ 2, hb.at_ 3, by omega, by decide +kernel⟩
  · exact ⟨0, 0, hb.at_ 4, hb.at_ 5, by omega, by decide +kernel⟩
  · exact ⟨167838211, 32, hb.at_ 6, hb.at_ 7, by omega, by decide +kernel⟩
/-- the statement's list of numbers, made at wG -/
structure Ax (wG : World) (g n : Nat) (cur : Nat → Int) (w : World) : Prop where
  row : ∀ k, k < n → w.cell? ⟨g, k, none⟩ = some (.int .i64 (cur k)) ∧ w.frozen? ⟨g, k, none⟩ = false
  below : Below g wG w
  lt : g < w.heap.size
section
variable {wG w w' : World} {g n : Nat} {cur : Nat → Int}
theorem Ax.held (h : Ax wG g n cur w) (hb : Below w.heap.size w w') : Ax wG g n cur w' := by
  refine ⟨fun k hk => ⟨Go.Proofs.Ytdeiolpcppibgaa.held hb (h.row k hk).1, ?_⟩, h.below.trans (hb.mono (Nat.le_of_lt h.lt)), Nat.lt_of_lt_of_le h.lt hb.size⟩
  rw [← (h.row k hk).2]
  unfold World.frozen?
  rw [hb.block g h.lt]
theorem Ax.set (h : Ax wG g n cur w) {i : Nat} (hi : i < n) (z : Int) : Ax wG g n (fun k => if k = i then z else cur k) (w.setCell ⟨g, i, none⟩ (.int .i64 z)) := by
  refine ⟨fun k hk => ⟨?_, ?_⟩, h.below.trans ((Turn.setCell (L := [g]) w (by simp) _).below (fun x hx => by simp at hx; omega) (Nat.le_of_lt h.lt)), Nat.lt_of_lt_of_le h.lt (Turn.setCell (L := [g]) w (by simp) _).size⟩
  · by_cases e : k = i
    · subst e
      rw [if_pos rfl]
      exact World.cell?_setCell_same _ _ _ (h.row k hk).1
    · rw [if_neg e, World.cell?_setCell_other _ _ _ _ (fun h5 => e (by injection h5 with _ h6; exact h6.symm))]
      exact (h.row k hk).1
  · rw [World.frozen?_setCell]
    exact (h.row k hk).2
theorem Ax.new (w : World) (n : Nat) : Ax w w.heap.size n (fun _ => 0) (w.alloc (.cells (Array.replicate n (.int .i64 0)) 3)) := by
  have hb := Blk.new w 3 (Array.replicate n (.int .i64 0))
  refine ⟨fun k hk => ⟨?_, hb.free k⟩, below_new _ _, hb.lt⟩
  rw [hb.at_ k]
  simp [hk]
end
set_option maxRecDepth 100000 in
set_option maxHeartbeats 4000000 in
theorem arounds_walk {w : World} {A : Option Addr} {len cap : Nat} {f : Nat → Nat → Int} (h : InT w A len cap f) (n0 which : Int) :
    Calls Try.prog 4 #[.int .i64 n0, .slice A len cap, .int .i64 which] w fun e w' => e = .returned (.bool true) ∧ Below w.heap.size w w' := by
  have hmx := h.hm
  unfold maxLen at hmx
  have H := Lib.hid h
  clear h
  obtain ⟨nm, hnm, hmm⟩ := mask_i n0 7 (by omega)
  replace hmm : bits .and .i64 n0 7 = (nm : Int) := hmm
  obtain ⟨n, q, hn, hq, hcq, hq0, hq1⟩ : ∃ (n : Nat) (q : Int), n = 1 + nm ∧ q = (nm : Int) ∧ (n : Int) = 1 + q ∧ 0 ≤ q ∧ q ≤ 7 := ⟨_, _, rfl, rfl, by omega, by omega, by omega⟩
  rw [← hq] at hmm
  clear hq
  have h1 : 1 ≤ n := by omega
  have h8 : n ≤ 8 := by omega
  clear hn hnm
  go_enter Try.func4, Try.ntmps4
  by_cases hl : len ≤ 40
  case neg =>
    have dl : decide ((len : Int) ≤ 40) = false := decide_eq_false (by omega)
    go_wp2_with (first | (go_at_call 5; refine (loop_head w).mono ?_; rintro e w1 ⟨rfl, hb1⟩) | (go_at_call 6; refine (few_any w1 A len cap dl).mono ?_; rintro e w2 ⟨rfl, rfl⟩) | fail)
    go_ret
    exact ⟨rfl, hb1⟩
  case pos =>
  have dl : decide ((len : Int) ≤ 40) = true := decide_eq_true (by omega)
  go_upto_region 6 with (first | (go_at_call 5; refine (loop_head w).mono ?_; rintro e w1 ⟨rfl, hb1⟩) | (go_at_call 6; refine (few_any w1 A len cap dl).mono ?_; rintro e w2 ⟨rfl, rfl⟩) | fail)
  rw [← hcq]
  clear hcq hq0 hq1 hmm dl
  have HF := fibs_any (H.out.held hb1) hl h1 h8
  have X := Lib.hid hb1
  clear hb1
  go_upto_region 7 with (go_at_call 7; refine HF.mono ?_; rintro e w3 ⟨fss, rfl, hfl, hI, hb3, hpos⟩; clear HF)
  have Y := Lib.hid (And.intro hI (And.intro hfl (And.intro (next X.out hb3) hpos)))
  clear hI hfl hb3 hpos
  obtain ⟨m, hm, hmw⟩ := mask_i which 3 (by omega)
  replace hmw : bits .and .i64 which 3 = (m : Int) := hmw
  have hm4 : (m : Int) < 4 := by omega
  obtain ⟨pa, pn, a0, a1, hpa, hri⟩ := four_right hm w3
  have hbA := below_new w3 (.cells #[.int .u32 167772160, .int .i64 8, .int .u32 167837696, .int .i64 16, .int .u32 0, .int .i64 0, .int .u32 167838211, .int .i64 32] 34)
  have hsA := size_new w3 (.cells #[.int .u32 167772160, .int .i64 8, .int .u32 167837696, .int .i64 16, .int .u32 0, .int .i64 0, .int .u32 167838211, .int .i64 32] 34)
  have HSA := Lib.hid hsA
  clear hsA
  generalize hgf : w2.heap.size = gf at *
  clear hgf
  go_upto_region 8 with fail
  rw [← HSA.out]
  clear a0 a1 hmw hm4
  have Y4 := Lib.hid (And.intro (Y.out.1.held hbA) (next Y.out.2.2.1 hbA))
  clear hbA HSA
  generalize hq3 : w3.heap.size = q3 at *
  generalize w3.alloc (.cells #[.int .u32 167772160, .int .i64 8, .int .u32 167837696, .int .i64 16, .int .u32 0, .int .i64 0, .int .u32 167838211, .int .i64 32] 34) = w4 at *
  have p5 := Blk.new w4 34 #[.int .u32 pa, .int .i64 pn]
  have hb5 := below_new w4 (.cells #[.int .u32 pa, .int .i64 pn] 34)
  have Y5 := Lib.hid (And.intro (Y4.out.1.held hb5) (And.intro (next Y4.out.2 hb5) p5))
  clear Y4 hb5 p5 hq3
  generalize hqp : w4.heap.size = qp at *
  generalize w4.alloc (.cells #[.int .u32 pa, .int .i64 pn] 34) = w5 at *
  have hmk := run_make_nums n (by omega)
  have S0 := Lib.hid (Ax.new w5 n)
  have hqg := Y5.out.2.2.lt
  go_upto_region 9 with fail
  clear hmk hqp
  generalize hg : w5.heap.size = g at *
  generalize w5.alloc (.cells (Array.replicate n (.int .i64 0)) 3) = w6 at *
  have V := Lib.hid (And.intro Y5.out.1 (And.intro Y.out.2.1 (And.intro Y.out.2.2.2 (And.intro Y5.out.2.1 (And.intro Y5.out.2.2 (And.intro hg (And.intro hpa hri)))))))
  clear Y Y5 hpa hri X H hg
  go_wp2_with fail
  go_loopw [42] (fun i wr => ∃ (k : Nat) (cur : Nat → Int), i = .int .i64 k ∧ k ≤ n ∧ Hid (Ax w5 g n cur wr ∧ ∀ k', k' < k → cur k' = capN pa pn fss k')) (fun i _ => n - (intOf i).toNat)
  case atStart => exact ⟨0, fun _ => 0, rfl, Nat.zero_le _, S0.out, fun k' h => by omega⟩
  case round =>
    clear S0
    obtain ⟨k, cur, rfl, hk, S⟩ := hrel
    by_cases hkn : k < n
    · have hkz : (k : Int) < (n : Int) := by omega
      have hkf : k < fss.length := by rw [V.out.2.1]; exact hkn
      have r0 := (S.out.1.row k hkn).1
      have r1 := (S.out.1.row k hkn).2
      have S1 := Lib.hid (And.intro (S.out.1.set hkn (-1)) S.out.2)
      have hBx : ∀ wx : World, Below g w5 wx → Below w5.heap.size w5 wx := fun wx hx => by rw [V.out.2.2.2.2.2.1]; exact hx
      obtain ⟨A1, c1, hcell5, hE⟩ := V.out.1.rows k hkf
      have hcell := held (hBx _ S1.out.1.below) hcell5
      clear hcell5
      obtain ⟨es, hes⟩ : ∃ es, fss[k] = es := ⟨_, rfl⟩
      rw [hes] at hcell hE
      obtain ⟨L, hL⟩ : ∃ L, es.length = L := ⟨_, rfl⟩
      have hLm : L ≤ 9223372036854775807 := by have h3 := hE.hm; unfold maxLen at h3; omega
      have hLc : L ≤ c1 := by have := hE.hc; omega
      rw [hL] at hcell
      have hpe : ∀ e ∈ es, 0 ≤ e.nx := by rw [← hes]; exact V.out.2.2.1 k hkf
      have E := Lib.hid (And.intro hes (And.intro hL (And.intro hE (And.intro hpe hBx))))
      clear hes hL hE hpe S hBx
      go_wp2_with fail
      clear r0 r1 hcell
      go_loopw [53] (fun i wr2 => ∃ (j : Nat) (cu : Nat → Int), i = .int .i64 j ∧ j ≤ L ∧ Hid (Ax w5 g n cu wr2 ∧ (∀ k', k' ≠ k → cu k' = cur k') ∧ cu k = nextOf pa pn (es.take j))) (fun i _ => L - (intOf i).toNat)
      case atStart => exact ⟨0, _, rfl, Nat.zero_le _, S1.out.1, fun k' h => if_neg h, if_pos rfl⟩
      case round =>
        obtain ⟨j, cu, rfl, hj, T⟩ := hrel
        by_cases hjl : j < L
        · have hjz : (j : Int) < (L : Int) := by omega
          have hj2 : j < es.length := by rw [E.out.2.1]; exact hjl
          have hEr := E.out.2.2.1.held (E.out.2.2.2.2 _ T.out.1.below)
          obtain ⟨b, off, rfl⟩ := hEr.hA (by omega)
          obtain ⟨⟨ea, en, eh, ex⟩, he⟩ : ∃ r, es[j] = r := ⟨_, rfl⟩
          obtain ⟨e0, e1, e2, e3⟩ := Ents.cells (hEr.hR b off rfl) hj2 he
          have hbn := below_new wr (.cells #[.int .u32 ea, .int .i64 en, .int .i64 eh, .int .i64 ex] 39)
          have Bn := Blk.new wr 39 #[.int .u32 ea, .int .i64 en, .int .i64 eh, .int .i64 ex]
          have n0' := Bn.at_ 0
          have n1 := Bn.at_ 1
          have n2 := Bn.at_ 2
          have n3 := Bn.at_ 3
          have hp2 := (V.out.2.2.2.2.1.held (E.out.2.2.2.2 _ T.out.1.below)).held hbn
          have x0 := hp2.at_ 0
          have x1 := hp2.at_ 1
          have A2 := T.out.1.held hbn
          obtain ⟨z, hz⟩ : ∃ z, cu k = z := ⟨_, rfl⟩
          have a0 := (A2.row k hkn).1
          have a1 := (A2.row k hkn).2
          rw [hz] at a0
          obtain ⟨qq, hqq⟩ : ∃ qq, decide (ea = pa ∧ en = pn) = qq := ⟨_, rfl⟩
          have hql := eqlP hqq
          have htk : es.take (j + 1) = es.take j ++ [⟨ea, en, eh, ex⟩] := by rw [List.take_add_one, List.getElem?_eq_getElem hj2, he]; rfl
          have hsn := nextOf_snoc (pa := pa) (pn := pn) (es := es.take j) (fun e hm => E.out.2.2.2.1 e (List.mem_of_mem_take hm)) ⟨ea, en, eh, ex⟩
          rw [← htk, ← T.out.2.2, hz] at hsn
          have hzor : z = -1 ∨ 0 ≤ z := by
            rw [← hz, T.out.2.2]
            exact nextOf_ge fun e hm => E.out.2.2.2.1 e (List.mem_of_mem_take hm)
          have Z := Lib.hid (And.intro A2 (And.intro T.out.2.1 (And.intro hz (And.intro hsn (And.intro hqq hzor)))))
          clear A2 hz hsn htk hzor hp2 Bn hbn he hEr T
          have keep : (¬ (qq = true ∧ eh = 2) ∨ 0 ≤ z) → cu k = nextOf pa pn (es.take (j + 1)) := fun h => by
            rw [Z.out.2.2.1, Z.out.2.2.2.1]
            by_cases hz0 : 0 ≤ z
            · rw [if_pos hz0]
            · rw [if_neg hz0, if_neg (fun ho => by
                unfold own1 at ho
                rw [Bool.and_eq_true, Z.out.2.2.2.2.1] at ho
                rcases h with h | h
                · exact h ⟨ho.1, of_decide_eq_true ho.2⟩
                · exact hz0 h)]
              exact Z.out.2.2.2.2.2.resolve_right hz0
          have KP := Lib.hid keep
          clear keep
          by_cases hm1 : qq = true
          · subst hm1
            by_cases hh : eh = 2
            · by_cases hz0 : 0 ≤ z
              · have dz : decide (z < 0) = false := decide_eq_false (by omega)
                have Z2 := Lib.hid (And.intro Z.out.1 (And.intro Z.out.2.1 (KP.out (.inr hz0))))
                subst hh
                clear Z KP hz0 hqq
                go_wp2_with fail
                go_roundw
                case rel => exact ⟨j + 1, cu, by go_num, by omega, Z2.out⟩
                case measure => simp [intOf]; omega
              · have dz : decide (z < 0) = true := decide_eq_true (by omega)
                have Z2 := Lib.hid (And.intro (Z.out.1.set hkn ex) (And.intro (show ∀ k', k' ≠ k → (if k' = k then ex else cu k') = cur k' from fun k' h => by rw [if_neg h]; exact Z.out.2.1 k' h) (show (if k = k then ex else cu k) = nextOf pa pn (es.take (j + 1)) by
                  rw [if_pos rfl, Z.out.2.2.2.1, if_neg hz0, if_pos (by unfold own1; rw [Bool.and_eq_true]; exact ⟨Z.out.2.2.2.2.1, decide_eq_true hh⟩)])))
                subst hh
                clear Z KP hz0 hqq
                go_wp2_with fail
                go_roundw
                case rel => exact ⟨j + 1, _, by go_num, by omega, Z2.out⟩
                case measure => simp [intOf]; omega
            · have dh : (eh == 2) = false := beq_eq_false_iff_ne.2 hh
              have Z2 := Lib.hid (And.intro Z.out.1 (And.intro Z.out.2.1 (KP.out (.inl fun h => hh h.2))))
              clear Z KP hh hqq
              go_wp2_with fail
              go_roundw
              case rel => exact ⟨j + 1, cu, by go_num, by omega, Z2.out⟩
              case measure => simp [intOf]; omega
          · obtain rfl : qq = false := by simpa using hm1
            have Z2 := Lib.hid (And.intro Z.out.1 (And.intro Z.out.2.1 (KP.out (.inl fun h => hm1 h.1))))
            clear Z KP hm1 hqq
            go_wp2_with fail
            go_roundw
            case rel => exact ⟨j + 1, cu, by go_num, by omega, Z2.out⟩
            case measure => simp [intOf]; omega
        · have hjL : j = L := by omega
          have hN : cu k = nextOf pa pn fss[k] := by
            rw [T.out.2.2, E.out.1, List.take_of_length_le (by rw [E.out.2.1]; omega)]
          have djz : decide ((j : Int) < (L : Int)) = false := decide_eq_false (by omega)
          obtain ⟨z, hz⟩ : ∃ z, cu k = z := ⟨_, rfl⟩
          have a0 := (T.out.1.row k hkn).1
          have a1 := (T.out.1.row k hkn).2
          rw [hz] at a0
          have hcap : capN pa pn fss k = if z < (fss.length : Int) then z else -1 := by
            unfold capN
            rw [dif_pos hkf, ← hN, hz]
          rw [V.out.2.1] at hcap
          by_cases hzn : z < (n : Int)
          · rw [if_pos hzn] at hcap
            have dn : decide ((n : Int) ≤ z) = false := decide_eq_false (by omega)
            have Z2 := Lib.hid (show Ax w5 g n cu wr ∧ ∀ k', k' < k + 1 → cu k' = capN pa pn fss k' from ⟨T.out.1, fun k' h => by
              by_cases e : k' = k
              · subst e; rw [hz, hcap]
              · rw [T.out.2.1 k' e]; exact S1.out.2 k' (by omega)⟩)
            clear T hN hz hcap hzn hjL
            go_wp2_with fail
            go_roundw
            case rel => exact ⟨k + 1, cu, by go_num, by omega, Z2.out⟩
            case measure => simp [intOf]; omega
          · rw [if_neg hzn] at hcap
            have dn : decide ((n : Int) ≤ z) = true := decide_eq_true (by omega)
            have Z2 := Lib.hid (show Ax w5 g n (fun k' => if k' = k then -1 else cu k') _ ∧ ∀ k', k' < k + 1 → (if k' = k then -1 else cu k') = capN pa pn fss k' from ⟨T.out.1.set hkn (-1), fun k' h => by
              by_cases e : k' = k
              · subst e; rw [if_pos rfl, hcap]
              · rw [if_neg e, T.out.2.1 k' e]; exact S1.out.2 k' (by omega)⟩)
            clear T hN hz hcap hzn hjL
            go_wp2_with fail
            go_roundw
            case rel => exact ⟨k + 1, _, by go_num, by omega, Z2.out⟩
            case measure => simp [intOf]; omega
    · have hkk : k = n := by omega
      have dkz : decide ((k : Int) < (n : Int)) = false := decide_eq_false (by omega)
      have S2 := Lib.hid (And.intro S.out.1 (Al.start V.out.2.2.1 (cur := cur) fun k' h => S.out.2 k' (by rw [V.out.2.1] at h; omega)))
      clear S hkk hk
      go_wp2_with fail
      go_loopw [13] (fun i wr2 => ∃ (r : Nat) (cu : Nat → Int), i = .int .i64 r ∧ r ≤ n ∧ Hid (Ax w5 g n cu wr2 ∧ Al pa pn fss r 0 cu)) (fun i _ => n - (intOf i).toNat)
      case atStart => exact ⟨0, cur, rfl, Nat.zero_le _, S2.out⟩
      case round =>
        clear S2 hkn dkz
        obtain ⟨r, cu, rfl, hr, S⟩ := hrel
        by_cases hrn : r < n
        · have hrz : (r : Int) < (n : Int) := by omega
          have S3 := Lib.hid S.out
          clear S
          go_wp2_with fail
          go_loopw [96] (fun i wr3 => ∃ (i' : Nat) (cu : Nat → Int), i = .int .i64 i' ∧ i' ≤ n ∧ Hid (Ax w5 g n cu wr3 ∧ Al pa pn fss r i' cu)) (fun i _ => n - (intOf i).toNat)
          case atStart => exact ⟨0, cu, rfl, Nat.zero_le _, S3.out⟩
          case round =>
            clear S3
            obtain ⟨i, cv, rfl, hi, T⟩ := hrel
            by_cases hin : i < n
            · have hiz : (i : Int) < (n : Int) := by omega
              have hif : i < fss.length := by rw [V.out.2.1]; exact hin
              have a0 := (T.out.1.row i hin).1
              have a1 := (T.out.1.row i hin).2
              by_cases hz0 : 0 ≤ cv i
              · have hst := T.out.2.step_some V.out.2.2.1 hif hz0
                obtain ⟨m', hm'⟩ : ∃ m' : Nat, (cv i).toNat = m' := ⟨_, rfl⟩
                have hci : cv i = (m' : Int) := by omega
                have hmn : m' < n := by rw [← V.out.2.1, ← hm']; exact hst.2.1
                rw [hci] at a0
                have hmz : (m' : Int) < (n : Int) := by omega
                have b0 := (T.out.1.row m' hmn).1
                by_cases hz1 : cv m' < 0
                · have dz : decide (cv m' < 0) = true := decide_eq_true hz1
                  have Z2 := Lib.hid (And.intro (T.out.1.set hin (-1)) (T.out.2.strike V.out.2.2.1 hif hz0 (by rw [hm']; exact hz1) (fun k' _ => rfl)))
                  clear T hz0 hst hm' hci hz1
                  generalize cv m' = zz at *
                  go_wp2_with fail
                  go_roundw
                  case rel => exact ⟨i + 1, _, by go_num, by omega, Z2.out⟩
                  case measure => simp [intOf]; omega
                · have dz : decide (cv m' < 0) = false := decide_eq_false hz1
                  have Z2 := Lib.hid (And.intro T.out.1 (T.out.2.keep V.out.2.2.1 hif (.inr (by rw [hm']; omega))))
                  clear T hz0 hst hm' hci hz1
                  go_wp2_with fail
                  go_roundw
                  case rel => exact ⟨i + 1, cv, by go_num, by omega, Z2.out⟩
                  case measure => simp [intOf]; omega
              · have dz : decide (0 ≤ cv i) = false := decide_eq_false hz0
                have Z2 := Lib.hid (And.intro T.out.1 (T.out.2.keep V.out.2.2.1 hif (.inl (by omega))))
                clear T hz0
                go_wp2_with fail
                go_roundw
                case rel => exact ⟨i + 1, cv, by go_num, by omega, Z2.out⟩
                case measure => simp [intOf]; omega
            · have dik : decide ((i : Int) < (n : Int)) = false := decide_eq_false (by omega)
              have Z2 := Lib.hid (And.intro T.out.1 (show Al pa pn fss (r + 1) 0 cv from Al.round (by
                have := T.out.2
                rw [show i = fss.length by rw [V.out.2.1]; omega] at this
                exact this)))
              clear T
              go_wp2_with fail
              go_roundw
              case rel => exact ⟨r + 1, cv, by go_num, by omega, Z2.out⟩
              case measure => simp [intOf]; omega
        · have drk : decide ((r : Int) < (n : Int)) = false := decide_eq_false (by omega)
          have hring := Al.ring (pa := pa) (pn := pn) (fss := fss) (cur := cu) (by
            have := S.out.2
            rw [show r = fss.length by rw [V.out.2.1]; omega] at this
            exact this)
          rw [V.out.2.1] at hring
          have S4 := Lib.hid (And.intro S.out.1 hring)
          clear S hring
          generalize hw8 : wr = w8 at *
          go_wp2_with fail
          go_loopw [15, 120] (fun b i wr3 => ∃ (k : Nat) (q : Bool), b = .bool q ∧ i = .int .i64 k ∧ k ≤ n ∧ Hid (q = true ↔ ∃ k', k' < k ∧ 0 ≤ cu k') ∧ wr3 = w8) (fun _ i _ => n - (intOf i).toNat)
          case atStart => exact ⟨0, false, rfl, rfl, Nat.zero_le _, ⟨(fun h => by cases h), (fun ⟨k', h, _⟩ => by omega)⟩, rfl⟩
          case round =>
            clear hw8
            obtain ⟨k2, qb, rfl, rfl, hk2, R, rfl⟩ := hrel
            by_cases hk2n : k2 < n
            · have hkz : (k2 : Int) < (n : Int) := by omega
              have a0 := (S4.out.1.row k2 hk2n).1
              cases qb with
              | true =>
                have R2 := Lib.hid (show true = true ↔ ∃ k', k' < k2 + 1 ∧ 0 ≤ cu k' from ⟨fun _ => by
                  obtain ⟨k', h1, h2⟩ := R.out.1 rfl
                  exact ⟨k', by omega, h2⟩, fun _ => rfl⟩)
                clear R
                go_wp2_with fail
                go_roundw
                case rel => exact ⟨k2 + 1, true, rfl, by go_num, by omega, R2, trivial⟩
                case measure => simp [intOf]; omega
              | false =>
                by_cases h0 : 0 ≤ cu k2
                · have d0 : decide (0 ≤ cu k2) = true := decide_eq_true h0
                  have R2 := Lib.hid (show true = true ↔ ∃ k', k' < k2 + 1 ∧ 0 ≤ cu k' from ⟨fun _ => ⟨k2, by omega, h0⟩, fun _ => rfl⟩)
                  clear R h0
                  go_wp2_with fail
                  go_roundw
                  case rel => exact ⟨k2 + 1, true, rfl, by go_num, by omega, R2, trivial⟩
                  case measure => simp [intOf]; omega
                · have d0 : decide (0 ≤ cu k2) = false := decide_eq_false h0
                  have R2 := Lib.hid (show false = true ↔ ∃ k', k' < k2 + 1 ∧ 0 ≤ cu k' from ⟨(fun h => by cases h), (fun ⟨k', h1, h2⟩ => by
                    by_cases e : k' = k2
                    · subst e; exact absurd h2 h0
                    · exact R.out.2 ⟨k', by omega, h2⟩)⟩)
                  clear R h0
                  go_wp2_with fail
                  go_roundw
                  case rel => exact ⟨k2 + 1, false, rfl, by go_num, by omega, R2, trivial⟩
                  case measure => simp [intOf]; omega
            · have dkk : decide ((k2 : Int) < (n : Int)) = false := decide_eq_false (by omega)
              have hqa : aroundB pa pn fss = qb := by
                have h1 := R.out
                rw [show k2 = n by omega, ← S4.out.2] at h1
                cases qb <;> cases h : aroundB pa pn fss <;> simp_all
              have hB8 : Below w5.heap.size w5 wr := by rw [V.out.2.2.2.2.2.1]; exact S4.out.1.below
              have HA := around_any (pa := pa) (pn := pn) V.out.2.1 (V.out.1.held hB8)
              rw [hqa] at HA
              have pk := V.out.2.2.2.2.1.held hB8
              have x0 := pk.at_ 0
              have x1 := pk.at_ 1
              have HRi := fun wx : World => refRight_eq V.out.2.2.2.2.2.2.1 V.out.2.2.2.2.2.2.2 wx
              have F := Lib.hid (And.intro pk (next V.out.2.2.2.1 hB8))
              clear hqa hB8 pk R S4
              go_wp2_with (first | (go_at_call 10; refine HA.mono ?_; rintro e w9 ⟨rfl, hb9⟩; have y0 := (F.out.1.held hb9).at_ 0; have y1 := (F.out.1.held hb9).at_ 1; clear HA) | (go_at_call 11; refine (HRi w9).mono ?_; rintro e wA ⟨rfl, hbA⟩; have F2 := Lib.hid (next (next F.out.2 hb9) hbA)) | fail)
              go_ret
              exact ⟨rfl, F2.out⟩
end Go.Proofs.Ytdeiolpcppibgaa
