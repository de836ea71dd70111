/-
  DiskActs: the walk.
-/
import Derived.Test.YtnoolpgklenhaaaDskA
import Derived.Deep.CutBlock
import Derived.Deep.CutRange
namespace Go.Proofs.Ytnoolpgklenhaaa
open Go.RowKit

section
variable {w : World} {A2 : Option Addr} {c2 : Nat} {z : Int} {acs : List Ac}
set_option maxHeartbeats 4000000 in
set_option maxRecDepth 100000 in
theorem acts_any (hlen : acs.length ≤ 100) (h : ActsAt w A2 acs) :
    Calls Try.prog 3 #[.int .i64 z, .slice A2 acs.length c2] w fun e w' => e = .returned (.bool true) ∧ Below w.heap.size w w' := by
  have dx : decide (100 < (acs.length : Int)) = false := decide_eq_false (by omega)
  have AA := Lib.hid h
  clear h
  have hmm := @run_makeMap Try.prog
  obtain ⟨i0, hi0, hz0, hz1, hz2⟩ := info_parts string_parts
  have II := Lib.hid (And.intro hi0 (And.intro hz0 (And.intro hz1 hz2)))
  clear hi0 hz0 hz1 hz2
  go_enter Try.func3, Try.ntmps3
  go_wp2_with fail
  refine (disk_head _).mono ?_
  rintro e w1 ⟨rfl, hb⟩
  have HB := Lib.hid hb
  clear hb
  go_wp2_with fail
  rw [n_eq]
  have hn := nOf_le z
  generalize nOf z = n at *
  obtain ⟨hn1, hn12⟩ := hn
  generalize IntKind.u64.wrap z = zu
  generalize wrap64 (zu.tmod 12) = zw
  refine (new_ans n (by omega) (by omega) _).mono ?_
  rintro e w2 ⟨d, S, M, rfl, hD, hge, hb⟩
  have hlts : d < w2.heap.size ∧ S < w2.heap.size ∧ M < w2.heap.size := ⟨hD.head.lt, hD.ltS, hD.map.lt⟩
  have hge2 : w.heap.size ≤ d ∧ w.heap.size ≤ S ∧ w.heap.size ≤ M := by have := HB.out.size; omega
  have K := Lib.hid (And.intro hD (next HB.out hb))
  have G := Lib.hid (And.intro hge2 hlts)
  clear hD hge hge2 hb hlts
  go_wp2_with fail
  have hg0 : Grow w w2.heap.size d S M n (.slice (some ⟨w2.heap.size, 0, none⟩) 0 0) (.slice (some ⟨w2.heap.size + 1, 0, none⟩) 0 0) (.int .i64 0) ((w2.alloc (.cells #[] 9)).alloc (.cells #[] 9)) := by
    have o1 := World.ownsRow_made (base := w2.heap.size) (e := 9) (size := 1) w2 #[] 0 (Nat.le_refl _) (by unfold maxLen; omega) rfl
    have o2 := World.ownsRow_made (base := w2.heap.size) (e := 9) (size := 1) (w2.alloc (.cells #[] 9)) #[] 0 (by simp) (by unfold maxLen; omega) rfl
    rw [size_new] at o2
    have hb2 := below_new w2 (.cells #[] 9)
    have hb3 := below_new (w2.alloc (.cells #[] 9)) (.cells #[] 9)
    exact ⟨0, _, _, 0, 0, by omega, rfl, rfl, rfl, o1.alloc _, o2, by simp [Value.ownBlock], (K.out.1.held hb2).held hb3, next (next K.out.2 hb2) hb3, by simp; omega⟩
  generalize (w2.alloc (.cells #[] 9)).alloc (.cells #[] 9) = w3 at *
  have G0 := Lib.hid hg0
  clear hg0
  go_loopw [6, 7, 8] (fun v6 v7 i u => Grow w w2.heap.size d S M n v6 v7 i u) (fun _ _ i _ => n - (intOf i).toNat)
  case atStart => exact G0.out
  case round =>
    clear G0
    obtain ⟨k, A6, A7, c6, c7, hk, rfl, rfl, rfl, o6, o7, hne, hD, hb, hbs⟩ := hrel
    by_cases hlt : k < n
    · have Z := Lib.hid (And.intro o6 (And.intro o7 (And.intro hne (And.intro hD (And.intro hb hbs)))))
      clear o6 o7 hne hD hb hbs
      go_wp2_with fail
      refine (full_ans 0 rfl _).mono ?_
      rintro e w4 ⟨g, rfl, -, hB, hb4⟩
      have hcv := conv_back (cap := 48) hB (by omega)
      have B4 := Lib.hid hb4
      clear hB hb4
      go_wp2_with (first | (at_builtin; (refine wpList_append_own_at _ rfl (.tmp 44) (.tmp 47) 27 rfl w2.heap.size 9 i0 (.string ⟨#[]⟩) 1 16 (by kernel_rfl) II.out.1 II.out.2.1 II.out.2.2.1 II.out.2.2.2 rfl (by decide) _ k _ rfl (((own_below Z.out.1 B4.out).alloc _)) ⟨w4.heap.size, 0, none⟩ 1 1 [str (full 0)] rfl rfl (one_new _ _ _) (by intro u hu; simp at hu; subst hu; rfl) (by unfold maxLen; omega) (by omega) (by rw [size_new]; have := Z.out.2.2.2.2.2; have := B4.out.size; omega) ?_)))
      intro v6 w5 own6 hg5 _ hat5
      obtain ⟨o6, o7, hne, hD, hb, hbs⟩ := grow_one Z.out.1 Z.out.2.1 Z.out.2.2.1 Z.out.2.2.2.1 Z.out.2.2.2.2.1 Z.out.2.2.2.2.2 (by have := G.out; omega) G.out.2 (next B4.out (below_new _ _)) own6 hg5 (by rw [size_new]; exact hat5)
      obtain ⟨A6', c6', rfl⟩ := own_shape o6
      have Z5 := Lib.hid (And.intro o6 (And.intro o7 (And.intro hne (And.intro hD (And.intro hb hbs)))))
      clear o6 o7 hne hD hb hbs own6 hg5 hat5 hcv Z B4
      go_wp2_with fail
      refine (full_ans 0 rfl _).mono ?_
      rintro e w6 ⟨g', rfl, -, hB, hb6⟩
      have hcv := conv_back (cap := 48) hB (by omega)
      have B6 := Lib.hid hb6
      clear hB hb6
      go_wp2_with (first | (at_builtin; (refine wpList_append_own_at _ rfl (.tmp 49) (.tmp 52) 27 rfl w2.heap.size 9 i0 (.string ⟨#[]⟩) 1 16 (by kernel_rfl) II.out.1 II.out.2.1 II.out.2.2.1 II.out.2.2.2 rfl (by decide) _ k _ rfl (((own_below Z5.out.2.1 B6.out).alloc _)) ⟨w6.heap.size, 0, none⟩ 1 1 [str (full 0)] rfl rfl (one_new _ _ _) (by intro u hu; simp at hu; subst hu; rfl) (by unfold maxLen; omega) (by omega) (by rw [size_new]; have := Z5.out.2.2.2.2.2; have := B6.out.size; omega) ?_)))
      intro v7 w7 own7 hg7 _ hat7
      obtain ⟨o7, o6, hne, hD, hb, hbs⟩ := grow_one Z5.out.2.1 Z5.out.1 (fun e => Z5.out.2.2.1 e.symm) Z5.out.2.2.2.1 Z5.out.2.2.2.2.1 Z5.out.2.2.2.2.2 (by have := G.out; omega) G.out.2 (next B6.out (below_new _ _)) own7 hg7 (by rw [size_new]; exact hat7)
      obtain ⟨A7', c7', rfl⟩ := own_shape o7
      have Z7 := Lib.hid (And.intro o6 (And.intro o7 (And.intro hne (And.intro hD (And.intro hb hbs)))))
      clear o6 o7 hne hD hb hbs own7 hg7 hat7 hcv Z5 B6
      go_wp2_with fail
      go_roundw
      case rel =>
        obtain ⟨o6, o7, hne, hD, hb, hbs⟩ := Z7.out
        exact ⟨k + 1, _, _, _, _, by omega, by go_num, rfl, rfl, o6, o7, fun e => hne e.symm, hD, hb, hbs⟩
      case measure => simp [intOf]; omega
    · obtain rfl : n = k := by omega
      obtain ⟨g6, c6', e6, hg6, s6⟩ := SL_of_owns o6 hn1
      obtain ⟨g7, c7', e7, hg7, s7⟩ := SL_of_owns o7 hn1
      cases e6
      cases e7
      simp only [Value.ownBlock, ne_eq, Option.some.injEq] at hne
      have Z := Lib.hid (And.intro s6 (And.intro s7 (And.intro hne (And.intro hD (And.intro hb (And.intro hg6 hg7))))))
      clear s6 s7 hne hD hb hg6 hg7 o6 o7 hbs
      go_wp2_with fail
      have hA0 : Acts w d S M n g6 c6 g7 c7 (.map (some wr.heap.size)) (.int .i64 (-1)) (wr.alloc (.map #[] 0)) := by
        obtain ⟨s6, s7, hne, hD, hb, hg6, hg7⟩ := Z.out
        have hN := below_new wr (.map #[] 0)
        have h1 := G.out
        have h2 := hb.size
        have h3 := hD.head.lt
        have h4 := hD.ltS
        have h5 := hD.map.lt
        exact ⟨_, _, _, _, rfl, rfl, hD.held hN, s6.held hN, s7.held hN, Mp.new wr, next hb hN, hne, by simp; omega, by simp; omega, by simp; omega, by omega⟩
      have Z0 := Lib.hid hA0
      have G6 := Lib.hid Z.out.2.2.1
      clear hA0 Z
      generalize wr.alloc (.map #[] 0) = w8 at *
      generalize wr.heap.size = B0 at *
      go_loopg [9, 10, 57] acs.length (fun g s9 s10 i u => ∃ j : Nat, j + g = acs.length ∧ i = .int .i64 j ∧ Acts w d S M n g6 c6 g7 c7 s9 s10 u)
      case atStart => exact ⟨0, by omega, rfl, Z0.out⟩
      case round =>
        clear Z0
        obtain ⟨j, hj, rfl, hA⟩ := hrel
        have Z := Lib.hid hA
        clear hA
        by_cases hlt : j < acs.length
        · obtain ⟨a, ha⟩ : ∃ a, acs[j]? = some a := ⟨_, List.getElem?_eq_getElem hlt⟩
          obtain ⟨hI, hps, hcap, hP, ad, rfl, a0, a1, a2, a3, a4⟩ := (AA.out.held (by obtain ⟨_, _, _, _, _, _, h⟩ := Z.out; exact h.below)) j a ha
          rw [add_field] at a1 a2 a3 a4
          simp only [Nat.zero_add, Nat.reduceAdd] at a1 a2 a3 a4
          have hbyte := a.C.toNat_lt
          obtain ⟨kind, I, C, odd, pA, pcap, ps⟩ := a
          dsimp only at hI hps hcap hP a0 a1 a2 a3 a4 hbyte
          have EA := Lib.hid ha
          clear ha
          go_upto_block 4 with fail
          have hbl := Blk.new wr 33 #[.int .i64 kind, .int .i64 I, .int .u8 (C.toNat : Int), .bool odd, .slice pA ps.length pcap]
          have hN := below_new wr (.cells #[.int .i64 kind, .int .i64 I, .int .u8 (C.toNat : Int), .bool odd, .slice pA ps.length pcap] 33)
          generalize wr.alloc (.cells #[.int .i64 kind, .int .i64 I, .int .u8 (C.toNat : Int), .bool odd, .slice pA ps.length pcap] 33) = u1 at *
          obtain ⟨B, sd, wn, left, rfl, rfl, hS⟩ := Z.out
          have hga : wr.heap.size ∉ [d, S, M] ∧ wr.heap.size ≠ g6 ∧ wr.heap.size ≠ g7 ∧ wr.heap.size ≠ B := by
            have h1 := hS.disk.head.lt
            have h2 := hS.disk.ltS
            have h3 := hS.disk.map.lt
            have h4 := hS.s6.lt
            have h5 := hS.s7.lt
            have h6 := hS.dirty.lt
            refine ⟨?_, by omega, by omega, by omega⟩
            simp
            omega
          have hgl : w.heap.size ≤ wr.heap.size := hS.below.size
          have S1 := Lib.hid (And.intro (hS.held hN) (And.intro hbl (And.intro hga (And.intro (hP.held hN) hgl))))
          clear hS hbl hN hP a0 a1 a2 a3 a4 Z hga hgl
          generalize wr.heap.size = ga at *
          go_cut [9, 10] (fun s9 s10 u => Acts w d S M n g6 c6 g7 c7 s9 s10 u)
          case first =>
            generalize bits BinOp.and IntKind.i64 kind 7 = q at *
            have hmm := @run_makeMap Try.prog
            by_cases h4 : q = 4
            · have b4 : (q == 4) = true := by simp [h4]
              clear h4
              as_aux_lemma =>
                by_cases hl0 : left = 0
                · subst hl0
                  go_wp2_with fail
                  refine (sync_fails S1.out.1.disk).mono ?_
                  rintro e u2 ⟨rfl, hD, hT⟩
                  have T2 := Lib.hid (S1.out.1.same hD hT)
                  clear hD hT
                  go_wp2_with fail
                  go_meet
                  case rel => exact ⟨B, sd, wn, -1, rfl, rfl, T2.out⟩
                · have bl : (left == 0) = false := by simp [hl0]
                  have hl1 := S1.out.1.disk.w1
                  have hl2 := S1.out.1.disk.w2
                  by_cases hl : 0 ≤ left
                  · have E : Hid (dec left = left - 1) := Lib.hid (by unfold dec; rw [if_neg (by omega)])
                    go_wp2_with fail
                    refine (sync_ok S1.out.1.disk hl0).mono ?_
                    rintro e u2 ⟨rfl, hD, hT⟩
                    rw [E.out] at hD
                    obtain ⟨u3, hcp, hc6, hc7⟩ := SL_copy (S1.out.1.turn hT).1 (S1.out.1.turn hT).2.1 3
                    have T2 := Lib.hid (S1.out.1.anew hD (S1.out.1.turn hT).2.2.2 hc6 ((S1.out.1.turn hT).2.1.turn hc7 (by simpa using fun e => S1.out.1.ne e.symm)) (hc7.mono (by simp)))
                    clear hD hT hc6 hc7
                    go_wp2_with fail
                    go_meet
                    case rel => exact ⟨_, _, _, left - 1, rfl, rfl, T2.out⟩
                  · have E : Hid (dec left = left) := Lib.hid (by unfold dec; rw [if_pos (by omega)])
                    go_wp2_with fail
                    refine (sync_ok S1.out.1.disk hl0).mono ?_
                    rintro e u2 ⟨rfl, hD, hT⟩
                    rw [E.out] at hD
                    obtain ⟨u3, hcp, hc6, hc7⟩ := SL_copy (S1.out.1.turn hT).1 (S1.out.1.turn hT).2.1 3
                    have T2 := Lib.hid (S1.out.1.anew hD (S1.out.1.turn hT).2.2.2 hc6 ((S1.out.1.turn hT).2.1.turn hc7 (by simpa using fun e => S1.out.1.ne e.symm)) (hc7.mono (by simp)))
                    clear hD hT hc6 hc7
                    go_wp2_with fail
                    go_meet
                    case rel => exact ⟨_, _, _, left, rfl, rfl, T2.out⟩

            have b4 : (q == 4) = false := by simp [h4]
            clear h4
            by_cases h5 : q = 5
            · have b5 : (q == 5) = true := by simp [h5]
              clear h5
              as_aux_lemma =>
                have y4 : u1.cell? ⟨ga, 4, none⟩ = some (.slice pA ps.length pcap) := S1.out.2.1.at_ 4
                have hpA : ps = [] ∨ ∀ a, pA = some a → a.block < w.heap.size := (AA.out j _ EA.out).2.2.2.1.lt
                have hA : ps = [] ∨ ∀ a, pA = some a → a.block ∉ [d, S, M] := hpA.imp id (fun h a e => by have := h a e; have := S1.out.1.lo; simp; omega)
                have PA := Lib.hid (And.intro hpA hA)
                clear hpA hA
                go_wp2_with fail
                refine (crash_any S1.out.1.disk pA ps pcap S1.out.2.2.2.1 PA.out.2 hps hcap).mono ?_
                rintro e u2 ⟨rfl, hD, hT⟩
                have C2 : Cr w u2 d S M n g6 c6 g7 c7 B ga #[.int .i64 kind, .int .i64 I, .int .u8 (C.toNat : Int), .bool odd, .slice pA ps.length pcap] sd wn pA ps (crashing sd wn ps 0) := by
                  obtain ⟨a6, a7, aB, ab⟩ := S1.out.1.turn hT
                  refine ⟨hD, a6.congr (fun i _ => by simp [crashing]), a7, aB, ab, S1.out.2.1.turn hT S1.out.2.2.1.1, ?_⟩
                  rcases PA.out.2 with h | h
                  · rw [h]; exact PicksAt.nil
                  · exact S1.out.2.2.2.1.turn hT h
                have K2 := Lib.hid C2
                have N6 : Hid (g6 ∉ [d, S, M, g7, ga] ∧ B ≠ g6 ∧ w.heap.size ≤ g6) := Lib.hid ⟨by
                  have h1 := S1.out.1.n6
                  have h2 := S1.out.1.ne
                  have h3 := S1.out.2.2.1.2.1
                  simp at h1 ⊢
                  omega, S1.out.1.B6, S1.out.1.lo.2.2.2.1⟩
                clear C2 hD hT y4
                go_wp2_with fail
                go_loopg [14, 15] n (fun g s14 s15 u => ∃ i : Nat, i + g = n ∧ s15 = .int .i64 i ∧ s14 = .int .i64 (unsafeBelow wn i) ∧ Cr w u d S M n g6 c6 g7 c7 B ga #[.int .i64 kind, .int .i64 I, .int .u8 (C.toNat : Int), .bool odd, .slice pA ps.length pcap] sd wn pA ps (crashing sd wn ps i))
                case atStart => exact ⟨0, by omega, rfl, rfl, K2.out⟩
                case round =>
                  clear K2
                  obtain ⟨i, hi, rfl, rfl, hC⟩ := hrel
                  have K := Lib.hid hC
                  clear hC
                  by_cases hin : i < n
                  · have hl := K.out.dirty.look (t := 30) (e := 4) (by kernel_rfl) (by kernel_rfl) (z := .bool false) (by kernel_rfl) (i := (i : Int)) (int_wf (by omega) (by omega))
                    cases hw : wn i with
                    | none =>
                      simp only [hw, Option.map_none, Option.getD_none] at hl
                      have U : Hid (unsafeBelow wn (i + 1) = unsafeBelow wn i) := Lib.hid (below_none hw)
                      have K1 := Lib.hid (K.out.congr (f := crashing sd wn ps (i + 1)) (fun j _ => by rw [crashing_none hw]))
                      clear hw
                      go_wp2_with fail
                      go_roundg (gk - 1)
                      case measure => omega
                      case rel => exact ⟨i + 1, by omega, by go_num, by rw [U.out], K1.out⟩
                    | some s =>
                      simp only [hw, Option.map_some, Option.getD_some] at hl
                      have U : Hid (unsafeBelow wn (i + 1) = unsafeBelow wn i + 1) := Lib.hid (below_some hw)
                      have y4 : wr.cell? ⟨ga, 4, none⟩ = some (.slice pA ps.length pcap) := K.out.blk_.at_ 4
                      have hub2 := unsafeBelow_le wn i
                      generalize hub : unsafeBelow wn i = ub at *
                      have UB := Lib.hid hub
                      clear hub
                      by_cases hk : ub < ps.length
                      · obtain ⟨⟨how, at_, turn⟩, hp⟩ : ∃ p, ps[ub]? = some p := ⟨_, List.getElem?_eq_getElem hk⟩
                        have E : Hid (crashed sd wn ps i = picked how at_ turn (sd i) s) := Lib.hid (by unfold crashed; rw [hw, UB.out, hp])
                        have ES : Hid (synced sd wn i = s) := Lib.hid (by unfold synced; rw [hw]; rfl)
                        have hsl := (S1.out.1.disk.wlen _ _ hw).2.2
                        obtain ⟨htn, pd, rfl, p0, p1, p2⟩ := K.out.picks ub _ hp
                        rw [add_field] at p1 p2
                        simp only [Nat.zero_add, Nat.reduceAdd] at p0 p1 p2
                        have HP := Lib.hid hp
                        clear hp hw
                        by_cases hh0 : how = 0
                        · have d0 : (how == 0) = false ∨ True := .inr trivial
                          subst hh0
                          have K1 := Lib.hid (K.out.next_same (by rw [E.out]; rfl))
                          clear d0
                          go_wp2_with fail
                          go_roundg (gk - 1)
                          case measure => omega
                          case rel => exact ⟨i + 1, by omega, by go_num, by rw [U.out]; go_num, K1.out⟩
                        · have z7 := K.out.s7.at_ hin
                          have z6 := K.out.s6.at_ hin
                          have f6 := K.out.s6.free i
                          rw [ES.out] at z7
                          have hb0 : (how == 0) = false := by simp [hh0]
                          have K4 := Lib.hid (K.out.put hin N6.out PA.out.1 s)
                          have y44 : (wr.setCell ⟨g6, i, none⟩ (.string ⟨s.toArray⟩)).cell? ⟨ga, 4, none⟩ = some (.slice (some pd) ps.length pcap) := K4.out.blk_.at_ 4
                          obtain ⟨-, pd', e', q0, -, -⟩ := K4.out.picks ub _ HP.out
                          cases e'
                          unfold str at z7 z6
                          by_cases hh1 : how = 1
                          · subst hh1
                            have K5 := Lib.hid (K4.out.done (fun _ => rfl) (by rw [E.out]; rfl))
                            go_wp2_with fail
                            go_roundg (gk - 1)
                            case measure => omega
                            case rel => exact ⟨i + 1, by omega, by go_num, by rw [U.out]; go_num, K5.out⟩
                          · as_aux_lemma =>
                              have hb1 : (how == 1) = false := by simp [hh1]
                              replace E := Lib.hid (E.out.trans (show picked how at_ turn (sd i) s = spoil s (firstOf at_) turn 32 by unfold picked; rw [if_neg hh0, if_neg hh1]))
                              clear hh1 hh0
                              go_wp2_with fail
                              have facts : ∀ {u : World} {f : Nat → List UInt8}, Cr w u d S M n g6 c6 g7 c7 B ga #[.int .i64 kind, .int .i64 I, .int .u8 (C.toNat : Int), .bool odd, .slice (some pd) ps.length pcap] sd wn (some pd) ps f → (u.cell? ⟨g7, i, none⟩ = some (.string ⟨s.toArray⟩) ∧ u.cell? ⟨ga, 4, none⟩ = some (.slice (some pd) ps.length pcap) ∧ u.cell? ⟨(pd.add (ub * 3)).block, (pd.add (ub * 3)).off + 1, none⟩ = some (.int .i64 at_) ∧ u.cell? ⟨(pd.add (ub * 3)).block, (pd.add (ub * 3)).off + 2, none⟩ = some (.int .u32 (turn : Int))) := by
                                intro u f h
                                obtain ⟨-, pd'', e'', -, r1, r2⟩ := h.picks ub _ HP.out
                                cases e''
                                rw [add_field] at r1 r2
                                refine ⟨?_, h.blk_.at_ 4, r1, r2⟩
                                rw [h.s7.at_ hin, ES.out]
                                rfl
                              refine wp_region_held_drew (S := fun u => (u.cell? ⟨g7, i, none⟩ = some (.string ⟨s.toArray⟩) ∧ u.cell? ⟨ga, 4, none⟩ = some (.slice (some pd) ps.length pcap) ∧ u.cell? ⟨(pd.add (ub * 3)).block, (pd.add (ub * 3)).off + 1, none⟩ = some (.int .i64 at_) ∧ u.cell? ⟨(pd.add (ub * 3)).block, (pd.add (ub * 3)).off + 2, none⟩ = some (.int .u32 (turn : Int)))) (by kernel_rfl) (facts K4.out.drew) (fun hHeld => ?_)
                              refine take_list (i := 0) (v := .slice (some ⟨g6, 0, none⟩) n c6) rfl (by kernel_rfl) (by kernel_rfl) (by kernel_rfl) (fun _ _ _ h => h) (.inl ⟨rfl, ?_⟩) hHeld ?_
                              · (intro w hSw; go_simp)
                              go_frame
                              refine take_list (i := 1) (v := .int .i64 i) rfl (by kernel_rfl) (by kernel_rfl) (by kernel_rfl) (fun _ _ _ h => h) (.inl ⟨rfl, ?_⟩) hHeld ?_
                              · (intro w hSw; go_simp)
                              go_frame
                              refine take_list (i := 2) (v := .slice (some ⟨g7, 0, none⟩) n c7) rfl (by kernel_rfl) (by kernel_rfl) (by kernel_rfl) (fun _ _ _ h => h) (.inl ⟨rfl, ?_⟩) hHeld ?_
                              · (intro w hSw; go_simp)
                              go_frame
                              refine take_list (i := 3) (v := .int .i64 i) rfl (by kernel_rfl) (by kernel_rfl) (by kernel_rfl) (fun _ _ _ h => h) (.inl ⟨rfl, ?_⟩) hHeld ?_
                              · (intro w hSw; go_simp)
                              go_frame
                              refine take_list (i := 4) (v := .pointer (some ⟨g7, i, none⟩)) rfl (by kernel_rfl) (by kernel_rfl) (by kernel_rfl) (fun _ _ _ h => h) (.inl ⟨rfl, ?_⟩) hHeld ?_
                              · (intro w hSw; go_simp)
                              go_frame
                              refine take_list (i := 5) (v := .string ⟨s.toArray⟩) rfl (by kernel_rfl) (by kernel_rfl) (by kernel_rfl) (fun _ _ _ h => h) (.inl ⟨rfl, ?_⟩) hHeld ?_
                              · (intro w hSw; go_simp)
                              go_frame
                              refine take_list (i := 6) (v := .pointer (some ⟨ga, 4, none⟩)) rfl (by kernel_rfl) (by kernel_rfl) (by kernel_rfl) (fun _ _ _ h => h) (.inl ⟨rfl, ?_⟩) hHeld ?_
                              · (intro w hSw; go_simp)
                              go_frame
                              refine take_list (i := 7) (v := .slice (some pd) ps.length pcap) rfl (by kernel_rfl) (by kernel_rfl) (by kernel_rfl) (fun _ _ _ h => h) (.inl ⟨rfl, ?_⟩) hHeld ?_
                              · (intro w hSw; go_simp)
                              go_frame
                              refine take_list (i := 8) (v := .int .i64 ub) rfl (by kernel_rfl) (by kernel_rfl) (by kernel_rfl) (fun _ _ _ h => h) (.inl ⟨rfl, ?_⟩) hHeld ?_
                              · (intro w hSw; go_simp)
                              go_frame
                              refine take_list (i := 9) (v := .pointer (some (pd.add (ub * 3)))) rfl (by kernel_rfl) (by kernel_rfl) (by kernel_rfl) (fun _ _ _ h => h) (.inl ⟨rfl, ?_⟩) hHeld ?_
                              · (intro w hSw; go_simp)
                              go_frame
                              refine take_list (i := 10) (v := .pointer (some ⟨(pd.add (ub * 3)).block, (pd.add (ub * 3)).off + 1, none⟩)) rfl (by kernel_rfl) (by kernel_rfl) (by kernel_rfl) (fun _ _ _ h => h) (.inl ⟨rfl, ?_⟩) hHeld ?_
                              · (intro w hSw; go_simp)
                              go_frame
                              refine take_list (i := 11) (v := .int .i64 at_) rfl (by kernel_rfl) (by kernel_rfl) (by kernel_rfl) (fun _ _ _ h => h) (.inl ⟨rfl, ?_⟩) hHeld ?_
                              · (intro w hSw; go_simp)
                              go_frame
                              refine take_list (i := 12) (v := .pointer (some ⟨ga, 4, none⟩)) rfl (by kernel_rfl) (by kernel_rfl) (by kernel_rfl) (fun _ _ _ h => h) (.inl ⟨rfl, ?_⟩) hHeld ?_
                              · (intro w hSw; go_simp)
                              go_frame
                              refine take_list (i := 13) (v := .slice (some pd) ps.length pcap) rfl (by kernel_rfl) (by kernel_rfl) (by kernel_rfl) (fun _ _ _ h => h) (.inl ⟨rfl, ?_⟩) hHeld ?_
                              · (intro w hSw; go_simp)
                              go_frame
                              refine take_list (i := 14) (v := .int .i64 ub) rfl (by kernel_rfl) (by kernel_rfl) (by kernel_rfl) (fun _ _ _ h => h) (.inl ⟨rfl, ?_⟩) hHeld ?_
                              · (intro w hSw; go_simp)
                              go_frame
                              refine take_list (i := 15) (v := .pointer (some (pd.add (ub * 3)))) rfl (by kernel_rfl) (by kernel_rfl) (by kernel_rfl) (fun _ _ _ h => h) (.inl ⟨rfl, ?_⟩) hHeld ?_
                              · (intro w hSw; go_simp)
                              go_frame
                              refine take_list (i := 16) (v := .pointer (some ⟨(pd.add (ub * 3)).block, (pd.add (ub * 3)).off + 2, none⟩)) rfl (by kernel_rfl) (by kernel_rfl) (by kernel_rfl) (fun _ _ _ h => h) (.inl ⟨rfl, ?_⟩) hHeld ?_
                              · (intro w hSw; go_simp)
                              go_frame
                              refine take_list (i := 17) (v := .int .u32 turn) rfl (by kernel_rfl) (by kernel_rfl) (by kernel_rfl) (fun _ _ _ h => h) (.inl ⟨rfl, ?_⟩) hHeld ?_
                              · (intro w hSw; go_simp)
                              go_frame
                              refine ready_list (i := 18) rfl (by kernel_rfl) (fun K hK => ?_)
                              go_simp
                              refine (turned_any _ s hsl at_ turn htn).mono ?_
                              rintro e u5 ⟨rfl, hb5⟩
                              have K5 := (show Cr w (wr.setCell ⟨g6, i, none⟩ (.string ⟨s.toArray⟩)).drew d S M n g6 c6 g7 c7 B ga _ sd wn (some pd) ps _ from K4.out.drew).held hb5
                              refine hK.out _ _ (facts K5) (fun hHeld => ?_)
                              clear hK K
                              refine take_list (i := 19) (v := .pointer (some ⟨g6, i, none⟩)) rfl (by kernel_rfl) (by kernel_rfl) (by kernel_rfl) (fun _ _ _ h => h) (.inl ⟨rfl, ?_⟩) hHeld ?_
                              · (intro w hSw; go_simp)
                              go_frame
                              have K6 := K5.put hin N6.out PA.out.1 (spoil s (firstOf at_) turn 32)
                              have v6 := K5.s6.at_ hin
                              have v6f := K5.s6.free i
                              refine ready_list (i := 20) rfl (by kernel_rfl) (fun K hK => ?_)
                              go_simp
                              refine hK.out _ _ (facts K6) (fun hHeld => ?_)
                              clear hK K
                              refine wpAnyH_done (by kernel_rfl) ?_ _
                              try go_frame
                              have K7 := Lib.hid (K6.done (fun j => by by_cases e : j = i <;> simp [e]) E.out)
                              clear hHeld K5 K6 v6 v6f facts hb5
                              go_wp2_with fail
                              go_roundg (gk - 1)
                              case measure => omega
                              case rel => exact ⟨i + 1, by omega, by go_num, by rw [U.out]; go_num, K7.out⟩
                      · have E : Hid (crashed sd wn ps i = sd i) := Lib.hid (by unfold crashed; rw [hw, UB.out, List.getElem?_eq_none (by omega)])
                        have K1 := Lib.hid (K.out.next_same E.out)
                        have dk : decide ((ub : Int) < (ps.length : Int)) = false := decide_eq_false (by omega)
                        clear hw
                        go_wp2_with fail
                        go_roundg (gk - 1)
                        case measure => omega
                        case rel => exact ⟨i + 1, by omega, by go_num, by rw [U.out]; go_num, K1.out⟩
                  · as_aux_lemma =>
                      obtain rfl : n = i := by omega
                      have hX6 : SL wr g6 n c6 (crashed sd wn ps) := K.out.s6.congr (fun j hj => by unfold crashing; rw [if_pos hj])
                      obtain ⟨u3, hcp, hc7, hct⟩ := SL_copy K.out.s7 hX6 3
                      have T2 := Lib.hid (S1.out.1.anew K.out.disk K.out.below (hX6.turn hct (by simpa using S1.out.1.ne)) hc7 (hct.mono (by simp)))
                      clear hX6 hc7 hct
                      go_wp2_with fail
                      go_meet
                      case rel => exact ⟨_, _, _, -1, rfl, rfl, T2.out⟩

            have b5 : (q == 5) = false := by simp [h5]
            clear h5
            by_cases h6 : q = 6
            · have b6 : (q == 6) = true := by simp [h6]
              clear h6
              as_aux_lemma =>

                have ai : u1.cell? ⟨ga, 1, none⟩ = some (.int .i64 I) := S1.out.2.1.at_ 1
                by_cases hI1 : -1 ≤ I
                · have E : Hid (failAt I = I) := Lib.hid (by unfold failAt; split <;> omega)
                  go_wp2_with fail
                  refine (fail_any S1.out.1.disk hI.2).mono ?_
                  rintro e u2 ⟨rfl, hD, hT, -⟩
                  have T2 := Lib.hid (S1.out.1.same hD (hT.mono (by simp)))
                  have X2 := S1.out.2.1.turn hT (fun e => S1.out.2.2.1.1 (by simp at e; simp [e]))
                  have ai2 : u2.cell? ⟨ga, 1, none⟩ = some (.int .i64 I) := X2.at_ 1
                  rw [E.out] at T2
                  clear hD hT X2
                  go_wp2_with fail
                  go_meet
                  case rel => exact ⟨B, sd, wn, I, rfl, rfl, T2.out⟩
                · have E : Hid (failAt I = -1) := Lib.hid (by unfold failAt; split <;> omega)
                  go_wp2_with fail
                  refine (fail_any S1.out.1.disk hI.2).mono ?_
                  rintro e u2 ⟨rfl, hD, hT, -⟩
                  have T2 := Lib.hid (S1.out.1.same hD (hT.mono (by simp)))
                  have X2 := S1.out.2.1.turn hT (fun e => S1.out.2.2.1.1 (by simp at e; simp [e]))
                  have ai2 : u2.cell? ⟨ga, 1, none⟩ = some (.int .i64 I) := X2.at_ 1
                  rw [E.out] at T2
                  clear hD hT X2
                  go_wp2_with fail
                  go_meet
                  case rel => exact ⟨B, sd, wn, -1, rfl, rfl, T2.out⟩

            have b6 : (q == 6) = false := by simp [h6]
            clear h6
            by_cases h7 : q = 7
            · have b7 : (q == 7) = true := by simp [h7]
              clear h7
              as_aux_lemma =>

                go_wp2_with fail
                go_meet
                case rel => exact ⟨B, sd, wn, left, rfl, rfl, S1.out.1⟩

            have b7 : (q == 7) = false := by simp [h7]
            clear h7
            as_aux_lemma =>
              have y1 : u1.cell? ⟨ga, 1, none⟩ = some (.int .i64 I) := S1.out.2.1.at_ 1
              have y2 : u1.cell? ⟨ga, 2, none⟩ = some (.int .u8 (C.toNat : Int)) := S1.out.2.1.at_ 2
              have y3 : u1.cell? ⟨ga, 3, none⟩ = some (.bool odd) := S1.out.2.1.at_ 3
              by_cases h0 : I < 0
              · cases odd
                · as_aux_lemma =>
                    go_wp2_with fail
                    refine (full_ans C rfl _).mono ?_
                    rintro e u2 ⟨gb, rfl, hgb, hB, hb2⟩
                    have T2 := Lib.hid (And.intro (S1.out.1.held hb2) (And.intro hB (S1.out.2.1.held hb2)))
                    have x1 : u2.cell? ⟨ga, 1, none⟩ = some (.int .i64 I) := T2.out.2.2.at_ 1
                    have x3 : u2.cell? ⟨ga, 3, none⟩ = some (.bool false) := T2.out.2.2.at_ 3
                    clear hB hb2 y1 y2 y3
                    go_wp2_with fail
                    refine (write_off T2.out.1.disk (.inl h0)).mono ?_
                    rintro e w' ⟨rfl, rfl⟩
                    go_wp2_with fail
                    go_meet
                    case rel => exact ⟨B, sd, wn, left, rfl, rfl, T2.out.1⟩
                · as_aux_lemma =>
                    go_wp2_with fail
                    refine (full_ans C rfl _).mono ?_
                    rintro e u2 ⟨gb, rfl, hgb, hB, hb2⟩
                    have T2 := Lib.hid (And.intro (S1.out.1.held hb2) (And.intro hB (S1.out.2.1.held hb2)))
                    have x1 : u2.cell? ⟨ga, 1, none⟩ = some (.int .i64 I) := T2.out.2.2.at_ 1
                    have x3 : u2.cell? ⟨ga, 3, none⟩ = some (.bool true) := T2.out.2.2.at_ 3
                    clear hB hb2 y1 y2 y3
                    go_wp2_with fail
                    refine (write_off T2.out.1.disk (.inl h0)).mono ?_
                    rintro e w' ⟨rfl, rfl⟩
                    go_wp2_with fail
                    go_meet
                    case rel => exact ⟨B, sd, wn, left, rfl, rfl, T2.out.1⟩
              replace h0 : 0 ≤ I := by omega
              by_cases h1 : (n : Int) ≤ I
              · cases odd
                · as_aux_lemma =>
                    go_wp2_with fail
                    refine (full_ans C rfl _).mono ?_
                    rintro e u2 ⟨gb, rfl, hgb, hB, hb2⟩
                    have T2 := Lib.hid (And.intro (S1.out.1.held hb2) (And.intro hB (S1.out.2.1.held hb2)))
                    have x1 : u2.cell? ⟨ga, 1, none⟩ = some (.int .i64 I) := T2.out.2.2.at_ 1
                    have x3 : u2.cell? ⟨ga, 3, none⟩ = some (.bool false) := T2.out.2.2.at_ 3
                    clear hB hb2 y1 y2 y3
                    go_wp2_with fail
                    refine (write_off T2.out.1.disk (.inr h1)).mono ?_
                    rintro e w' ⟨rfl, rfl⟩
                    go_wp2_with fail
                    go_meet
                    case rel => exact ⟨B, sd, wn, left, rfl, rfl, T2.out.1⟩
                · as_aux_lemma =>
                    go_wp2_with fail
                    refine (full_ans C rfl _).mono ?_
                    rintro e u2 ⟨gb, rfl, hgb, hB, hb2⟩
                    have T2 := Lib.hid (And.intro (S1.out.1.held hb2) (And.intro hB (S1.out.2.1.held hb2)))
                    have x1 : u2.cell? ⟨ga, 1, none⟩ = some (.int .i64 I) := T2.out.2.2.at_ 1
                    have x3 : u2.cell? ⟨ga, 3, none⟩ = some (.bool true) := T2.out.2.2.at_ 3
                    clear hB hb2 y1 y2 y3
                    go_wp2_with fail
                    refine (write_off T2.out.1.disk (.inr h1)).mono ?_
                    rintro e w' ⟨rfl, rfl⟩
                    go_wp2_with fail
                    go_meet
                    case rel => exact ⟨B, sd, wn, left, rfl, rfl, T2.out.1⟩
              replace h1 : I < n := by omega
              cases odd
              case true =>
                as_aux_lemma =>
                  go_wp2_with fail
                  refine (full_ans C rfl _).mono ?_
                  rintro e u2 ⟨gb, rfl, hgb, hB, hb2⟩
                  have T2 := Lib.hid (And.intro (S1.out.1.held hb2) (And.intro hB (S1.out.2.1.held hb2)))
                  have x1 : u2.cell? ⟨ga, 1, none⟩ = some (.int .i64 I) := T2.out.2.2.at_ 1
                  have x3 : u2.cell? ⟨ga, 3, none⟩ = some (.bool true) := T2.out.2.2.at_ 3
                  clear hB hb2 y1 y2 y3
                  go_wp2_with fail
                  refine (write_len T2.out.1.disk h0 h1 (by omega)).mono ?_
                  rintro e w' ⟨rfl, rfl⟩
                  go_wp2_with fail
                  go_meet
                  case rel => exact ⟨B, sd, wn, left, rfl, rfl, T2.out.1⟩
              obtain ⟨m, rfl⟩ := Int.eq_ofNat_of_zero_le h0
              by_cases hl0 : left = 0
              · as_aux_lemma =>
                  subst hl0
                  go_wp2_with fail
                  refine (full_ans C rfl _).mono ?_
                  rintro e u2 ⟨gb, rfl, hgb, hB, hb2⟩
                  have T2 := Lib.hid (And.intro (S1.out.1.held hb2) (And.intro hB (S1.out.2.1.held hb2)))
                  have x1 : u2.cell? ⟨ga, 1, none⟩ = some (.int .i64 (m : Int)) := T2.out.2.2.at_ 1
                  have x3 : u2.cell? ⟨ga, 3, none⟩ = some (.bool false) := T2.out.2.2.at_ 3
                  clear hB hb2 y1 y2 y3
                  go_wp2_with fail
                  refine (write_fails T2.out.1.disk h0 h1).mono ?_
                  rintro e u3 ⟨rfl, hD, hT⟩
                  have T3 := Lib.hid (T2.out.1.same hD (hT.mono (by simp)))
                  clear hD hT
                  go_wp2_with fail
                  go_meet
                  case rel => exact ⟨B, sd, wn, -1, rfl, rfl, T3.out⟩
              have bl : (left == 0) = false := by simp [hl0]
              have hl1 := S1.out.1.disk.w1
              have hl2 := S1.out.1.disk.w2
              by_cases hl : 0 ≤ left
              · have E : Hid (dec left = left - 1) := Lib.hid (by unfold dec; rw [if_neg (by omega)])
                as_aux_lemma =>
                  go_wp2_with fail
                  refine (full_ans C rfl _).mono ?_
                  rintro e u2 ⟨gb, rfl, hgb, hB, hb2⟩
                  have T2 := Lib.hid (And.intro (S1.out.1.held hb2) (And.intro hB (S1.out.2.1.held hb2)))
                  have x1 : u2.cell? ⟨ga, 1, none⟩ = some (.int .i64 (m : Int)) := T2.out.2.2.at_ 1
                  have x3 : u2.cell? ⟨ga, 3, none⟩ = some (.bool false) := T2.out.2.2.at_ 3
                  clear hB hb2 y1 y2 y3
                  go_wp2_with fail
                  refine (write_ok T2.out.1.disk hl0 h0 h1 T2.out.2.1 (fun a e => by cases e; have := S1.out.1.disk.head.lt; show gb ≠ d; omega)).mono ?_
                  rintro e u3 ⟨rfl, hD, hT⟩
                  rw [E.out] at hD
                  obtain ⟨hS7, u5, hmu, hSt⟩ := T2.out.1.wrote hD hT (by omega)
                  have T5 := Lib.hid hSt
                  have z1 : u3.cell? ⟨ga, 1, none⟩ = some (.int .i64 (m : Int)) := (T2.out.2.2.turn hT (fun e => S1.out.2.2.1.1 (by simp at e; simp; omega))).at_ 1
                  have z7 := hS7.at_ (i := m) (by omega)
                  have f7 := hS7.free m
                  have zB := T2.out.2.1.turn hT (fun a e => by cases e; have := S1.out.1.disk.head.lt; have := S1.out.1.disk.map.lt; simp; omega)
                  have hcv := conv_back (cap := 48) zB (by omega)
                  have z14 : (u3.setCell ⟨g7, m, none⟩ (.string ⟨(full C).toArray⟩)).cell? ⟨ga, 1, none⟩ = some (.int .i64 (m : Int)) := by
                    rw [World.cell?_setCell_other _ _ _ _ (fun e => S1.out.2.2.1.2.2.1 (by cases e; rfl))]
                    exact z1
                  clear hD hT hSt hS7 zB
                  go_wp2_with fail
                  go_meet
                  case rel => exact ⟨B, sd, _, left - 1, rfl, rfl, T5.out⟩
              · have E : Hid (dec left = left) := Lib.hid (by unfold dec; rw [if_pos (by omega)])
                as_aux_lemma =>
                  go_wp2_with fail
                  refine (full_ans C rfl _).mono ?_
                  rintro e u2 ⟨gb, rfl, hgb, hB, hb2⟩
                  have T2 := Lib.hid (And.intro (S1.out.1.held hb2) (And.intro hB (S1.out.2.1.held hb2)))
                  have x1 : u2.cell? ⟨ga, 1, none⟩ = some (.int .i64 (m : Int)) := T2.out.2.2.at_ 1
                  have x3 : u2.cell? ⟨ga, 3, none⟩ = some (.bool false) := T2.out.2.2.at_ 3
                  clear hB hb2 y1 y2 y3
                  go_wp2_with fail
                  refine (write_ok T2.out.1.disk hl0 h0 h1 T2.out.2.1 (fun a e => by cases e; have := S1.out.1.disk.head.lt; show gb ≠ d; omega)).mono ?_
                  rintro e u3 ⟨rfl, hD, hT⟩
                  rw [E.out] at hD
                  obtain ⟨hS7, u5, hmu, hSt⟩ := T2.out.1.wrote hD hT (by omega)
                  have T5 := Lib.hid hSt
                  have z1 : u3.cell? ⟨ga, 1, none⟩ = some (.int .i64 (m : Int)) := (T2.out.2.2.turn hT (fun e => S1.out.2.2.1.1 (by simp at e; simp; omega))).at_ 1
                  have z7 := hS7.at_ (i := m) (by omega)
                  have f7 := hS7.free m
                  have zB := T2.out.2.1.turn hT (fun a e => by cases e; have := S1.out.1.disk.head.lt; have := S1.out.1.disk.map.lt; simp; omega)
                  have hcv := conv_back (cap := 48) zB (by omega)
                  have z14 : (u3.setCell ⟨g7, m, none⟩ (.string ⟨(full C).toArray⟩)).cell? ⟨ga, 1, none⟩ = some (.int .i64 (m : Int)) := by
                    rw [World.cell?_setCell_other _ _ _ _ (fun e => S1.out.2.2.1.2.2.1 (by cases e; rfl))]
                    exact z1
                  clear hD hT hSt hS7 zB
                  go_wp2_with fail
                  go_meet
                  case rel => exact ⟨B, sd, _, left, rfl, rfl, T5.out⟩

          case rest =>
            as_aux_lemma =>
              obtain ⟨B', sd', wn', left', rfl, rfl, hS⟩ := hcut
              have T := Lib.hid hS
              have hc7 := hS.s7.cap_le
              clear hS S1
              go_wp2_with fail
              go_loopw [214] (fun i u => ∃ q : Nat, q ≤ n ∧ i = .int .i64 q ∧ St w u d S M n g6 c6 g7 c7 B' sd' wn' left') (fun i _ => n - (intOf i).toNat)
              case atStart => exact ⟨0, by omega, rfl, T.out⟩
              case round =>
                clear T
                obtain ⟨q, hq, rfl, hS⟩ := hrel
                have T := Lib.hid hS
                clear hS
                by_cases hqn : q < n
                · go_wp2_with fail
                  refine (read_ok T.out.disk (i := q) (by omega)).mono ?_
                  rintro e w5 ⟨g1, cap1, rfl, hg1, hB, hb5⟩
                  have T5 := Lib.hid (T.out.held hb5)
                  have c7q := T5.out.s7.at_ hqn
                  generalize synced sd' wn' q = s at *
                  clear hb5 T
                  go_wp2_with fail
                  refine wp_region_held_drew (S := fun u => Bys u (some ⟨g1, 0, none⟩) 48 s ∧ u.cell? ⟨g7, q, none⟩ = some (str s)) (by kernel_rfl) ⟨hB, c7q⟩ (fun hHeld => ?_)
                  refine take_list (i := 0) (v := .int .i64 0) rfl (by kernel_rfl) (by kernel_rfl) (by kernel_rfl) (fun _ _ _ h => h) (.inl ⟨rfl, ?_⟩) hHeld ?_
                  · (intro w hSw; go_simp)
                  go_frame
                  refine take_list (i := 1) (v := .bool false) rfl (by kernel_rfl) (by kernel_rfl) (by kernel_rfl) (fun _ _ _ h => h) (.inl ⟨rfl, ?_⟩) hHeld ?_
                  · (intro w hSw; go_simp)
                  go_frame
                  refine take_list (i := 2) (v := .bool false) rfl (by kernel_rfl) (by kernel_rfl) (by kernel_rfl) (fun _ _ _ h => h) (.inl ⟨rfl, ?_⟩) hHeld ?_
                  · (intro w hSw; go_simp)
                  go_frame
                  refine take_list (i := 3) (v := .slice (some ⟨g1, 0, none⟩) 48 cap1) rfl (by kernel_rfl) (by kernel_rfl) (by kernel_rfl) (fun _ _ _ h => h) (.inl ⟨rfl, ?_⟩) hHeld ?_
                  · (intro w hSw; go_simp)
                  go_frame
                  refine take_list (i := 4) (v := .string ⟨s.toArray⟩) rfl (by kernel_rfl) (by kernel_rfl) (by kernel_rfl) (fun _ _ _ h => h) (.inl ⟨rfl, ?_⟩) hHeld ?_
                  · (intro w hSw; have h := conv_back (cap := cap1) hSw.1 (by omega); go_simp)
                  go_frame
                  refine take_list (i := 5) (v := .slice (some ⟨g7, 0, none⟩) n c7) rfl (by kernel_rfl) (by kernel_rfl) (by kernel_rfl) (fun _ _ _ h => h) (.inl ⟨rfl, ?_⟩) hHeld ?_
                  · (intro w hSw; go_simp)
                  go_frame
                  refine take_list (i := 6) (v := .int .i64 q) rfl (by kernel_rfl) (by kernel_rfl) (by kernel_rfl) (fun _ _ _ h => h) (.inl ⟨rfl, ?_⟩) hHeld ?_
                  · (intro w hSw; go_simp)
                  go_frame
                  refine take_list (i := 7) (v := .pointer (some ⟨g7, q, none⟩)) rfl (by kernel_rfl) (by kernel_rfl) (by kernel_rfl) (fun _ _ _ h => h) (.inl ⟨rfl, ?_⟩) hHeld ?_
                  · (intro w hSw; go_simp)
                  go_frame
                  refine take_list (i := 8) (v := .string ⟨s.toArray⟩) rfl (by kernel_rfl) (by kernel_rfl) (by kernel_rfl) (fun _ _ _ h => h) (.inl ⟨rfl, ?_⟩) hHeld ?_
                  · (intro w hSw; go_simp; rfl)
                  go_frame
                  refine take_list (i := 9) (v := .bool false) rfl (by kernel_rfl) (by kernel_rfl) (by kernel_rfl) (fun _ _ _ h => h) (.inl ⟨rfl, ?_⟩) hHeld ?_
                  · (intro w hSw; go_simp)
                  go_frame
                  refine take_list (i := 10) (v := .bool false) rfl (by kernel_rfl) (by kernel_rfl) (by kernel_rfl) (fun _ _ _ h => h) (.inl ⟨rfl, ?_⟩) hHeld ?_
                  · (intro w hSw; go_simp)
                  go_frame
                  refine wpAnyH_done (by kernel_rfl) ?_ _
                  have T6 := Lib.hid T5.out.drew
                  clear hHeld hB c7q T5
                  go_wp2_with fail
                  go_roundw
                  case rel => exact ⟨q + 1, by omega, by go_num, T6.out⟩
                  case measure => simp [intOf]; omega
                · go_wp2_with fail
                  go_roundg (gk - 1)
                  case measure => omega
                  case rel => exact ⟨j + 1, by omega, by go_num, B', sd', wn', left', rfl, rfl, T.out⟩
        · as_aux_lemma =>
            obtain ⟨B, sd, wn, left, rfl, rfl, hS⟩ := Z.out
            have T := Lib.hid hS
            clear hS Z
            go_wp2_with fail
            refine (read_off T.out.disk (i := (n : Int)) (by omega)).mono ?_
            rintro e w' ⟨rfl, rfl⟩
            go_wp2_with fail
            refine (read_off T.out.disk (i := -1) (by omega)).mono ?_
            rintro e w' ⟨rfl, rfl⟩
            go_wp2_with fail
            refine (size_any T.out.disk).mono ?_
            rintro e w' ⟨rfl, rfl⟩
            go_wp2_with fail
            go_ret
            exact ⟨rfl, T.out.below⟩
end
end Go.Proofs.Ytnoolpgklenhaaa
