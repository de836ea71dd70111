/-
  Package route's open: the ways to a prefix that may be taken.
-/
import Derived.Test.YtblhijgjidfioaaRtD
import Derived.Laws.MakeOwn
namespace Go.Proofs.Ytblhijgjidfioaa
open Go.RowKit Go.Maps

/-- a way that may be taken, and how far it is by that -/
abbrev Rh := Rt × Int
def rhcl (x : Rh) : List Value := [.int .i64 x.1.fr, .int .u32 x.1.id, .int .u32 x.1.seq, .int .u16 x.1.met, .int .i64 x.1.exp, .int .u16 x.2]
theorem rhcl_len (x : Rh) : (rhcl x).length = 6 := rfl
def reachF (f : Ways) (cs : List Int) (most a : Nat) (len : Int) (k : Nat) : Option Rh :=
  match f ⟨a, len, k⟩ with
  | none => none
  | some r => if costAt cs k < 1 ∨ ¬ r.id ≤ most ∨ far r.met (costAt cs k) = 65535 then none else some (r, far r.met (costAt cs k))
def openL (f : Ways) (cs : List Int) (most a : Nat) (len : Int) (K : Nat) : List Rh := (List.range K).filterMap (reachF f cs most a len)
theorem openL_succ (f : Ways) (cs : List Int) (most a : Nat) (len : Int) (K : Nat) : openL f cs most a len (K + 1) = openL f cs most a len K ++ (reachF f cs most a len K).toList := by
  unfold openL
  rw [List.range_succ, List.filterMap_append]
  cases h : reachF f cs most a len K <;> simp [h]
theorem openL_len (f : Ways) (cs : List Int) (most a : Nat) (len : Int) (K : Nat) : (openL f cs most a len K).length ≤ K := by
  unfold openL
  exact Nat.le_trans (List.length_filterMap_le _ _) (by simp)
theorem reach_parts : (Try.prog.info? 82).map (fun i => (i.zero, i.size, i.bytes)) = some (some (.agg #[.int .i64 0, .int .u32 0, .int .u32 0, .int .u16 0, .int .i64 0, .int .u16 0]), 6, 40) := by kernel_rfl
theorem info_parts {P : Program} {t : TypeId} {z : Option Value} {n b : Nat} (h : (P.info? t).map (fun i => (i.zero, i.size, i.bytes)) = some (z, n, b)) : ∃ i, P.info? t = some i ∧ i.zero = z ∧ i.size = n ∧ i.bytes = b := by
  cases hi : P.info? t with
  | none => rw [hi] at h; cases h
  | some i =>
    rw [hi] at h
    simp only [Option.map_some, Option.some.injEq, Prod.mk.injEq] at h
    exact ⟨i, rfl, h.1, h.2.1, h.2.2⟩
/-- all that the costs and the table say, in one world -/
structure Asks (w : World) (t n : Nat) (o : Option Nat) (f : Ways) (A : Option Addr) (lc cc : Nat) (cs : List Int) : Prop where
  tb : Tb w t o n f
  cs : InI w A lc cc cs
  fits : ∀ k r, f k = some r → r.Fits
theorem Asks.held {w w' : World} {t n : Nat} {o : Option Nat} {f : Ways} {A : Option Addr} {lc cc : Nat} {cs : List Int} (h : Asks w t n o f A lc cc cs) (hb : Below w.heap.size w w') : Asks w' t n o f A lc cc cs := ⟨h.tb.held hb, h.cs.held hb, h.fits⟩

theorem owns_held {w w' : World} {B : Nat} {e : TypeId} {s n : Nat} {v : Value} {xs : List Value} (h : w.ownsRow B e s v n xs) (hb : Below w.heap.size w w') : w'.ownsRow B e s v n xs := by
  refine ⟨h.1, ?_⟩
  rcases h.2 with h2 | ⟨g, cap, cur, h1, h2, h3, r⟩
  · exact .inl h2
  · exact .inr ⟨g, cap, cur, h1, h2, (hb.block g (Array.getElem?_eq_some_iff.1 h3).1).trans h3, r⟩
theorem enter_cost : ∀ args w, (callFunc 17 args).run Try.prog w = .ok (.enter 17 args) w := enters_of Try.func17 (by kernel_rfl) rfl

set_option maxHeartbeats 4000000 in
set_option maxRecDepth 100000 in
theorem open_any {w : World} {t n : Nat} {o : Option Nat} {f : Ways} {A : Option Addr} {lc cc : Nat} {cs : List Int} (h : Asks w t n o f A lc cc cs) (most a : Nat) (len : Int) (ha : a < 4294967296) (hl : -9223372036854775808 ≤ len ∧ len ≤ 9223372036854775807) :
    Calls Try.prog 29 #[.pointer (some ⟨t, 0, none⟩), .agg #[.int .u32 a, .int .i64 len], .func (.func 17) #[cosV A lc cc most] #[], .func (.func 18) #[cosV A lc cc most] #[]] w fun e w' =>
      ∃ v, e = .returned v ∧ w'.ownsRow w.heap.size 82 6 v (openL f cs most a len 9).length ((openL f cs most a len 9).flatMap rhcl) ∧ Below w.heap.size w w' := by
  obtain ⟨i0, hi0, hz0, hz1, hz2⟩ := info_parts reach_parts
  have II := Lib.hid (And.intro hi0 (And.intro hz0 (And.intro hz1 hz2)))
  clear hi0 hz0 hz1 hz2
  have PB := Blk.new w 32 #[.int .u32 a, .int .i64 len]
  have hb := below_new w (.cells #[.int .u32 a, .int .i64 len] 32)
  have hz := size_new w (.cells #[.int .u32 a, .int .i64 len] 32)
  go_enter Try.func29, Try.ntmps29
  go_wp2_with fail
  have H0 := Lib.hid (And.intro (h.held hb) (And.intro PB hb))
  clear h PB hb
  generalize w.alloc (.cells #[.int .u32 a, .int .i64 len] 32) = w2 at *
  generalize hg : w.heap.size = g at *
  have HG := Lib.hid hg
  clear hg
  go_loopw [9, 15] (fun v i wr => ∃ (k : Nat) (vp : Option Addr) (vn vc : Nat), v = .slice vp vn vc ∧ k ≤ 9 ∧ i = .int .i64 k ∧ (wr.ownsRow g 82 6 (.slice vp vn vc) (openL f cs most a len k).length ((openL f cs most a len k).flatMap rhcl) ∧ Below w2.heap.size w2 wr)) (fun _ i _ => 9 - (intOf i).toNat)
  case atStart => exact ⟨0, none, 0, 0, rfl, by omega, rfl, World.ownsRow_nil _ _ _ _, .refl _ _⟩
  case round =>
    obtain ⟨k, vp, vn, vc, rfl, hk, rfl, hown, hB⟩ := hrel
    by_cases hk9 : k < 9
    · have hkz : (k : Int) < 9 := by omega
      have AW := H0.out.1.held hB
      have PW := H0.out.2.1.held hB
      have p0 := PW.at_ 0
      have p1 := PW.at_ 1
      obtain ⟨ok, hok⟩ : ∃ ok, (f ⟨a, len, k⟩).isSome = ok := ⟨_, rfl⟩
      obtain ⟨r, hr⟩ : ∃ r, (f ⟨a, len, k⟩).getD Rt.zero = r := ⟨_, rfl⟩
      have hkk : Rk.ok ⟨a, len, k⟩ := by
        refine ⟨ha, hl, ?_, ?_⟩
        · show -9223372036854775808 ≤ (k : Int)
          omega
        · show (k : Int) ≤ 9223372036854775807
          omega
      have hG := rt_get AW.tb a len k hkk hr hok
      have R1 := Lib.hid (And.intro hown (And.intro hB (And.intro AW (And.intro PW (And.intro hok hr)))))
      have hsucc := Lib.hid (openL_succ f cs most a len k)
      obtain ⟨fr, id, seq, met, exp⟩ := r
      clear hown hB AW PW hok hr hkk
      have same : reachF f cs most a len k = none → Hid (∀ w', Below wr.heap.size wr w' → w'.ownsRow g 82 6 (.slice vp vn vc) (openL f cs most a len (k + 1)).length ((openL f cs most a len (k + 1)).flatMap rhcl) ∧ Below w2.heap.size w2 w') := fun hn w' hb' => by
        rw [hsucc.out, hn, Option.toList_none, List.append_nil]
        exact ⟨owns_held R1.out.1 hb', R1.out.2.1.trans (hb'.mono R1.out.2.1.size)⟩
      go_wp2_with fail
      refine hG.mono ?_
      rintro e w3 ⟨rfl, hb3⟩
      unfold rV
      have RB := Blk.new w3 37 #[.int .i64 fr, .int .u32 id, .int .u32 seq, .int .u16 met, .int .i64 exp]
      have hb4 := next hb3 (below_new w3 (.cells #[.int .i64 fr, .int .u32 id, .int .u32 seq, .int .u16 met, .int .i64 exp] 37))
      have B4 := Lib.hid (And.intro RB hb4)
      clear hG hb3 RB hb4 p0 p1
      cases ok with
      | false =>
        have hnone : reachF f cs most a len k = none := by
          have h1 := R1.out.2.2.2.2.1
          unfold reachF
          cases hf : f ⟨a, len, k⟩ with
          | none => rfl
          | some r => rw [hf] at h1; cases h1
        have S := same hnone
        clear same
        go_wp2_with fail
        go_roundw
        case rel => exact ⟨k + 1, vp, vn, vc, rfl, by omega, by go_num, S.out _ B4.out.2⟩
        case measure => simp [intOf]; omega
      | true =>
        have hsome : f ⟨a, len, k⟩ = some ⟨fr, id, seq, met, exp⟩ := by
          have h1 := R1.out.2.2.2.2.1
          have h2 := R1.out.2.2.2.2.2
          cases hf : f ⟨a, len, k⟩ with
          | none => rw [hf] at h1; cases h1
          | some r => rw [hf] at h2; exact congrArg some h2
        have hfit := R1.out.2.2.1.fits _ _ hsome
        obtain ⟨c, hc⟩ : ∃ c, costAt cs k = c := ⟨_, rfl⟩
        have hrf : reachF f cs most a len k = if c < 1 ∨ ¬ id ≤ most ∨ far met c = 65535 then none else some (⟨fr, id, seq, met, exp⟩, far met c) := by
          unfold reachF
          rw [hsome, ← hc]
        have hCo := cost_any (R1.out.2.2.1.cs.held B4.out.2) most k
        rw [hc] at hCo
        have RF := Lib.hid (And.intro hrf (And.intro hfit hCo))
        clear hrf hfit hCo hc hsome
        go_wp2_with fail
        refine RF.out.2.2.mono ?_
        rintro e w5 ⟨rfl, hb5⟩
        have RB := B4.out.1.held hb5
        have hb6 := next B4.out.2 hb5
        have r0 := RB.at_ 0
        have r1 := RB.at_ 1
        have r2 := RB.at_ 2
        have r3 := RB.at_ 3
        have r4 := RB.at_ 4
        have B6 := Lib.hid (And.intro RB hb6)
        clear hb5 RB hb6
        by_cases hc1 : c < 1
        · have S := same (by rw [RF.out.1, if_pos (.inl hc1)])
          have d1 : decide (c < 1) = true := decide_eq_true hc1
          clear same
          go_wp2_with fail
          go_roundw
          case rel => exact ⟨k + 1, vp, vn, vc, rfl, by omega, by go_num, S.out _ B6.out.2⟩
          case measure => simp [intOf]; omega
        · have d1 : decide (c < 1) = false := decide_eq_false hc1
          obtain ⟨q, hq⟩ : ∃ q, decide (id ≤ most) = q := ⟨_, rfl⟩
          have HQ := Lib.hid hq
          clear hq
          go_wp2_with fail
          refine (show Calls Try.prog 18 #[cosV A lc cc most, .agg #[.int .i64 fr, .int .u32 id, .int .u32 seq, .int .u16 met, .int .i64 exp]] w5 fun e w' => e = .returned (.bool q) ∧ Below w5.heap.size w5 w' from may_eq (r := ⟨fr, id, seq, met, exp⟩) HQ.out w5).mono ?_
          rintro e w6 ⟨rfl, hb6⟩
          have RB := B6.out.1.held hb6
          have hb7 := next B6.out.2 hb6
          clear r0 r1 r2 r3 r4
          have r0 := RB.at_ 0
          have r1 := RB.at_ 1
          have r2 := RB.at_ 2
          have r3 := RB.at_ 3
          have r4 := RB.at_ 4
          have B7 := Lib.hid (And.intro RB hb7)
          clear hb6 RB hb7 B6 B4
          cases q with
          | false =>
            have S := same (by rw [RF.out.1, if_pos (.inr (.inl (of_decide_eq_false HQ.out)))])
            clear same
            go_wp2_with fail
            go_roundw
            case rel => exact ⟨k + 1, vp, vn, vc, rfl, by omega, by go_num, S.out _ B7.out.2⟩
            case measure => simp [intOf]; omega
          | true =>
            have hm16 : met < 65536 := RF.out.2.1.met
            have hBe := beyond_any seq met c (by omega) (by omega) w6
            obtain ⟨m, hm⟩ : ∃ m, far met c = m := ⟨_, rfl⟩
            rw [hm] at hBe
            have HM := Lib.hid hm
            clear hm
            go_wp2_with fail
            refine hBe.mono ?_
            rintro e w7 ⟨rfl, hb7⟩
            have RB := B7.out.1.held (next hb7 (below_new w7 (.cells #[.int .u32 seq, .int .u16 m] 35)))
            have DB := Blk.new w7 35 #[.int .u32 seq, .int .u16 m]
            have hb8 := next B7.out.2 (next hb7 (below_new w7 (.cells #[.int .u32 seq, .int .u16 m] 35)))
            clear r0 r1 r2 r3 r4 hBe
            generalize hD : w7.heap.size = D at *
            have B8 := Lib.hid (And.intro RB (And.intro DB hb8))
            clear hb7 RB hb8 B7 DB
            go_wp2_with fail
            generalize w7.alloc (.cells #[.int .u32 seq, .int .u16 m] 35) = w8 at *
            have d0 := B8.out.2.1.at_ 0
            have d1' := B8.out.2.1.at_ 1
            obtain ⟨l, hl'⟩ : ∃ l, (m == 65535) = l := ⟨_, rfl⟩
            have HLo := Lib.hid hl'
            clear hl' hD
            go_wp2_with fail
            refine (lost_eq HLo.out w8).mono ?_
            rintro e w9 ⟨rfl, hb9⟩
            have RB := B8.out.1.held hb9
            have DB := B8.out.2.1.held hb9
            have hb10 := next B8.out.2.2 hb9
            clear d0 d1'
            cases l with
            | true =>
              have S := same (by rw [RF.out.1, if_pos (.inr (.inr (by rw [HM.out]; exact eq_of_beq HLo.out)))])
              have B9 := Lib.hid hb10
              clear same RB DB hb9 hb10
              go_wp2_with fail
              go_roundw
              case rel => exact ⟨k + 1, vp, vn, vc, rfl, by omega, by go_num, S.out _ B9.out⟩
              case measure => simp [intOf]; omega
            | false =>
              have hre : reachF f cs most a len k = some (⟨fr, id, seq, met, exp⟩, m) := by
                rw [RF.out.1, if_neg, HM.out]
                rintro (h | h | h)
                · omega
                · exact h (of_decide_eq_true HQ.out)
                · rw [HM.out] at h; rw [h] at HLo; exact absurd HLo.out (by decide)
              have hs2 := hsucc.out
              rw [hre, Option.toList_some] at hs2
              have r0 := RB.at_ 0
              have r1 := RB.at_ 1
              have r2 := RB.at_ 2
              have r3 := RB.at_ 3
              have r4 := RB.at_ 4
              have e0 := DB.at_ 0
              have e1 := DB.at_ 1
              have hown := owns_held R1.out.1 hb10
              have hB := R1.out.2.1.trans (hb10.mono R1.out.2.1.size)
              have hlen := openL_len f cs most a len k
              have B9 := Lib.hid (And.intro hB (And.intro hs2 hlen))
              clear same RB DB hb9 hb10 hre hs2 hB
              go_wp2_with (first | (at_builtin; refine wpList_append_own _ rfl (.tmp 45) (.tmp 50) 79 rfl g 82 i0 (.agg #[.int .i64 0, .int .u32 0, .int .u32 0, .int .u16 0, .int .i64 0, .int .u16 0]) 6 40 (by kernel_rfl) II.out.1 II.out.2.1 II.out.2.2.1 II.out.2.2.2 rfl (by decide) _ _ _ rfl (hown.alloc _) ⟨w9.heap.size, 0, none⟩ 1 1 (rhcl (⟨fr, id, seq, met, exp⟩, m)) rfl ?c1 ?c2 ?c3 ?c4 ?c5 ?c6 ?_))
              case c1 => rfl
              case c2 =>
                intro j u hj
                rw [Addr.add_mid, Nat.zero_add, new_cell]
                simpa [rhcl] using hj
              case c3 =>
                intro u hu
                simp only [rhcl, List.mem_cons, List.not_mem_nil, or_false] at hu
                rcases hu with rfl | rfl | rfl | rfl | rfl | rfl <;> rfl
              case c4 => have := B9.out.2.2; unfold maxLen; omega
              case c5 => have := B9.out.2.2; omega
              case c6 =>
                have h1 := B9.out.1.size
                have h2 := H0.out.2.2.size
                have h3 := HG.out
                have h4 := size_new w9 (.cells #[.int .i64 fr, .int .u32 id, .int .u32 seq, .int .u16 met, .int .i64 exp, .int .u16 m] 82)
                omega
              intro v' w10 hown' hgrow hnil
              have hfin : w10.ownsRow g 82 6 v' (openL f cs most a len (k + 1)).length ((openL f cs most a len (k + 1)).flatMap rhcl) := by
                rw [B9.out.2.1, List.length_append, List.flatMap_append]
                simpa using hown'
              obtain ⟨vp', vn', vc', rfl⟩ : ∃ p n c, v' = .slice p n c := by
                rcases hown'.2 with ⟨rfl, -⟩ | ⟨_, _, _, rfl, -⟩
                · exact ⟨_, _, _, rfl⟩
                · exact ⟨_, _, _, rfl⟩
              have hB10 : Below w2.heap.size w2 w10 := by
                refine ((B9.out.1.alloc B9.out.1.size _).grown hgrow ?_ ?_)
                · exact Nat.le_trans B9.out.1.size (by rw [size_new]; omega)
                · intro b hb
                  have hg1 : g + 1 = w2.heap.size := hz.symm
                  have := hown.lt b hb
                  rcases hown.2 with ⟨h1, -⟩ | ⟨g', cap', cur, h1, h2, h3, -⟩
                  · rw [h1] at hb; cases hb
                  · rw [h1] at hb
                    cases hb
                    rcases Nat.lt_or_ge g' w2.heap.size with h4 | h4
                    · exfalso
                      have hgg : g' = g := by omega
                      have h5 := (H0.out.2.1.held B9.out.1)
                      unfold Blk at h5
                      rw [hgg] at h3
                      rw [h5] at h3
                      cases h3
                    · exact h4
              have Z := Lib.hid (And.intro hfin hB10)
              clear hfin hB10 hown hown' hgrow hnil r0 r1 r2 r3 r4 e0 e1
              go_wp2_with fail
              go_roundw
              case rel => exact ⟨k + 1, vp', vn', vc', rfl, by omega, by go_num, Z.out⟩
              case measure => simp [intOf]; omega
    · obtain rfl : k = 9 := by omega
      have Z := Lib.hid (And.intro hown (H0.out.2.2.trans (hB.mono (by have := H0.out.2.2.size; have := HG.out; omega))))
      clear hown hB
      go_wp2_with fail
      go_ret
      obtain rfl := HG.out
      exact ⟨_, rfl, Z.out⟩
end Go.Proofs.Ytblhijgjidfioaa
