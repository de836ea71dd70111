/-
  Package route's Pick.
-/
import Derived.Test.YtblhijgjidfioaaRtO
import Derived.Test.YtblhijgjidfioaaSrtR
import Derived.WalkMore
namespace Go.Proofs.Ytblhijgjidfioaa
open Go.RowKit Go.Maps

/-- the first way that is as near as any -/
def nearest (xs : List Rh) (x : Rh) : Bool := xs.all fun o => decide (x.2 ≤ o.2)
def pickL (xs : List Rh) : Option Rh := xs.find? (nearest xs)
def pickR (f : Ways) (cs : List Int) (most a : Nat) (len : Int) : Option Rt := (pickL (openL f cs most a len 9)).map (·.1)

theorem find_none {α : Type} {p : α → Bool} {xs : List α} (h : ∀ i (h : i < xs.length), p xs[i] = false) : xs.find? p = none := by
  rw [List.find?_eq_none]
  intro x hx
  obtain ⟨i, hi, rfl⟩ := List.mem_iff_getElem.1 hx
  rw [h i hi]
  simp
theorem find_at {α : Type} {p : α → Bool} {xs : List α} {k : Nat} (hk : k < xs.length) (h : ∀ i (h : i < xs.length), i < k → p xs[i] = false) (hp : p xs[k] = true) : xs.find? p = some xs[k] := by
  rw [List.find?_eq_some_iff_getElem]
  refine ⟨hp, k, hk, rfl, fun j hj => ?_⟩
  rw [h j (by omega) hj]
  rfl

set_option maxHeartbeats 4000000 in
set_option maxRecDepth 100000 in
theorem pick_any {w : World} {t n : Nat} {o : Option Nat} {f : Ways} {A : Option Addr} {lc cc : Nat} {cs : List Int} (h : Asks w t n o f A lc cc cs) (most a : Nat) (len : Int) (ha : a < 4294967296) (hl : -9223372036854775808 ≤ len ∧ len ≤ 9223372036854775807) {r : Rt} {ok : Bool} (hr : (pickR f cs most a len).getD Rt.zero = r) (hok : (pickR f cs most a len).isSome = ok) :
    Calls Try.prog 16 #[.pointer (some ⟨t, 0, none⟩), .agg #[.int .u32 a, .int .i64 len], .func (.func 17) #[cosV A lc cc most] #[], .func (.func 18) #[cosV A lc cc most] #[]] w fun e w' =>
      e = .returned (.tuple #[rV r, .bool ok]) ∧ Below w.heap.size w w' := by
  have PB := (Blk.new w 32 #[.int .u32 a, .int .i64 len]).more (.cells #[.int .i64 0, .int .u32 0, .int .u32 0, .int .u16 0, .int .i64 0] 37)
  have RB := Blk.new (w.alloc (.cells #[.int .u32 a, .int .i64 len] 32)) 37 #[.int .i64 0, .int .u32 0, .int .u32 0, .int .u16 0, .int .i64 0]
  rw [size_new] at RB
  have hb := next (below_new w (.cells #[.int .u32 a, .int .i64 len] 32)) (below_new _ (.cells #[.int .i64 0, .int .u32 0, .int .u32 0, .int .u16 0, .int .i64 0] 37))
  have HA := h.held hb
  have HR := Lib.hid (And.intro hr hok)
  clear h hr hok
  go_enter Try.func16, Try.ntmps16
  go_wp2_with fail
  have p0 := PB.at_ 0
  have p1 := PB.at_ 1
  have HO := open_any HA most a len ha hl
  have H0 := Lib.hid (And.intro RB (And.intro hb HO))
  clear HA RB hb HO PB
  generalize hg : w.heap.size = g at *
  have HG := Lib.hid hg
  clear hg
  generalize (w.alloc (.cells #[.int .u32 a, .int .i64 len] 32)).alloc (.cells #[.int .i64 0, .int .u32 0, .int .u32 0, .int .u16 0, .int .i64 0] 37) = w2 at *
  go_step3
  go_wp2_with fail
  refine H0.out.2.2.mono ?_
  rintro e w3 ⟨v, rfl, hown, hb3⟩
  have hrow := Row.of_owns rhcl_len hown
  generalize hxs : openL f cs most a len 9 = xs at *
  have hn9 : xs.length ≤ 9 := by rw [← hxs]; exact openL_len _ _ _ _ _ _
  obtain ⟨vp, vc, rfl, hcells⟩ : ∃ vp vc, v = .slice vp xs.length vc ∧ ∀ k (hk : k < xs.length), ∃ g', vp = some ⟨g', 0, none⟩ ∧ ∀ j, j < 6 → w3.cell? ⟨g', k * 6 + j, none⟩ = (rhcl xs[k])[j]? := by
    rcases hrow with ⟨rfl, rfl⟩ | ⟨g', cap, rfl, h1, h2, h3⟩
    · exact ⟨none, 0, rfl, fun k hk => by simp at hk⟩
    · exact ⟨_, cap, rfl, fun k hk => ⟨g', rfl, fun j hj => h3 k hk j hj⟩⟩
  have RB3 := H0.out.1.held hb3
  have H3 := Lib.hid (And.intro RB3 (And.intro (H0.out.2.1.trans (hb3.mono (by have := H0.out.1.lt; omega))) (And.intro hcells hxs)))
  clear hown hb3 hrow hcells RB3 H0 p0 p1 hxs
  go_wp2_with fail
  go_step3
  go_wp2_with fail
  go_loopw [22] (fun i wr => ∃ k : Nat, k ≤ xs.length ∧ i = .int .i64 k ∧ (Below w3.heap.size w3 wr ∧ ∀ i (h : i < xs.length), i < k → nearest xs xs[i] = false)) (fun i _ => xs.length - (intOf i).toNat)
  case atStart => exact ⟨0, by omega, rfl, .refl _ _, fun i _ h => by omega⟩
  case round =>
    obtain ⟨k, hk, rfl, hB, hno⟩ := hrel
    by_cases hkx : k < xs.length
    · obtain ⟨g', rfl, hc⟩ := H3.out.2.2.1 k hkx
      obtain ⟨⟨⟨fr, id, seq, met, exp⟩, m⟩, hx⟩ : ∃ x, xs[k] = x := ⟨_, rfl⟩
      rw [hx] at hc
      have c0 := held hB (hc 0 (by omega))
      have c1 := held hB (hc 1 (by omega))
      have c2 := held hB (hc 2 (by omega))
      have c3 := held hB (hc 3 (by omega))
      have c4 := held hB (hc 4 (by omega))
      have c5 := held hB (hc 5 (by omega))
      simp only [Nat.add_zero] at c0
      have WB := Blk.new wr 82 (rhcl (⟨fr, id, seq, met, exp⟩, m)).toArray
      have hb4 := hB.trans ((below_new wr (.cells (rhcl (⟨fr, id, seq, met, exp⟩, m)).toArray 82)).mono hB.size)
      have R := Lib.hid (And.intro hno (And.intro WB (And.intro hb4 hx)))
      clear hno WB hb4 hx hc hB
      go_wp2_with fail
      generalize hW : wr.heap.size = W at *
      have HW := Lib.hid hW
      clear hW c0 c1 c2 c3 c4 c5
      generalize hw5 : wr.alloc (.cells #[.int .i64 fr, .int .u32 id, .int .u32 seq, .int .u16 met, .int .i64 exp, .int .u16 m] 82) = w5 at *
      have WB5 : Blk 82 w5 W #[.int .i64 fr, .int .u32 id, .int .u32 seq, .int .u16 met, .int .i64 exp, .int .u16 m] := by rw [← hw5, ← HW.out]; exact Blk.new wr _ _
      have hb5 : Below w3.heap.size w3 w5 := by rw [← hw5]; exact R.out.2.2.1
      have R5 := Lib.hid (And.intro R.out.1 (And.intro WB5 (And.intro hb5 R.out.2.2.2)))
      clear R WB5 hb5 hw5
      go_loopw [28] (fun j wr => ∃ q : Nat, q ≤ xs.length ∧ j = .int .i64 q ∧ (Below w5.heap.size w5 wr ∧ ∀ i (h : i < xs.length), i < q → m ≤ xs[i].2)) (fun j _ => xs.length - (intOf j).toNat)
      case atStart => exact ⟨0, by omega, rfl, .refl _ _, fun i _ h => by omega⟩
      case round =>
        obtain ⟨q, hq, rfl, hB, hle⟩ := hrel
        by_cases hqx : q < xs.length
        · obtain ⟨g2, he2, hc⟩ := H3.out.2.2.1 q hqx
          cases he2
          obtain ⟨⟨⟨fr2, id2, seq2, met2, exp2⟩, m2⟩, hx2⟩ : ∃ x, xs[q] = x := ⟨_, rfl⟩
          rw [hx2] at hc
          have hB3 := R5.out.2.2.1.trans (hB.mono R5.out.2.2.1.size)
          have c0 := held hB3 (hc 0 (by omega))
          have c1 := held hB3 (hc 1 (by omega))
          have c2 := held hB3 (hc 2 (by omega))
          have c3 := held hB3 (hc 3 (by omega))
          have c4 := held hB3 (hc 4 (by omega))
          have c5 := held hB3 (hc 5 (by omega))
          simp only [Nat.add_zero] at c0
          have hbn := below_new wr (.cells #[.int .i64 fr2, .int .u32 id2, .int .u32 seq2, .int .u16 met2, .int .i64 exp2, .int .u16 m2] 82)
          have WBn := (R5.out.2.1.held hB).held hbn
          have wl : W < wr.heap.size := (R5.out.2.1.held hB).lt
          have w5' := WBn.at_ 5
          have Q := Lib.hid (And.intro hB (And.intro hle (And.intro hx2 (And.intro hbn (hB.trans (hbn.mono hB.size))))))
          clear hB hle hx2 hc hB3 hbn WBn
          cases hlt : decide (m2 < m) with
          | true =>
            have hno : nearest xs (⟨fr, id, seq, met, exp⟩, m) = false := by
              unfold nearest
              rw [List.all_eq_false]
              exact ⟨xs[q], List.getElem_mem hqx, by rw [Q.out.2.2.1]; have := of_decide_eq_true hlt; simp; omega⟩
            have N := Lib.hid hno
            clear hno
            go_wp2_with fail
            go_roundw
            case rel =>
              refine ⟨k + 1, by omega, by go_num, R5.out.2.2.1.trans (Q.out.2.2.2.2.mono R5.out.2.2.1.size), fun i h hi => ?_⟩
              by_cases e : i = k
              · subst e; rw [R5.out.2.2.2]; exact N.out
              · exact R5.out.1 i h (by omega)
            case measure => simp [intOf]; omega
          | false =>
            go_wp2_with fail
            go_roundw
            case rel =>
              refine ⟨q + 1, by omega, by go_num, Q.out.2.2.2.2, fun i h hi => ?_⟩
              by_cases e : i = q
              · subst e; rw [Q.out.2.2.1]; have := of_decide_eq_false hlt; omega
              · exact Q.out.2.1 i h (by omega)
            case measure => simp [intOf]; omega
        · obtain rfl : q = xs.length := by omega
          have hnear : nearest xs xs[k] = true := by
            rw [R5.out.2.2.2]
            unfold nearest
            rw [List.all_eq_true]
            intro x hx
            obtain ⟨i, hi, rfl⟩ := List.mem_iff_getElem.1 hx
            exact decide_eq_true (hle i hi hi)
          have hpk : pickR f cs most a len = some ⟨fr, id, seq, met, exp⟩ := by
            unfold pickR pickL
            rw [H3.out.2.2.2, find_at hkx (fun i h hi => R5.out.1 i h hi) hnear, R5.out.2.2.2]
            rfl
          have hans : (⟨fr, id, seq, met, exp⟩ : Rt) = r ∧ true = ok := by
            have h1 := HR.out.1
            have h2 := HR.out.2
            rw [hpk] at h1 h2
            exact ⟨h1, h2⟩
          obtain ⟨rfl, rfl⟩ := hans
          have WB := R5.out.2.1.held hB
          have hB3 := R5.out.2.2.1.trans (hB.mono R5.out.2.2.1.size)
          have RB := H3.out.1.held hB3
          have c0 := WB.at_ 0
          have c1 := WB.at_ 1
          have c2 := WB.at_ 2
          have c3 := WB.at_ 3
          have c4 := WB.at_ 4
          have r0 := RB.at_ 0
          have r1 := RB.at_ 1
          have r2 := RB.at_ 2
          have r3 := RB.at_ 3
          have r4 := RB.at_ 4
          have f0 := RB.free 0
          have f1 := RB.free 1
          have f2 := RB.free 2
          have f3 := RB.free 3
          have f4 := RB.free 4
          have R4 := ((((RB.store 0 (.int .i64 fr)).store 1 (.int .u32 id)).store 2 (.int .u32 seq)).store 3 (.int .u16 met)).store 4 (.int .i64 exp)
          have hb9 : Below w.heap.size w wr := (H3.out.2.1.trans (hB3.mono (by have := H3.out.2.1.size; have := HG.out; omega))).mono (by have := HG.out; omega)
          have hb10 : Below w.heap.size w (((((wr.setCell ⟨g + 1, 0, none⟩ (.int .i64 fr)).setCell ⟨g + 1, 1, none⟩ (.int .u32 id)).setCell ⟨g + 1, 2, none⟩ (.int .u32 seq)).setCell ⟨g + 1, 3, none⟩ (.int .u16 met)).setCell ⟨g + 1, 4, none⟩ (.int .i64 exp)) := by
            have hgg := HG.out
            exact ((((hb9.setCell (by simp; omega) _).setCell (by simp; omega) _).setCell (by simp; omega) _).setCell (by simp; omega) _).setCell (by simp; omega) _
          have Z := Lib.hid (And.intro R4 hb10)
          clear WB hB3 RB R4 hb9 hb10 hB hle hnear hpk
          go_wp2_with fail
          rw [Exit.noGoto_ret]
          (try go_wp2_with fail)
          refine bodyPost_ret (v := .tuple #[rV ⟨fr, id, seq, met, exp⟩, .bool true]) ?_ rfl ⟨rfl, Z.out.2⟩
          have q0 := Z.out.1.at_ 0
          have q1 := Z.out.1.at_ 1
          have q2 := Z.out.1.at_ 2
          have q3 := Z.out.1.at_ 3
          have q4 := Z.out.1.at_ 4
          clear Z c0 c1 c2 c3 c4 r0 r1 r2 r3 r4 f0 f1 f2 f3 f4
          generalize ((((wr.setCell ⟨g + 1, 0, none⟩ (.int .i64 fr)).setCell ⟨g + 1, 1, none⟩ (.int .u32 id)).setCell ⟨g + 1, 2, none⟩ (.int .u32 seq)).setCell ⟨g + 1, 3, none⟩ (.int .u16 met)).setCell ⟨g + 1, 4, none⟩ (.int .i64 exp) = Z at *
          simp [results, Try.results16, go_sem, q0, q1, q2, q3, q4, rV]
    · obtain rfl : k = xs.length := by omega
      have hpk : pickR f cs most a len = none := by
        unfold pickR pickL
        rw [H3.out.2.2.2, find_none (fun i h => hno i h h)]
        rfl
      have hans : Rt.zero = r ∧ false = ok := by
        have h1 := HR.out.1
        have h2 := HR.out.2
        rw [hpk] at h1 h2
        exact ⟨h1, h2⟩
      obtain ⟨rfl, rfl⟩ := hans
      have RB := H3.out.1.held hB
      have r0 := RB.at_ 0
      have r1 := RB.at_ 1
      have r2 := RB.at_ 2
      have r3 := RB.at_ 3
      have r4 := RB.at_ 4
      have f0 := RB.free 0
      have f1 := RB.free 1
      have f2 := RB.free 2
      have f3 := RB.free 3
      have f4 := RB.free 4
      have R4 := ((((RB.store 0 (.int .i64 0)).store 1 (.int .u32 0)).store 2 (.int .u32 0)).store 3 (.int .u16 0)).store 4 (.int .i64 0)
      have hb9 : Below w.heap.size w wr := (H3.out.2.1.trans (hB.mono (by have := H3.out.2.1.size; have := HG.out; omega))).mono (by have := HG.out; omega)
      have hb10 : Below w.heap.size w (((((wr.setCell ⟨g + 1, 0, none⟩ (.int .i64 0)).setCell ⟨g + 1, 1, none⟩ (.int .u32 0)).setCell ⟨g + 1, 2, none⟩ (.int .u32 0)).setCell ⟨g + 1, 3, none⟩ (.int .u16 0)).setCell ⟨g + 1, 4, none⟩ (.int .i64 0)) := by
        have hgg := HG.out
        exact ((((hb9.setCell (by simp; omega) _).setCell (by simp; omega) _).setCell (by simp; omega) _).setCell (by simp; omega) _).setCell (by simp; omega) _
      have Z := Lib.hid (And.intro R4 hb10)
      clear RB R4 hb9 hb10 hB hno hpk
      go_wp2_with fail
      rw [Exit.noGoto_ret]
      (try go_wp2_with fail)
      refine bodyPost_ret (v := .tuple #[rV Rt.zero, .bool false]) ?_ rfl ⟨rfl, Z.out.2⟩
      have q0 := Z.out.1.at_ 0
      have q1 := Z.out.1.at_ 1
      have q2 := Z.out.1.at_ 2
      have q3 := Z.out.1.at_ 3
      have q4 := Z.out.1.at_ 4
      clear Z r0 r1 r2 r3 r4 f0 f1 f2 f3 f4
      generalize ((((wr.setCell ⟨g + 1, 0, none⟩ (.int .i64 0)).setCell ⟨g + 1, 1, none⟩ (.int .u32 0)).setCell ⟨g + 1, 2, none⟩ (.int .u32 0)).setCell ⟨g + 1, 3, none⟩ (.int .u16 0)).setCell ⟨g + 1, 4, none⟩ (.int .i64 0) = Z at *
      simp [results, Try.results16, go_sem, q0, q1, q2, q3, q4, rV, Rt.zero]
end Go.Proofs.Ytblhijgjidfioaa
