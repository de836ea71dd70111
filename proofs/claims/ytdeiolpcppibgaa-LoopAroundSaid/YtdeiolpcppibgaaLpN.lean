/-
  Package loop: Around's closure: where a prefix's own entry leads.
-/
import Derived.Test.YtdeiolpcppibgaaLpV
namespace Go.Proofs.Ytdeiolpcppibgaa
open Go.RowKit Go.Maps Fm
attribute [local go_sem] Oper.semAt_some

theorem eqlP {a b : Nat} {n n' : Int} {q : Bool} (h : decide (a = b ∧ n = n') = q) (w : World) : (binOp .eql 34 (.agg #[.int .u32 a, .int .i64 n]) (.agg #[.int .u32 b, .int .i64 n'])).run Try.prog w = .ok (.bool q) w := by
  subst h
  go_simp
  by_cases h1 : a = b
  · by_cases h2 : n = n'
    · simp [h1, h2]
    · simp [h1, h2]
  · simp [h1, show ¬ (a : Int) = b by omega]
/-- does an entry lead on for just that prefix -/
def own1 (pa : Nat) (pn : Int) (e : En) : Bool := decide (e.a = pa ∧ e.n = pn) && decide (e.how = 2)
/-- where to, or nowhere -/
def nextOf (pa : Nat) (pn : Int) (es : List En) : Int := match es.find? (own1 pa pn) with
  | some e => e.nx
  | none => -1
theorem nextOf_some {pa : Nat} {pn : Int} {es : List En} {j : Nat} (hj : j < es.length) (h : own1 pa pn es[j] = true) (hlt : ∀ i (hi : i < es.length), i < j → own1 pa pn es[i] = false) : nextOf pa pn es = es[j].nx := by
  unfold nextOf
  have : es.find? (own1 pa pn) = some es[j] := List.find?_eq_some_iff_getElem.2 ⟨h, j, hj, rfl, fun i hi => by simp [hlt i (by omega) hi]⟩
  rw [this]
theorem nextOf_none {pa : Nat} {pn : Int} {es : List En} (hlt : ∀ i (hi : i < es.length), own1 pa pn es[i] = false) : nextOf pa pn es = -1 := by
  unfold nextOf
  have : es.find? (own1 pa pn) = none := by
    rw [List.find?_eq_none]
    intro x hx
    obtain ⟨i, hi, rfl⟩ := List.mem_iff_getElem.1 hx
    simp [hlt i hi]
  rw [this]

set_option maxRecDepth 100000 in
set_option maxHeartbeats 2000000 in
theorem next_any {W : World} {A1 A2 g cap : Nat} {fss : List (List En)} {n pa : Nat} {pn : Int} (hn : fss.length = n) (h1 : Blk 26 W A1 #[.slice (some ⟨g, 0, none⟩) n cap]) (h2 : Blk 34 W A2 #[.int .u32 pa, .int .i64 pn]) (h : InF W g cap fss) {k : Nat} (hk : k < fss.length) :
    Calls Try.prog 17 #[.int .i64 (k : Int), .pointer (some ⟨A1, 0, none⟩), .pointer (some ⟨A2, 0, none⟩)] W fun e w' => e = .returned (.int .i64 (nextOf pa pn fss[k])) ∧ Below W.heap.size W w' := by
  obtain ⟨A, c, hcell, hE⟩ := h.rows k hk
  have hcap := h.le
  have hfew := h.few
  have a0 := h1.at_ 0
  have X := Lib.hid (And.intro h1 (And.intro h2 hE))
  have hkz : (k : Int) < (n : Int) := by omega
  have hnc : n ≤ cap := by omega
  have hkc : (k : Int) < (cap : Int) := by omega
  clear h1 h2 h
  obtain ⟨es, hes⟩ : ∃ es, fss[k] = es := ⟨_, rfl⟩
  rw [hes] at hcell hE X ⊢
  obtain ⟨len, hlen⟩ : ∃ l, es.length = l := ⟨_, rfl⟩
  have HL := Lib.hid hlen
  have hmx : len ≤ 9223372036854775807 := by have h3 := hE.hm; unfold maxLen at h3; omega
  have hlc : len ≤ c := by have := hE.hc; omega
  rw [hlen] at hcell X
  clear hE hes hk hlen hn
  go_enter Try.func17, Try.ntmps17
  go_wp2_with fail
  go_loopw [12] (fun i wr => ∃ j : Nat, i = .int .i64 j ∧ j ≤ len ∧ Hid ((∀ i (hi : i < es.length), i < j → own1 pa pn es[i] = false) ∧ Below W.heap.size W wr)) (fun i _ => len - (intOf i).toNat)
  case atStart => exact ⟨0, rfl, Nat.zero_le _, fun i _ h => by omega, .refl _ _⟩
  case round =>
    obtain ⟨j, rfl, hj, R⟩ := hrel
    by_cases hjl : j < len
    · have hjz : (j : Int) < (len : Int) := by omega
      have hj2 : j < es.length := by rw [HL.out]; exact hjl
      have hEr := X.out.2.2.held R.out.2
      obtain ⟨b, off, rfl⟩ := hEr.hA (by omega)
      obtain ⟨⟨ea, en, eh, ex⟩, he⟩ : ∃ r, es[j] = r := ⟨_, rfl⟩
      obtain ⟨c0, c1, c2, c3⟩ := Ents.cells (hEr.hR b off rfl) hj2 he
      have p1 := X.out.2.1.held R.out.2
      have hbn := below_new wr (.cells #[.int .u32 ea, .int .i64 en, .int .i64 eh, .int .i64 ex] 39)
      have Bn := Blk.new wr 39 #[.int .u32 ea, .int .i64 en, .int .i64 eh, .int .i64 ex]
      have n0 := Bn.at_ 0
      have n1 := Bn.at_ 1
      have n2 := Bn.at_ 2
      have n3 := Bn.at_ 3
      have p2 := p1.held hbn
      have x0 := p2.at_ 0
      have x1 := p2.at_ 1
      obtain ⟨q, hq⟩ : ∃ q, decide (ea = pa ∧ en = pn) = q := ⟨_, rfl⟩
      have hql := eqlP hq
      have B2 := R.out.2.trans (hbn.mono R.out.2.size)
      have E := Lib.hid (And.intro he (And.intro hq (And.intro R.out.1 B2)))
      clear R he hq hEr p1 p2 Bn hbn B2
      cases q with
      | false =>
        have S2 := Lib.hid (show (∀ i (hi : i < es.length), i < j + 1 → own1 pa pn es[i] = false) ∧ Below W.heap.size W _ from ⟨fun i hi hij => by
          by_cases e : i = j
          · subst e
            rw [E.out.1]
            unfold own1
            rw [E.out.2.1]
            rfl
          · exact E.out.2.2.1 i hi (by omega), E.out.2.2.2⟩)
        clear E
        go_wp2_with fail
        go_roundw
        case rel => exact ⟨j + 1, by go_num, by omega, S2.out⟩
        case measure => simp [intOf]; omega
      | true =>
        by_cases hh : eh = 2
        · have F := Lib.hid (show ex = nextOf pa pn es ∧ Below W.heap.size W _ from ⟨by
            have := nextOf_some (pa := pa) (pn := pn) hj2 (by rw [E.out.1]; unfold own1; rw [E.out.2.1]; simpa using hh) (fun i hi hij => E.out.2.2.1 i hi hij)
            rw [this, E.out.1], E.out.2.2.2⟩)
          subst hh
          clear E
          go_wp2_with fail
          go_ret
          exact ⟨by rw [← F.out.1]; rfl, F.out.2⟩
        · have dh : (eh == 2) = false := beq_eq_false_iff_ne.2 hh
          have S2 := Lib.hid (show (∀ i (hi : i < es.length), i < j + 1 → own1 pa pn es[i] = false) ∧ Below W.heap.size W _ from ⟨fun i hi hij => by
            by_cases e : i = j
            · subst e
              rw [E.out.1]
              unfold own1
              simp [hh]
            · exact E.out.2.2.1 i hi (by omega), E.out.2.2.2⟩)
          clear E hh
          go_wp2_with fail
          go_roundw
          case rel => exact ⟨j + 1, by go_num, by omega, S2.out⟩
          case measure => simp [intOf]; omega
    · have hjz : decide ((j : Int) < (len : Int)) = false := decide_eq_false (by omega)
      have F := Lib.hid (show (-1 : Int) = nextOf pa pn es from (nextOf_none fun i hi => R.out.1 i hi (by have := HL.out; omega)).symm)
      go_wp2_with fail
      go_ret
      exact ⟨by rw [← F.out]; rfl, R.out.2⟩
end Go.Proofs.Ytdeiolpcppibgaa
