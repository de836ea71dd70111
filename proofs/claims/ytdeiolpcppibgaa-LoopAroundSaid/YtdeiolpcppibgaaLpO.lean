/-
  Package loop: Around: whether a prefix's own entries lead in a ring.
-/
import Derived.Test.YtdeiolpcppibgaaLpN
import Derived.WalkMore
namespace Go.Proofs.Ytdeiolpcppibgaa
open Go.RowKit Go.Maps Fm
attribute [local go_sem] Oper.semAt_some

/-- a step on, where it leads to a machine -/
def stepN (pa : Nat) (pn : Int) (fss : List (List En)) (k : Nat) : Option Nat :=
  if _ : k < fss.length then (if 0 ≤ nextOf pa pn fss[k] ∧ nextOf pa pn fss[k] < fss.length then some (nextOf pa pn fss[k]).toNat else none) else none
def goN (pa : Nat) (pn : Int) (fss : List (List En)) : Nat → Nat → Option Nat
  | 0, k => some k
  | j + 1, k => (goN pa pn fss j k).bind (stepN pa pn fss)
/-- some machine leads on for ever -/
def aroundB (pa : Nat) (pn : Int) (fss : List (List En)) : Bool := (List.range fss.length).any fun k => (goN pa pn fss fss.length k).isSome
section
variable {pa : Nat} {pn : Int} {fss : List (List En)}
theorem goN_lt : ∀ {j k m : Nat}, goN pa pn fss j k = some m → k < fss.length → m < fss.length
  | 0, k, m, h, hk => by cases h; exact hk
  | j + 1, k, m, h, hk => by
    obtain ⟨m', h1, h2⟩ := Option.bind_eq_some_iff.1 (show (goN pa pn fss j k).bind (stepN pa pn fss) = some m from h)
    unfold stepN at h2
    split at h2
    · split at h2
      · cases h2; omega
      · cases h2
    · cases h2
theorem goN_none {k : Nat} : ∀ {j : Nat} (_ : goN pa pn fss j k = none) (d : Nat), goN pa pn fss (j + d) k = none
  | j, h, 0 => h
  | j, h, d + 1 => by
    show (goN pa pn fss (j + d) k).bind (stepN pa pn fss) = none
    rw [goN_none h d]
    rfl
theorem goN_step {j k m : Nat} {z : Int} (h : goN pa pn fss j k = some m) (hm : m < fss.length) (hz : nextOf pa pn fss[m] = z) : goN pa pn fss (j + 1) k = if 0 ≤ z ∧ z < fss.length then some z.toNat else none := by
  show (goN pa pn fss j k).bind (stepN pa pn fss) = _
  rw [h]
  show stepN pa pn fss m = _
  unfold stepN
  rw [dif_pos hm, hz]
end
set_option maxRecDepth 100000 in
set_option maxHeartbeats 2000000 in
theorem around_any {W : World} {g cap : Nat} {fss : List (List En)} {n pa : Nat} {pn : Int} (hn : fss.length = n) (h : InF W g cap fss) :
    Calls Try.prog 10 #[.slice (some ⟨g, 0, none⟩) n cap, .agg #[.int .u32 pa, .int .i64 pn]] W fun e w' => e = .returned (.bool (aroundB pa pn fss)) ∧ Below W.heap.size W w' := by
  have hcap := h.le
  have hfew := h.few
  have hn100 : n ≤ 100 := by omega
  have H := Lib.hid (And.intro h hn)
  have hb1 := below_new W (.cells #[.slice (some ⟨g, 0, none⟩) n cap] 26)
  have hs1 := size_new W (.cells #[.slice (some ⟨g, 0, none⟩) n cap] 26)
  have B1 := Blk.new W 26 #[.slice (some ⟨g, 0, none⟩) n cap]
  have hb2 := below_new (W.alloc (.cells #[.slice (some ⟨g, 0, none⟩) n cap] 26)) (.cells #[.int .u32 pa, .int .i64 pn] 34)
  have B2 := Blk.new (W.alloc (.cells #[.slice (some ⟨g, 0, none⟩) n cap] 26)) 34 #[.int .u32 pa, .int .i64 pn]
  rw [hs1] at B2 hb2
  have B3 := B1.held (by rw [hs1]; exact hb2)
  have hb3 := hb1.trans (hb2.mono (by omega))
  have X := Lib.hid (And.intro B3 (And.intro B2 hb3))
  clear h hb1 hs1 B1 hb2 B2 B3 hb3 hn hcap hfew
  go_enter Try.func10, Try.ntmps10
  go_upto_region 1 with fail
  generalize (W.alloc (.cells #[.slice (some ⟨g, 0, none⟩) n cap] 26)).alloc (.cells #[.int .u32 pa, .int .i64 pn] 34) = w2 at *
  generalize hA2 : W.heap.size + 1 = A2 at *
  have x0 := X.out.1.at_ 0
  go_wp2
  go_step3
  go_wp2
  go_step3
  go_wp2
  go_loopw [11] (fun i wr => ∃ k : Nat, i = .int .i64 k ∧ k ≤ n ∧ Hid ((∀ k', k' < k → goN pa pn fss n k' = none) ∧ Below w2.heap.size w2 wr)) (fun i _ => n - (intOf i).toNat)
  case atStart => exact ⟨0, rfl, Nat.zero_le _, fun k' h => by omega, .refl _ _⟩
  case round =>
    obtain ⟨k, rfl, hk, R⟩ := hrel
    clear x0
    by_cases hkn : k < n
    · have hkz : (k : Int) < (n : Int) := by omega
      have x1 := (X.out.1.held R.out.2).at_ 0
      go_wp2_with fail
      go_loopw [7, 17] (fun a i wr2 => ∃ j m : Nat, a = .int .i64 m ∧ i = .int .i64 j ∧ j ≤ n ∧ Hid (goN pa pn fss j k = some m ∧ Below w2.heap.size w2 wr2)) (fun _ i _ => n - (intOf i).toNat)
      case atStart => exact ⟨0, k, rfl, rfl, Nat.zero_le _, rfl, R.out.2⟩
      case round =>
        obtain ⟨j, m, rfl, rfl, hj, S⟩ := hrel
        clear x1
        by_cases hjn : j < n
        · have hjz : (j : Int) < (n : Int) := by omega
          have hm : m < fss.length := goN_lt S.out.1 (by rw [H.out.2]; exact hkn)
          have C1 := X.out.1.held S.out.2
          have x1 := C1.at_ 0
          have hI := H.out.1.held ((X.out.2.2.trans (S.out.2.mono X.out.2.2.size)))
          have HN := next_any (pa := pa) (pn := pn) H.out.2 C1 (X.out.2.1.held S.out.2) hI hm
          obtain ⟨z, hz⟩ : ∃ z, nextOf pa pn fss[m] = z := ⟨_, rfl⟩
          rw [hz] at HN
          have hst := goN_step S.out.1 hm hz
          by_cases hin : 0 ≤ z ∧ z < (fss.length : Int)
          · obtain ⟨m', rfl⟩ := Int.eq_ofNat_of_zero_le hin.1
            rw [if_pos hin] at hst
            have dth : decide (0 ≤ (m' : Int) ∧ (m' : Int) < (n : Int)) = true := decide_eq_true (by have := H.out.2; omega)
            have Y := Lib.hid (And.intro hst S.out.2)
            have x2 := fun (w3 : World) (hb : Below wr.heap.size wr w3) => (C1.held hb).at_ 0
            clear hst hin hz hI C1 S hm
            go_wp2_with (first | (go_at_call 17; refine HN.mono ?_; rintro e w3 ⟨rfl, hb3⟩; have x3 := x2 w3 hb3) | (go_at_call 13; refine (there_any w3 _ _ _ _).mono ?_; rw [dth]; rintro e w4 ⟨rfl, rfl⟩) | fail)
            go_roundw
            case rel => exact ⟨j + 1, m', rfl, by go_num, by omega, Y.out.1, Y.out.2.trans (hb3.mono Y.out.2.size)⟩
            case measure => simp [intOf]; omega
          · rw [if_neg hin] at hst
            have dth : decide (0 ≤ z ∧ z < (n : Int)) = false := decide_eq_false (by have := H.out.2; omega)
            have hno : goN pa pn fss n k = none := by
              have := goN_none hst (n - (j + 1))
              rwa [show j + 1 + (n - (j + 1)) = n by omega] at this
            have Y := Lib.hid (show (∀ k', k' < k + 1 → goN pa pn fss n k' = none) ∧ Below w2.heap.size w2 wr from ⟨fun k' h => by
              by_cases e : k' = k
              · subst e; exact hno
              · exact R.out.1 k' (by omega), S.out.2⟩)
            have x2 := fun (w3 : World) (hb : Below wr.heap.size wr w3) => (C1.held hb).at_ 0
            clear hst hin hz hI C1 S hm hno R
            go_wp2_with (first | (go_at_call 17; refine HN.mono ?_; rintro e w3 ⟨rfl, hb3⟩; have x3 := x2 w3 hb3) | (go_at_call 13; refine (there_any w3 _ _ _ _).mono ?_; rw [dth]; rintro e w4 ⟨rfl, rfl⟩) | fail)
            go_roundw
            case rel => exact ⟨k + 1, by go_num, by omega, Y.out.1, Y.out.2.trans (hb3.mono Y.out.2.size)⟩
            case measure => simp [intOf]; omega
        · have hjz : decide ((j : Int) < (n : Int)) = false := decide_eq_false (by omega)
          have F := Lib.hid (show aroundB pa pn fss = true from List.any_eq_true.2 ⟨k, List.mem_range.2 (by rw [H.out.2]; exact hkn), by
            have := S.out.1
            rw [show j = n by omega] at this
            rw [H.out.2, this]
            rfl⟩)
          go_wp2_with fail
          (try rw [Exit.noGoto_ret]); go_ret
          exact ⟨by rw [F.out]; rfl, X.out.2.2.trans (S.out.2.mono X.out.2.2.size)⟩
    · have hkz : decide ((k : Int) < (n : Int)) = false := decide_eq_false (by omega)
      have F := Lib.hid (show aroundB pa pn fss = false from by
        unfold aroundB
        rw [List.any_eq_false]
        intro k' hk'
        have := R.out.1 k' (by have := List.mem_range.1 hk'; have := H.out.2; omega)
        rw [H.out.2, this]
        simp)
      go_wp2_with fail
      (try rw [Exit.noGoto_ret]); go_ret
      exact ⟨by rw [F.out]; rfl, X.out.2.2.trans (R.out.2.mono X.out.2.2.size)⟩
end Go.Proofs.Ytdeiolpcppibgaa
