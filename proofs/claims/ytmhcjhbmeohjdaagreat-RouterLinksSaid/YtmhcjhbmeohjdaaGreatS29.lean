/-
  RouterHolds: a way that isn't told again, tick by tick, as mathematics.
  RouterHolds: a way that isn't told again holds for just so many ticks.
  RouterHolds: whatever number, metric, cost and number of ticks (each as the statement cuts it): a way that isn't told again holds for just three ticks; then what the router answers for is dropped. No condition.
  Three of the statements about one router.
-/
import Derived.Test.YtmhcjhbmeohjdaaGreatS28
import Derived.Test.YtmhcjhbmeohjdaaGreatS27
namespace Go.Proofs.YtmhcjhbmeohjdaaGreat
open Go.RowKit Go.Maps Rm Fm Sb

def hC (co : Nat) : Nat → Int := fun i => if i = 2 then co else 0
def hF (sq met : Nat) (i : Nat) : Ways := fun k => if i < 3 ∧ k = ⟨167772160, 8, 2⟩ then some ⟨2, 3, sq, met, 3⟩ else none
def hL (sq met co : Nat) (i : Nat) : Ky → Option (Nat × Nat) := fun k => if i ≠ 0 ∧ k = ⟨167772160, 8, 3⟩ then some (sq, met + co) else none
/-- behind i ticks -/
def hM (sq met co i : Nat) : Mr := ⟨7, ⟨0, fun _ => none, hL sq met co i⟩, hF sq met i, hC co, i, 0, 0⟩
/-- .. ahead of what is told -/
def hA (sq met co i : Nat) : Mr := ⟨7, ⟨0, fun _ => none, hL sq met co i⟩, hF sq met (i + 1), hC co, (i : Int) + 1, 0, 0⟩
section
variable {sq met co i : Nat}
theorem hM.aged : (hM sq met co i).aged = hA sq met co i := by
  unfold Mr.aged hM hA
  congr 1
  funext k
  show lessF (hF sq met i) (deadAt (hF sq met i) ((i : Int) + 1)) k = hF sq met (i + 1) k
  unfold lessF deadAt hF
  by_cases hk : k = ⟨167772160, 8, 2⟩
  · by_cases h2 : i + 1 < 3
    · have h3 : i < 3 := by omega
      have d : ¬ (3 : Int) ≤ (i : Int) + 1 := by omega
      simp [hk, h3, h2, d]
    · by_cases h3 : i < 3
      · have d : (3 : Int) ≤ (i : Int) + 1 := by omega
        simp [hk, h3, h2, d]
      · simp [hk, h3, h2]
  · simp [hk]
theorem hM.ticks {M2 : Mr} (h : Ticks (hM sq met co i) M2) : M2 = hA sq met co i := by
  rcases h with ⟨⟨p, -, e⟩, -⟩ | ⟨-, e⟩
  · rw [hM.aged] at e
    cases e
  · rw [e, hM.aged]
theorem hF_only {k : Rk} {r : Rt} (h : hF sq met i k = some r) : k = ⟨167772160, 8, 2⟩ ∧ r = ⟨2, 3, sq, met, 3⟩ ∧ i < 3 := by
  unfold hF at h
  split at h
  · rename_i hc
    cases h
    exact ⟨hc.2, rfl, hc.1⟩
  · cases h
theorem hL_only {k : Ky} {r : Nat × Nat} (h : hL sq met co i k = some r) : k = ⟨167772160, 8, 3⟩ := by
  unfold hL at h
  split at h
  · rename_i hc
    exact hc.2
  · cases h
theorem hM.good (hs : sq ≤ 65535) : (hM sq met co i).Good := fun k r h => by
  obtain ⟨rfl, rfl, -⟩ := hF_only h
  exact ⟨rfl, by decide +kernel, (by show 3 ≠ 0; decide), by show sq ≤ 1073741824; omega⟩
theorem hA.few : Few (hA sq met co i) 1 1 := ⟨[], [⟨167772160, 8, 3⟩], [⟨167772160, 8, 2⟩], by simp, by simp, (fun p h => by cases h), (fun k h => by
  obtain ⟨r, hr⟩ := Option.isSome_iff_exists.1 h
  have e := hL_only (show hL sq met co i k = some r from hr)
  simp [e]), (fun k h => by
  obtain ⟨r, hr⟩ := Option.isSome_iff_exists.1 h
  obtain ⟨rfl, -, -⟩ := hF_only hr
  simp)⟩
theorem hM.few : Few (hM sq met co i) 1 1 := ⟨[], [⟨167772160, 8, 3⟩], [⟨167772160, 8, 2⟩], by simp, by simp, (fun p h => by cases h), (fun k h => by
  obtain ⟨r, hr⟩ := Option.isSome_iff_exists.1 h
  have e := hL_only (show hL sq met co i k = some r from hr)
  simp [e]), (fun k h => by
  obtain ⟨r, hr⟩ := Option.isSome_iff_exists.1 h
  obtain ⟨rfl, -, -⟩ := hF_only hr
  simp)⟩
/-- the one way is picked -/
theorem pick_two {M : Mr} {r : Rt} (hc : M.c = hC co) (hco : 1 ≤ co) (hf : ∀ k : Nat, M.f ⟨167772160, 8, k⟩ = if k = 2 then some r else none) (hfe : M.fea 167772160 8 r = true) (hfar : far r.met co ≠ 65535) : M.pick 167772160 8 = some r := by
  have h2 : cAt M.c 2 = co := by rw [hc]; unfold cAt hC; simp
  have hr : ∀ k : Nat, M.reachF 167772160 8 k = if k = 2 then some (r, far r.met co) else none := fun k => by
    unfold Mr.reachF
    rw [hf k]
    by_cases e : k = 2
    · subst e
      simp only [if_true]
      rw [show (((2 : Nat) : Int)) = 2 from rfl, h2, if_neg]
      rintro (h | h | h)
      · omega
      · exact h hfe
      · exact hfar h
    · rw [if_neg e, if_neg e]
  unfold Mr.pick Mr.openL
  have : (List.range 9).filterMap (M.reachF 167772160 8) = [(r, far r.met co)] := by
    simp [List.range_succ, hr]
  rw [this]
  simp [pickL, nearest]
theorem pick_no {M : Mr} (hf : ∀ k : Nat, M.f ⟨167772160, 8, k⟩ = none) : M.pick 167772160 8 = none := by
  have hr : ∀ k : Nat, M.reachF 167772160 8 k = none := fun k => by
    unfold Mr.reachF
    rw [hf k]
  unfold Mr.pick Mr.openL
  have : (List.range 9).filterMap (M.reachF 167772160 8) = [] := by
    simp [List.range_succ, hr]
  rw [this]
  rfl
theorem far_sum (hm : met ≤ 4095) (h1 : 1 ≤ co) (h2 : co ≤ 1000) : far met co = (met + co : Nat) := by
  unfold far clampCost
  rw [if_neg (by omega), if_neg (by omega), if_neg (by omega)]
  omega
theorem hF_at {j k : Nat} : hF sq met j ⟨167772160, 8, k⟩ = if j < 3 ∧ k = 2 then some ⟨2, 3, sq, met, 3⟩ else none := by
  unfold hF
  by_cases h : j < 3 ∧ k = 2
  · rw [if_pos h, if_pos ⟨h.1, by rw [h.2]; rfl⟩]
  · rw [if_neg h, if_neg (fun h2 => h ⟨h2.1, by
      have := congrArg Rk.fr h2.2
      simp at this
      omega⟩)]
/-- the way, as long as it holds, whatever of the two is noted -/
theorem pick_holds {f : Ky → Option (Nat × Nat)} {now : Int} {j : Nat} (hj : j < 3) (hm : met ≤ 4095) (h1 : 1 ≤ co) (h2 : co ≤ 1000) (hfl : f ⟨167772160, 8, 3⟩ = none ∨ f ⟨167772160, 8, 3⟩ = some (sq, met + co)) :
    (⟨7, ⟨0, fun _ => none, f⟩, hF sq met j, hC co, now, 0, 0⟩ : Mr).pick 167772160 8 = some ⟨2, 3, sq, met, 3⟩ := by
  refine pick_two (co := co) rfl h1 (fun k => ?_) ?_ (by show far met co ≠ 65535; rw [far_sum hm h1 h2]; omega)
  · show hF sq met j ⟨167772160, 8, k⟩ = _
    rw [hF_at]
    simp [hj]
  · show Go.Proofs.YtmhcjhbmeohjdaaGreat.fea (f ⟨167772160, 8, 3⟩) sq met = true
    rcases hfl with h | h
    · rw [h]
      simp [Go.Proofs.YtmhcjhbmeohjdaaGreat.fea, bet]
    · rw [h]
      unfold Go.Proofs.YtmhcjhbmeohjdaaGreat.fea bet
      simp only [Bool.or_eq_true, decide_eq_true_eq]
      refine .inr ?_
      unfold dcmp cmpI
      (repeat' split) <;> omega
theorem hA_hM (hi : i ≠ 0) : hA sq met co i = hM sq met co (i + 1) := by
  unfold hA hM
  have e : hL sq met co i = hL sq met co (i + 1) := by
    funext k
    unfold hL
    simp [hi]
  rw [e]
  congr 1
theorem hL_ten (hi : i ≠ 0) : hL sq met co i ⟨167772160, 8, 3⟩ = some (sq, met + co) := by unfold hL; simp [hi]
theorem hL_zero : hL sq met co 0 = fun _ => none := by funext k; unfold hL; simp
/-- which subjects there are -/
theorem holds_subj {f : Nat} {now : Int} {rs : List En} (hf : f < 3 ∨ i ≠ 0) (h : Subj ⟨7, ⟨0, fun _ => none, hL sq met co i⟩, hF sq met f, hC co, now, 0, 0⟩ rs) : rs = [⟨167772160, 8, decide (i ≠ 0)⟩] := by
  by_cases hi : i = 0
  · subst hi
    refine h.way (fun p ha => ?_) (fun p => ⟨fun ⟨fr, _, hw⟩ => ?_, fun e => ?_⟩)
    · rcases ha with ⟨_, h⟩ | ⟨id, _, h⟩
      · cases h
      · have : (hL sq met co 0 ⟨p.a, p.n, id⟩).isSome = true := h
        rw [hL_zero] at this
        cases this
    · obtain ⟨r, hr⟩ := Option.isSome_iff_exists.1 hw
      have h1 := (hF_only (show hF sq met f ⟨p.a, p.n, fr⟩ = some r from hr)).1
      injection h1 with e1 e2 e3
      cases p
      simp at e1 e2
      rw [e1, e2]
    · subst e
      refine ⟨2, ⟨by show 167772160 < 4294967296; decide, by decide, by decide⟩, ?_⟩
      show (hF sq met f ⟨167772160, 8, 2⟩).isSome = true
      unfold hF
      rw [if_pos ⟨by omega, rfl⟩]
      rfl
  · rw [decide_eq_true hi]
    refine h.one (fun p => ⟨fun ha => ?_, fun e => ?_⟩) (fun p ⟨fr, _, hw⟩ => ?_)
    · rcases ha with ⟨_, h⟩ | ⟨id, _, h⟩
      · cases h
      · obtain ⟨r, hr⟩ := Option.isSome_iff_exists.1 h
        have h1 := hL_only (show hL sq met co i ⟨p.a, p.n, id⟩ = some r from hr)
        injection h1 with e1 e2 e3
        cases p
        simp at e1 e2
        rw [e1, e2]
    · subst e
      refine .inr ⟨3, ⟨by show 167772160 < 4294967296; decide, by decide, by show 3 < 4294967296; decide⟩, ?_⟩
      show (hL sq met co i ⟨167772160, 8, 3⟩).isSome = true
      rw [hL_ten hi]
      rfl
    · obtain ⟨r, hr⟩ := Option.isSome_iff_exists.1 hw
      have h1 := (hF_only (show hF sq met f ⟨p.a, p.n, fr⟩ = some r from hr)).1
      injection h1 with e1 e2 e3
      cases p
      simp at e1 e2
      rw [e1, e2]
theorem hA_owns : (hA sq met co i).owns ⟨167772160, 8⟩ = false := rfl
theorem hM_owns : (hM sq met co i).owns ⟨167772160, 8⟩ = false := rfl
theorem hL_any (i : Nat) : hL sq met co i ⟨167772160, 8, 3⟩ = none ∨ hL sq met co i ⟨167772160, 8, 3⟩ = some (sq, met + co) := by
  unfold hL
  split
  · exact .inr rfl
  · exact .inl rfl
theorem pick_gone {f : Ky → Option (Nat × Nat)} {now : Int} {j : Nat} (hj : ¬ j < 3) : (⟨7, ⟨0, fun _ => none, f⟩, hF sq met j, hC co, now, 0, 0⟩ : Mr).pick 167772160 8 = none :=
  pick_no fun k => by
    show hF sq met j ⟨167772160, 8, k⟩ = none
    rw [hF_at, if_neg (fun h => hj h.1)]
theorem holds_cover0 (hm : met ≤ 4095) (h2 : co ≤ 1000) : (hA sq met co 0).covered 167772160 8 3 sq (met + co) = hM sq met co 1 := by
  have hfl : (hA sq met co 0).sm.floor ⟨167772160, 8, 3⟩ = none := by show hL sq met co 0 ⟨167772160, 8, 3⟩ = none; rw [hL_zero]
  have e0 : (hA sq met co 0).sm = ⟨0, fun _ => none, fun _ => none⟩ := by show (⟨0, fun _ => none, hL sq met co 0⟩ : Sm) = _; rw [hL_zero]
  have e1 : app ⟨0, fun _ => none, fun _ => none⟩ ⟨4, 0, 0, 3, 167772160, 8, false, sq, met + co⟩ = ⟨0, fun _ => none, fun k => if k = ⟨167772160, 8, 3⟩ then some (sq, met + co) else none⟩ := rfl
  have e2 : (fun k => if k = (⟨167772160, 8, 3⟩ : Ky) then some (sq, met + co) else none) = hL sq met co 1 := by
    funext k
    unfold hL
    simp
  unfold Mr.covered
  rw [if_neg (by rw [hfl]; simp [cov, bet]; omega), e0, e1, e2]
  rfl
theorem holds_step (hm : met ≤ 4095) (h1 : 1 ≤ co) (h2 : co ≤ 1000) {rs : List En} (h : Subj (hA sq met co i) rs) : ((hA sq met co i).tellS rs).2 = hM sq met co (i + 1) ∧ (hA sq met co i).needS rs ≤ 1 := by
  have hrs := holds_subj (f := i + 1) (by omega) h
  subst hrs
  refine ⟨?_, Nat.le_trans (Mr.needS_le _ _) (by simp)⟩
  simp only [Mr.tellS]
  by_cases hi : i + 1 < 3
  · have hp := pick_holds (sq := sq) (now := (i : Int) + 1) hi hm h1 h2 (hL_any i)
    have hfN : (hA sq met co i).farN ⟨2, 3, sq, met, 3⟩ = met + co := by
      unfold Mr.farN
      rw [show cAt (hA sq met co i).c 2 = co by show cAt (hC co) 2 = co; unfold cAt hC; simp]
      show (far met co).toNat = met + co
      rw [far_sum hm h1 h2]
      rfl
    rw [Mr.tell1_way hA_owns hp, hfN]
    show (hA sq met co i).covered 167772160 8 3 sq (met + co) = hM sq met co (i + 1)
    by_cases h0 : i = 0
    · subst h0
      exact holds_cover0 hm h2
    · unfold Mr.covered
      rw [if_pos, hA_hM h0]
      show cov (hL sq met co i ⟨167772160, 8, 3⟩) sq (met + co) = true
      rw [hL_ten h0]
      simp [cov, bet, dcmp, cmpI]
  · have hp := pick_gone (sq := sq) (met := met) (co := co) (now := (i : Int) + 1) (f := hL sq met co i) hi
    rw [Mr.tell1_none hA_owns hp]
    exact hA_hM (by omega)
theorem holds_entry (hm : met ≤ 4095) (h1 : 1 ≤ co) (h2 : co ≤ 1000) {rs : List En} (h : Subj (hM sq met co i) rs) : rs.flatMap (hM sq met co i).entry = if i < 3 then [⟨167772160, 8, 2, 2⟩] else [⟨167772160, 8, 3, 0⟩] := by
  have hrs := holds_subj (f := i) (by omega) h
  subst hrs
  simp only [List.flatMap_cons, List.flatMap_nil, List.append_nil]
  by_cases hi : i < 3
  · rw [if_pos hi]
    have hp : (hM sq met co i).pick 167772160 8 = some ⟨2, 3, sq, met, 3⟩ := pick_holds hi hm h1 h2 (hL_any i)
    exact Mr.entry_way (e := ⟨167772160, 8, _⟩) hM_owns hp
  · rw [if_neg hi]
    have hp : (hM sq met co i).pick 167772160 8 = none := pick_gone hi
    exact Mr.entry_hole (e := ⟨167772160, 8, _⟩) hM_owns hp (by simp; omega)
theorem holds_dist (hm : met ≤ 4095) (h1 : 1 ≤ co) (h2 : co ≤ 1000) : (hM sq met co i).dist 167772160 8 = if i < 3 then (((met + co : Nat) : Int), true) else (0, false) := by
  unfold Mr.dist
  rw [if_neg (by rw [hM_owns]; decide)]
  by_cases hi : i < 3
  · rw [if_pos hi]
    have hp : (hM sq met co i).pick 167772160 8 = some ⟨2, 3, sq, met, 3⟩ := pick_holds hi hm h1 h2 (hL_any i)
    rw [hp]
    show (far met (cAt (hC co) 2), true) = _
    rw [show cAt (hC co) 2 = co by unfold cAt hC; simp, far_sum hm h1 h2]
  · rw [if_neg hi]
    have hp : (hM sq met co i).pick 167772160 8 = none := pick_gone hi
    rw [hp]
/-- what is heard at the beginning -/
theorem holds_heard (hm : met ≤ 4095) : (Mnone 7 (hC co) (fun _ => none) 0).hear 2 167772160 8 3 sq met = hM sq met co 0 := by
  unfold Mr.hear
  rw [if_neg (by
    rintro (h | h)
    · cases h
    · exact absurd (show 3 = 7 from h) (by decide)), if_neg (by omega), if_pos (by show Go.Proofs.YtmhcjhbmeohjdaaGreat.fea none sq met = true; simp [Go.Proofs.YtmhcjhbmeohjdaaGreat.fea, bet])]
  unfold hM Mnone
  have e1 : hL sq met co 0 = fun _ => none := hL_zero
  rw [e1]
  congr 1
  funext k
  unfold putR hF
  simp
end
end Go.Proofs.YtmhcjhbmeohjdaaGreat

namespace Go.Proofs.YtmhcjhbmeohjdaaGreat
open Go.RowKit Go.Maps Rm Fm Sb
attribute [local go_sem] Oper.semAt_some

theorem mask_u32 (z : Int) : ∃ c : Nat, c ≤ 65535 ∧ bits .and .u32 z 65535 = (c : Int) := by
  have h1 : (BitVec.ofInt 32 z &&& BitVec.ofInt 32 65535).toNat ≤ 65535 := by
    rw [BitVec.toNat_and]
    exact Nat.le_trans Nat.and_le_right (by decide)
  refine ⟨(BitVec.ofInt 32 z &&& BitVec.ofInt 32 65535).toNat, h1, ?_⟩
  have e : bits .and .u32 z 65535 = IntKind.u32.wrap ((BitVec.ofInt 32 z &&& BitVec.ofInt 32 65535).toNat : Int) := rfl
  rw [e]
  generalize (BitVec.ofInt 32 z &&& BitVec.ofInt 32 65535).toNat = n at *
  simp only [IntKind.wrap, IntKind.bits, IntKind.signed]
  simp
  omega
theorem mask_u16 (z : Int) : ∃ c : Nat, c ≤ 4095 ∧ bits .and .u16 z 4095 = (c : Int) := by
  have h1 : (BitVec.ofInt 16 z &&& BitVec.ofInt 16 4095).toNat ≤ 4095 := by
    rw [BitVec.toNat_and]
    exact Nat.le_trans Nat.and_le_right (by decide)
  refine ⟨(BitVec.ofInt 16 z &&& BitVec.ofInt 16 4095).toNat, h1, ?_⟩
  have e : bits .and .u16 z 4095 = IntKind.u16.wrap ((BitVec.ofInt 16 z &&& BitVec.ofInt 16 4095).toNat : Int) := rfl
  rw [e]
  generalize (BitVec.ofInt 16 z &&& BitVec.ofInt 16 4095).toNat = n at *
  simp only [IntKind.wrap, IntKind.bits, IntKind.signed]
  simp
  omega
theorem mask_7 (z : Int) : ∃ c : Nat, c ≤ 7 ∧ bits .and .i64 z 7 = (c : Int) := by
  have h1 : (BitVec.ofInt 64 z &&& BitVec.ofInt 64 7).toNat ≤ 7 := by
    rw [BitVec.toNat_and]
    exact Nat.le_trans Nat.and_le_right (by decide)
  refine ⟨(BitVec.ofInt 64 z &&& BitVec.ofInt 64 7).toNat, h1, ?_⟩
  have e : bits .and .i64 z 7 = IntKind.i64.wrap ((BitVec.ofInt 64 z &&& BitVec.ofInt 64 7).toNat : Int) := rfl
  rw [e]
  generalize (BitVec.ofInt 64 z &&& BitVec.ofInt 64 7).toNat = n at *
  simp only [IntKind.wrap, IntKind.bits, IntKind.signed]
  simp
  omega

theorem cost_1000 (z : Int) : ∃ c : Nat, 1 ≤ c ∧ c ≤ 1000 ∧ wrap64 (1 + wrap64 ((IntKind.u64.wrap z).tmod 1000)) = (c : Int) := by
  have h0 : 0 ≤ IntKind.u64.wrap z := by
    simp only [IntKind.wrap, IntKind.bits, IntKind.signed]
    simp
    omega
  obtain ⟨n, hn⟩ := Int.eq_ofNat_of_zero_le h0
  rw [hn]
  have e : ((n : Nat) : Int).tmod 1000 = ((n % 1000 : Nat) : Int) := by
    rw [Int.tmod_eq_emod_of_nonneg (by omega)]
    omega
  refine ⟨1 + n % 1000, by omega, by omega, ?_⟩
  rw [e, IntWalk.wrap64_in ((n % 1000 : Nat) : Int) (by omega), IntWalk.wrap64_in _ (by omega)]
  omega
theorem ul_blk {w : World} {b : Nat} {u : T.Tm.Up} (h : Blk 41 w b #[.int .u32 u.a, .int .i64 u.len, .int .u32 u.id, .int .u32 u.seq, .int .u16 u.met]) (hf : u.Fits) : T.Ul w (some ⟨b, 0, none⟩) 1 1 [u] :=
  ⟨rfl, by omega, by omega, fun _ => ⟨_, _, rfl⟩, fun b' off e i hi j hj => by
    cases e
    obtain rfl : i = 0 := by simpa using hi
    rw [Nat.zero_add, Nat.mul_zero, Nat.zero_add]
    exact h.at_ j, by simpa using hf⟩
theorem advN_le (M : Mr) : M.advN ≤ 1 := by unfold Mr.advN; (repeat' split) <;> omega
theorem two_right {i s m : Nat} (hi : i ≠ 0) (hs : s ≤ 1073741824) (hm : m ≠ 65535) : T.Tm.right ⟨167772160, 8, i, s, m⟩ = true := by
  unfold T.Tm.right
  rw [show Am.right 167772160 8 = true by decide +kernel]
  simp [hi, hs, hm]
theorem two_fits {i s m : Nat} (hi : i < 4294967296) (hs : s < 4294967296) (hm : m < 65536) : T.Tm.Up.Fits ⟨167772160, 8, i, s, m⟩ := ⟨by show 167772160 < 4294967296; decide, by show (-9223372036854775808 : Int) ≤ 8; decide, by show (8 : Int) ≤ 9223372036854775807; decide, hi, hs, hm⟩
/-- behind so many datagrams of the one -/
def hJ (sq met co : Nat) (j : Nat) : Mr := if j = 0 then Mnone 7 (hC co) (fun _ => none) 0 else hM sq met co 0
theorem hJ_receive {sq met co : Nat} (hm : met ≤ 4095) (h1 : 1 ≤ co) {d : List Nat} (hd : T.Tm.decode d = some [⟨167772160, 8, 3, sq, met⟩]) : (hJ sq met co 0).receive 2 d = hJ sq met co 1 := by
  show (Mnone 7 (hC co) (fun _ => none) 0).receive 2 d = hM sq met co 0
  unfold Mr.receive
  rw [if_neg (by
    show ¬ cAt (hC co) 2 = 0
    unfold cAt hC
    simp
    omega), hd]
  exact holds_heard hm

set_option maxRecDepth 100000 in
set_option maxHeartbeats 8000000 in
theorem holds_walk (s0 m0 : Nat) (cost ticks : Int) (w : World) :
    Calls Tryz.prog 3 #[.int .u32 s0, .int .u16 m0, .int .i64 cost, .int .i64 ticks] w fun e w' => e = .returned (.bool true) ∧ Below w.heap.size w w' := by
  obtain ⟨sq, hsq, hm1⟩ := mask_u32 (s0 : Int)
  obtain ⟨met, hmet, hm2⟩ := mask_u16 (m0 : Int)
  obtain ⟨tk, htk, hm3⟩ := mask_7 ticks
  go_enter Tryz.func3, Tryz.ntmps3
  obtain ⟨co, hco1, hco2, hm4⟩ := cost_1000 cost
  go_upto_region 7 with (go_at_call 7; refine (router_head w).mono ?_; rintro e w1 ⟨rfl, hb1⟩)
  rw [hm4]
  clear hm1 hm2 hm3 hm4
  generalize wrap64 ((IntKind.u64.wrap cost).tmod 1000) = x1
  generalize (IntKind.u64.wrap cost).tmod 1000 = x2
  generalize IntKind.u64.wrap cost = x3
  have HD := disk_new (n := 64) (by omega) (by omega) (z := 64) rfl w1
  have hs1 := hb1.size
  go_upto_region 10 with (first | (go_at_call 9; refine HD.mono ?_; rintro e w2 ⟨rfl, hD1, hb2⟩; have HN := rl_new (w0 := w) (hb1.trans (hb2.mono hs1)) ⟨by omega, by omega, by omega⟩ hD1 (id := 7) (by omega) (by omega) (by omega) (by omega) (z := 7) rfl; clear HD hD1 hb2) | (go_at_call 8; refine HN.mono ?_; rintro e w3 ⟨R, rfl, h2⟩; clear HN) | fail)
  rw [mr0_none] at h2
  have HL := rl_link h2 (k := 2) (by omega) (c := (co : Int)) (by omega) (by omega) (z := 2) rfl
  rw [link_none] at HL
  clear h2 hb1 hs1
  go_upto_region 11 with (go_at_call 10; refine HL.mono ?_; rintro e w4 ⟨rfl, h4⟩; clear HL)
  have hu := two_right (i := 3) (s := sq) (m := met) (by omega) (by omega) (by omega)
  have huf := two_fits (i := 3) (s := sq) (m := met) (by omega) (by omega) (by omega)
  obtain ⟨d, hd⟩ : ∃ d, T.Tm.page (T.Tm.parts ⟨167772160, 8, 3, sq, met⟩ 0) = d := ⟨_, rfl⟩
  have henc := encode_one hu
  have hdec := decode_one hu huf
  have hfine := T.Tm.encode_fine [⟨167772160, 8, 3, sq, met⟩] d (by rw [henc, hd]; simp)
  rw [hd] at henc hdec
  have Q := Lib.hid (And.intro huf (And.intro henc (And.intro hdec (And.intro hfine h4))))
  clear hu huf hd henc hdec hfine h4
  go_wp2_with (first | (go_at_call 12; refine (ten_any w4).mono ?_; rintro e w5 ⟨rfl, hb5⟩; have hb6 := next hb5 (below_new w5 (.cells #[.int .u32 167772160, .int .i64 8, .int .u32 3, .int .u32 sq, .int .u16 met] 41)); have HE := T.encode_any (ul_blk (u := ⟨167772160, 8, 3, sq, met⟩) (Blk.new w5 41 #[.int .u32 167772160, .int .i64 8, .int .u32 3, .int .u32 sq, .int .u16 met]) Q.out.1); rw [Q.out.2.1] at HE; clear hb5) | (go_at_call 11; refine HE.mono ?_; rintro e w7 ⟨v, rfl, hLas, hb7⟩; obtain ⟨pa, ca, rfl, hca⟩ := hLas.form; obtain ⟨F, hRc, hF, hBw⟩ := (Q.out.2.2.2.2.held hb6).rcv hb7; have Y := Lib.hid (And.intro hLas (And.intro hF (And.intro hBw hRc))); clear HE hLas hb7 hb6 hF hBw hRc) | fail)
  simp only [List.length_cons, List.length_nil, Nat.zero_add] at hca ⊢
  go_loopw [48] (fun i wr2 => ∃ j : Nat, i = .int .i64 j ∧ j ≤ 1 ∧ Hid (Rcv F w7 R 31 (90000 - 1000 * j) (hJ sq met co j) wr2)) (fun i _ => 1 - (intOf i).toNat)
  case atStart => exact ⟨0, rfl, Nat.zero_le _, Y.out.2.2.2⟩
  case round =>
    obtain ⟨j, rfl, hj, S⟩ := hrel
    by_cases hjl : j < 1
    · obtain rfl : j = 0 := by omega
      obtain ⟨F', hz, hT, hn⟩ := S.out.ex
      have hLr := Las_turn Y.out.1 hT (fun y hy => (Y.out.2.1 y hy).2)
      clear hz hT hn F'
      obtain ⟨gb, cp, gi, ci, e, hcell, hOb, -, -⟩ := hLr.inplace (i := 0) (by simp)
      simp only [List.length_cons, List.length_nil, Nat.zero_add, List.getD_cons_zero] at e hcell hOb
      cases e
      have hfine := Q.out.2.2.2.1
      have hSl : T.Sl _ (some ⟨gi, 0, none⟩) d.length ci d := ⟨hOb.bytes hfine.2.2.1 (by omega), by obtain ⟨cur, q1, q2, q3, q4, q5⟩ := hOb; exact q3, fun _ => ⟨_, _, rfl⟩⟩
      have hS := S.out
      have HR := rcv_receive (sp := 89000) hS hSl Q.out.2.2.1 (by simp) 2
      rw [hJ_receive hmet hco1 Q.out.2.2.1] at HR
      obtain ⟨bl, hbl⟩ : ∃ bl, d.length = bl := ⟨_, rfl⟩
      rw [hbl] at hcell HR
      clear S hLr hOb hfine hSl hS hbl
      go_wp2_with (go_at_call 13; refine HR.mono ?_; rintro e w8 ⟨rfl, h8⟩; have H8 := Lib.hid h8; clear HR h8)
      go_roundw
      case rel => exact ⟨1, rfl, Nat.le_refl _, H8.out⟩
      case measure => simp [intOf]
    · have hj1 : j = 1 := by omega
      have hS1 := S.out
      rw [hj1] at hS1
      have hRl := hS1.rl (fun y hy => (Y.out.2.1 y hy).1) Y.out.2.2.1
      have X := Lib.hid (show Rl w _ R (31 - 2 * 0) 89000 (hM sq met co 0) from hRl)
      have djz : decide ((j : Int) < 1) = false := decide_eq_false (by omega)
      clear S hRl Y hj hjl hj1 hS1
      go_wp2_with fail
      go_loopw [13] (fun i wr2 => ∃ k : Nat, i = .int .i64 k ∧ k ≤ tk ∧ Hid (Rl w wr2 R (31 - 2 * k) 89000 (hM sq met co k))) (fun i _ => tk - (intOf i).toNat)
      case atStart => exact ⟨0, rfl, Nat.zero_le _, X.out⟩
      case round =>
        clear X
        obtain ⟨k, rfl, hk, S⟩ := hrel
        by_cases hkt : k < tk
        · have hkz : (k : Int) < (tk : Int) := by omega
          have hS := S.out
          rw [show 31 - 2 * k = (31 - 2 * (k + 1)) + 1 + 1 by omega] at hS
          have HT := rl_tick (N := 1) (n := 1) (m1 := 1) (m2 := 1) hS (hM.good hsq) (by show (k : Int) < 1000000; omega) (by show 0 ≤ 1073741824; omega) (fun M2 h => by rw [hM.ticks h]; exact hA.few) (by omega) (advN_le _) (fun M2 rs h1 h2 => by
            rw [hM.ticks h1] at h2 ⊢
            exact (holds_step hmet hco1 hco2 h2).2)
          clear S hS
          go_wp2_with (go_at_call 14; refine HT.mono ?_; rintro e w9 ⟨v, B, M2, rs, xs, rfl, h1, h2, h3, h4⟩; have S2 := Lib.hid (show Rl w w9 R (31 - 2 * (k + 1)) 89000 (hM sq met co (k + 1)) from by rw [hM.ticks h1] at h2 h3; rw [(holds_step hmet hco1 hco2 h2).1] at h3; exact h3); clear HT h1 h2 h3 h4)
          go_roundw
          case rel => exact ⟨k + 1, by go_num, by omega, S2⟩
          case measure => simp [intOf]; omega
        · obtain rfl : k = tk := by omega
          have HFb := rl_fib S.out hM.few (by omega)
          clear hkt hk
          go_upto_region 21 with (go_at_call 15; refine HFb.mono ?_; rintro e w9 ⟨fv, rs, rfl, hSu, hLf, hb9⟩)
          have hen := holds_entry hmet hco1 hco2 hSu
          rw [hen] at hLf
          have hdi := holds_dist (sq := sq) (i := k) hmet hco1 hco2
          have X9 := Lib.hid (S.out.held hb9)
          clear HFb hSu hen hb9 S
          by_cases hk3 : k < 3
          · rw [if_pos hk3] at hLf hdi
            obtain ⟨fg, fc, rfl, e0, e1, e2, e3⟩ := lf_one hLf
            replace e0 : w9.cell? ⟨fg, 0, none⟩ = some (.int .u32 167772160) := e0
            dsimp only at e1 e2 e3
            obtain ⟨zN, hzN⟩ : ∃ zN, met + co = zN := ⟨_, rfl⟩
            rw [hzN] at hdi
            have dz : ((zN : Int) == (met : Int) + (co : Int)) = true := beq_iff_eq.2 (by omega)
            have d3 : decide ((k : Int) < 3) = true := decide_eq_true (by omega)
            have HDi := Lib.hid hdi
            clear hLf hdi hzN
            go_upto_region 25 with (first | (go_at_call 12; refine (ten_any w9).mono ?_; rintro e wa ⟨rfl, hba⟩; have HDs := rl_dist (X9.out.held hba) HDi.out; replace e0 := held hba e0; replace e1 := held hba e1; replace e2 := held hba e2; replace e3 := held hba e3; have XA := Lib.hid (X9.out.held hba); clear hba X9) | (go_at_call 16; refine HDs.mono ?_; rintro e wb ⟨rfl, hbb⟩) | fail)
            replace e0 := held hbb e0
            replace e1 := held hbb e1
            replace e2 := held hbb e2
            replace e3 := held hbb e3
            have XB := Lib.hid (XA.out.held hbb).below
            have hTn : ∀ (d : Nat) (os : Array Obj), Calls Tryz.prog 12 #[] (Sort.grow (redrawn wb d) os) fun e w' => e = .returned (.agg #[.int .u32 167772160, .int .i64 8]) ∧ Below (Sort.grow (redrawn wb d) os).heap.size (Sort.grow (redrawn wb d) os) w' := fun d os => ten_any _
            have u0 := fun d os => cell_regrown e0 d os
            have u1 := fun d os => cell_regrown e1 d os
            have u2 := fun d os => cell_regrown e2 d os
            have u3 := fun d os => cell_regrown e3 d os
            clear e0 e1 e2 e3 hbb XA HDs
            refine wp_region_quiet_below (by kernel_rfl) (by kernel_rfl) ?_
            repeat (go_big_quiet_step (first | (go_at_call 12; exact Calls.regrown_of (hTn _ _))))
            refine wpQuiet_nil ?_
            intro _ hw'
            obtain ⟨⟨dq, osq⟩, hw''⟩ := hw'
            subst hw''
            have hbr := XB.out.trans ((below_regrown wb dq osq).mono XB.out.size)
            clear hTn u0 u1 u2 u3
            go_wp2_with fail
            go_ret
            exact ⟨rfl, hbr⟩
          · rw [if_neg hk3] at hLf hdi
            obtain ⟨fg, fc, rfl, e0, e1, e2, e3⟩ := lf_one hLf
            replace e0 : w9.cell? ⟨fg, 0, none⟩ = some (.int .u32 167772160) := e0
            dsimp only at e1 e2 e3
            have d3 : decide ((k : Int) < 3) = false := decide_eq_false (by omega)
            have HDi := Lib.hid hdi
            clear hLf hdi
            go_upto_region 26 with (first | (go_at_call 12; refine (ten_any w9).mono ?_; rintro e wa ⟨rfl, hba⟩; have HDs := rl_dist (X9.out.held hba) HDi.out; replace e0 := held hba e0; replace e1 := held hba e1; replace e2 := held hba e2; replace e3 := held hba e3; have XA := Lib.hid (X9.out.held hba); clear hba X9) | (go_at_call 16; refine HDs.mono ?_; rintro e wb ⟨rfl, hbb⟩) | fail)
            replace e0 := held hbb e0
            replace e1 := held hbb e1
            replace e2 := held hbb e2
            replace e3 := held hbb e3
            have XB := Lib.hid (XA.out.held hbb).below
            have hTn : ∀ (d : Nat) (os : Array Obj), Calls Tryz.prog 12 #[] (Sort.grow (redrawn wb d) os) fun e w' => e = .returned (.agg #[.int .u32 167772160, .int .i64 8]) ∧ Below (Sort.grow (redrawn wb d) os).heap.size (Sort.grow (redrawn wb d) os) w' := fun d os => ten_any _
            have u0 := fun d os => cell_regrown e0 d os
            have u1 := fun d os => cell_regrown e1 d os
            have u2 := fun d os => cell_regrown e2 d os
            have u3 := fun d os => cell_regrown e3 d os
            clear e0 e1 e2 e3 hbb XA HDs
            refine wp_region_quiet_below (by kernel_rfl) (by kernel_rfl) ?_
            repeat (go_big_quiet_step (first | (go_at_call 12; exact Calls.regrown_of (hTn _ _))))
            refine wpQuiet_nil ?_
            intro _ hw'
            obtain ⟨⟨dq, osq⟩, hw''⟩ := hw'
            subst hw''
            have hbr := XB.out.trans ((below_regrown wb dq osq).mono XB.out.size)
            clear hTn u0 u1 u2 u3
            go_wp2_with fail
            go_ret
            exact ⟨rfl, hbr⟩
end Go.Proofs.YtmhcjhbmeohjdaaGreat

namespace Go.Proofs.YtmhcjhbmeohjdaaGreat
open Go.ChangeShapes Go.WideShapes Go.ChangeAt Go.RowKit Go.Joins T

set_option maxRecDepth 100000 in
theorem holds_lifted (os : Os) (started : os.Started) (H : Type) (enc : TypeId × Value → H) :
    ReturnsInHanded {} Tryz.checked os 3 .any (Rows.routerHoldsSpec.pre6 enc Tryz.prog Tryz.f3 Rows.routerHoldsRow.domain false) (Rows.routerHoldsSpec.post enc Tryz.prog Tryz.f3 false true false false) := by
  refine returnsInHanded_of_change (C := Tryz.checked) row_own started (by kernel_rfl) Tryz.func3
    (ChangeSpec.witness6 (enc := enc) (C := Tryz.checked) false ⟨#[], #[.int .u32 0, .int .u16 0, .int .i64 0, .int .i64 0], []⟩ 8 (by kernel_rfl) (by kernel_rfl) (by kernel_rfl) (by kernel_rfl)) ?_
  intro W base args ds gs before hval0 hW hcnd _
  have hval : ∀ (j : Nat) t v, Tryz.f3.params[j]? = some t → args[j]? = some v → Value.okWide Tryz.prog W .any base t v := hval0
  obtain ⟨p, q, hA0, hV, rfl, hfz, hnd⟩ := id hW
  have hA : DataW.TrodAll enc Tryz.prog W 0 (fun _ => true) true Tryz.f3.params.toList args.toList ds p := hA0
  rw [Tryz.params3] at hA hval
  obtain ⟨v0, vs0, d0, ds0, p0, q0, hargs, rfl, rfl, h0, r0⟩ := trodAll_cons hA
  obtain ⟨v1, vs1, d1, ds1, p1, q1, rfl, rfl, rfl, h1, r1⟩ := trodAll_cons r0
  obtain ⟨v2, vs2, d2, ds2, p2, q2, rfl, rfl, rfl, h2, r2⟩ := trodAll_cons r1
  obtain ⟨v3, vs3, d3, ds3, p3, q3, rfl, rfl, rfl, h3, r3⟩ := trodAll_cons r2
  obtain ⟨rfl, rfl, rfl⟩ := trodAll_nil r3
  obtain rfl : args = #[v0, v1, v2, v3] := by cases args; simp_all
  obtain ⟨z0, rfl, -, -, wz0⟩ := open_int Tryz.underlying22 (hval 0 22 v0 rfl rfl) h0
  obtain ⟨z1, rfl, -, -, wz1⟩ := open_int Tryz.underlying23 (hval 1 23 v1 rfl rfl) h1
  obtain ⟨z2, rfl, -, -, -⟩ := open_int Tryz.underlying3 (hval 2 3 v2 rfl rfl) h2
  obtain ⟨z3, rfl, -, -, -⟩ := open_int Tryz.underlying3 (hval 3 3 v3 rfl rfl) h3
  obtain ⟨s0, rfl, -⟩ := row_u32 wz0
  obtain ⟨m0, rfl, -⟩ := row_u16 wz1
  refine (holds_walk s0 m0 z2 z3 W).mono fun e W' ⟨he, hb⟩ => ?_
  subst he
  exact ⟨_, rfl, law_post row_laidOut (by rw [Tryz.params3]; decide +kernel) rfl Tryz.underlying4 rfl rfl hW hb⟩

theorem routerHolds_holds : Rows.RouterHoldsSaid :=
  OpenClaim.holds_of_wide 3 Tryz.f3 rfl rfl rfl rfl rfl rfl rfl ⟨rfl, rfl, rfl, rfl, rfl⟩ rfl rfl rfl rfl rfl (by kernel_rfl) Tryz.func3 (by kernel_rfl)
    (of_decide_eq_true (by kernel_rfl)) (by unfold Func.isWrapper; first | (rw [if_pos (by decide +kernel)]; kernel_rfl) | (rw [if_neg (by decide +kernel)]; exact ⟨rfl, rfl⟩))
    (fun os started H enc _ => holds_lifted os started H enc)
#print axioms routerHolds_holds
end Go.Proofs.YtmhcjhbmeohjdaaGreat

namespace Go.Proofs.YtmhcjhbmeohjdaaGreat
open Go.RowKit

end Go.Proofs.YtmhcjhbmeohjdaaGreat

