/-
  Package router: subjects, as a list that the router's knowledge alone says.
  Package router: its number advances.
  Package router: advance.
  The contract of package tlv's told: of bytes as long as a distance's body has to be.
  Lists of what is told, in memory; what a part says of the rest.
  The contract of package tlv's body.
-/
import Derived.Test.YtkchckeecfalhaaGreatS18
import Derived.Test.YtkchckeecfalhaaGreatS08
import Derived.Maps.AppendAt
import Derived.Laws.MakeOwn
import Derived.Deep.Cut
namespace Go.Proofs.YtkchckeecfalhaaGreat
open Go.RowKit Go.Maps Rm Fm Sb

/-- a router answers for a prefix: noted as its own (whether on or not), or with a floor -/
def Mr.ans (M : Mr) (p : Pk) : Prop := (p.ok ∧ (M.sm.own p).isSome = true) ∨ ∃ id, Ky.ok ⟨p.a, p.n, id⟩ ∧ (M.sm.floor ⟨p.a, p.n, id⟩).isSome = true
/-- it has a way to it -/
def Mr.ways (M : Mr) (p : Pk) : Prop := ∃ fr, Rk.ok ⟨p.a, p.n, fr⟩ ∧ (M.f ⟨p.a, p.n, fr⟩).isSome = true
structure Subj (M : Mr) (rs : List En) : Prop where
  asc : (rs.map En.pk).Pairwise ltP
  mem : ∀ e, e ∈ rs ↔ M.ans (En.pk e) ∧ e.on = true ∨ ¬ M.ans (En.pk e) ∧ M.ways (En.pk e) ∧ e.on = false
theorem Subj.unique {M : Mr} {rs rs' : List En} (h : Subj M rs) (h' : Subj M rs') : rs = rs' := by
  have nd : ∀ l : List En, (l.map En.pk).Pairwise ltP → l.Pairwise fun x y => ltP (En.pk x) (En.pk y) := fun l hl => List.pairwise_map.1 hl
  have h1 := nd _ h.asc
  have h2 := nd _ h'.asc
  have hd : ∀ l : List En, (l.Pairwise fun x y => ltP (En.pk x) (En.pk y)) → l.Nodup := fun l hl => hl.imp fun {a b} hab e => by subst e; unfold ltP at hab; omega
  exact List.Perm.eq_of_pairwise (fun a b _ _ hab hba => by unfold ltP at hab hba; omega) h1 h2 ((List.perm_ext_iff_of_nodup (hd _ h1) (hd _ h2)).2 fun e => (h.mem e).trans (h'.mem e).symm)
/-- nothing noted, no floor, no way: no subjects -/
theorem Subj.none {M : Mr} {rs : List En} (h : Subj M rs) (ha : ∀ p, ¬ M.ans p) (hw : ∀ p, ¬ M.ways p) : rs = [] :=
  List.eq_nil_iff_forall_not_mem.2 fun e he => ((h.mem e).1 he).elim (fun x => ha _ x.1) (fun x => hw _ x.2.1)
/-- one prefix alone that it answers for -/
theorem Subj.one {M : Mr} {rs : List En} (h : Subj M rs) {a : Nat} {len : Int} (ha : ∀ p, M.ans p ↔ p = ⟨a, len⟩) (hw : ∀ p, M.ways p → p = ⟨a, len⟩) : rs = [⟨a, len, true⟩] := by
  refine h.unique ⟨by simp, fun e => ?_⟩
  cases e with
  | mk ea en on =>
    simp only [List.mem_singleton, En.pk, En.mk.injEq]
    constructor
    · rintro ⟨rfl, rfl, rfl⟩
      exact .inl ⟨(ha _).2 rfl, rfl⟩
    · rintro (⟨h1, h2⟩ | ⟨h1, h2, h3⟩)
      · have := (ha _).1 h1
        simp at this
        exact ⟨this.1, this.2, h2⟩
      · have := hw _ h2
        exact absurd ((ha _).2 this) h1
theorem rr_subj {w : World} {R : Nat} {o fl tb : Option Nat} {j : Jr} {N n : Nat} {M : Mr} (h : Rr w R o fl tb j N n M) (hnn : 2 * N + n < 20) :
    Calls Tryz.prog 98 #[.pointer (some ⟨R, 0, none⟩)] w fun e w' => ∃ v rs, e = .returned v ∧ Subj M rs ∧ rs.length < 20 ∧ SjAt w' v rs ∧ (∀ b, v.ownBlock = some b → w.heap.size ≤ b) ∧ Below w.heap.size w w' := by
  refine (rr_subjects h hnn).mono ?_
  rintro e w' ⟨v, xs, ys, ps, es, fs, ds, rfl, ⟨hE, -, hx⟩, ⟨hF, -, hy⟩, hp, hso, hl20, hat, hown, hb⟩
  have hA : ∀ e ∈ es.map sO ++ fs.map sF, e.on = true := fun e he => by
    rcases List.mem_append.1 he with he | he <;> obtain ⟨x, -, rfl⟩ := List.mem_map.1 he <;> rfl
  have hB : ∀ e ∈ ps.map sW, e.on = false := fun e he => by
    obtain ⟨x, -, rfl⟩ := List.mem_map.1 he
    rfl
  obtain ⟨k1, k2⟩ := sorted_keep hA hB hso
  have hans : ∀ p : Pk, (∃ x ∈ es.map sO ++ fs.map sF, En.pk x = p) ↔ M.ans p := fun p => by
    constructor
    · rintro ⟨x, hx', rfl⟩
      rcases List.mem_append.1 hx' with h1 | h1
      · obtain ⟨⟨⟨xa, xn⟩, y, hok, hfit, hhas⟩, -, rfl⟩ := List.mem_map.1 h1
        exact .inl ⟨hok, by show (M.sm.own ⟨xa, xn⟩).isSome = true; rw [hhas]; rfl⟩
      · obtain ⟨⟨⟨xa, xn, xi⟩, y, hok, hfit, hhas⟩, -, rfl⟩ := List.mem_map.1 h1
        exact .inr ⟨xi, hok, by show (M.sm.floor ⟨xa, xn, xi⟩).isSome = true; rw [hhas]; rfl⟩
    · rintro (h1 | ⟨id, h1⟩)
      · have h2 := (hx p).2 h1
        rw [← show es.map (·.key) = xs from hE] at h2
        obtain ⟨x, h3, rfl⟩ := List.mem_map.1 h2
        exact ⟨sO x, List.mem_append_left _ (List.mem_map.2 ⟨x, h3, rfl⟩), rfl⟩
      · have h2 := (hy ⟨p.a, p.n, id⟩).2 h1
        rw [← show fs.map (·.key) = ys from hF] at h2
        obtain ⟨x, h3, h4⟩ := List.mem_map.1 h2
        refine ⟨sF x, List.mem_append_right _ (List.mem_map.2 ⟨x, h3, rfl⟩), ?_⟩
        unfold sF En.pk
        rw [h4]
  have hways : ∀ p : Pk, (∃ x ∈ ps.map sW, En.pk x = p) ↔ M.ways p := fun p => by
    constructor
    · rintro ⟨x, hx', rfl⟩
      obtain ⟨q, h1, rfl⟩ := List.mem_map.1 hx'
      exact (hp q).1 h1
    · intro h1
      exact ⟨sW p, List.mem_map.2 ⟨p, (hp p).2 h1, rfl⟩, rfl⟩
  refine ⟨v, _, rfl, ⟨k1, fun e => ?_⟩, Nat.lt_of_le_of_lt (keepE_len _ _) (by rw [List.length_map]; exact hl20), hat, hown, hb⟩
  rw [k2 e, hans, hways]
end Go.Proofs.YtkchckeecfalhaaGreat

namespace Go.Proofs.YtkchckeecfalhaaGreat
open Go.RowKit Go.Maps Rm
attribute [local go_sem] Oper.semAt_some

/-- behind 'leased' -/
def Mr.leased (M : Mr) (s : Nat) : Mr := if s ≤ M.sm.lease then M else { M with sm := app M.sm ⟨3, 0, 0, 0, 0, 0, false, min (s + 7) 1073741824, 0⟩ }
theorem lease_right (s : Nat) (h : s ≤ 1073741824) : right ⟨3, 0, 0, 0, 0, 0, false, s, 0⟩ = true := by
  rw [← right_two]
  unfold right2
  rw [show Am.right 0 0 = true by decide]
  simp
  omega
set_option maxRecDepth 100000 in
set_option maxHeartbeats 2000000 in
theorem rz_leased {F : List Nat} {w : World} {R room sp : Nat} {M : Mr} {s : Nat} (h : Rz F w R (room + if s ≤ M.sm.lease then 0 else 1) sp M) (hs : s ≤ 1073741824) :
    Calls Tryz.prog 184 #[.pointer (some ⟨R, 0, none⟩), .int .u32 s] w fun e w' => e = .returned (.bool true) ∧ Goes F w R room sp (M.leased s) w' := by
  obtain ⟨o, fl, tb, j, N, n, hR⟩ := h.rr
  have HS := rr_state hR
  have X := Lib.hid h
  clear h hR
  go_enter Tryz.func184, Tryz.ntmps184
  go_wp2_with fail
  refine HS.mono ?_
  rintro e w2 ⟨rfl, hb2⟩
  obtain ⟨o2, fl2, tb2, j2, N2, n2, hR2⟩ := (X.out.held hb2).rr
  obtain ⟨cn, cm, hnm, hSt⟩ := hR2.nt
  have HL := lease_any hSt
  clear hR2 hSt HS
  go_wp2_with fail
  refine HL.mono ?_
  rintro e w3 ⟨rfl, rfl⟩
  clear HL
  by_cases hq : s ≤ M.sm.lease
  · have d1 : decide (s ≤ M.sm.lease) = true := decide_eq_true hq
    have E := Lib.hid (show M.leased s = M by unfold Mr.leased; rw [if_pos hq])
    have B := Lib.hid hb2
    have Q := Lib.hid hq
    clear hq hb2
    go_wp2_with fail
    go_ret
    have hz0 : Rz F w R room sp M := by have := X.out; rw [if_pos Q.out] at this; exact this
    exact ⟨rfl, by rw [E.out]; exact Goes.stay hz0 B.out⟩
  · have d1 : decide (s ≤ M.sm.lease) = false := decide_eq_false hq
    have E := Lib.hid (show M.leased s = { M with sm := app M.sm ⟨3, 0, 0, 0, 0, 0, false, min (s + 7) 1073741824, 0⟩ } by unfold Mr.leased; rw [if_neg hq])
    obtain ⟨z, hz⟩ : ∃ z, min (s + 7) 1073741824 = z := ⟨_, rfl⟩
    have hz2 : z ≤ 1073741824 := by omega
    have hmin : min ((s : Int) + 8 - 1) 1073741824 = (z : Int) := by omega
    have h2 : Rz F w2 R (room + 1) sp M := by have := X.out.held hb2; rw [if_neg hq] at this; exact this
    rw [hz] at E
    have B := Lib.hid (And.intro hb2 (And.intro h2 hz2))
    clear hq hb2 h2 hz
    go_upto_region 4 with fail
    have HA := rz_append B.out.2.1 (k := 3) (g := 0) (l := 0) (rid := 0) (a := 0) (rn := 0) (on := false) (s := z) (m := 0) ⟨by show (-9223372036854775808 : Int) ≤ 3; decide, by show (3 : Int) ≤ 9223372036854775807; decide, by show 0 < 4294967296; omega, by show 0 < 4294967296; omega, by show 0 < 4294967296; omega, by show 0 < 4294967296; omega, by show (-9223372036854775808 : Int) ≤ 0; decide, by show (0 : Int) ≤ 9223372036854775807; decide, by show z < 4294967296; omega, by show 0 < 65536; omega⟩ (lease_right z hz2) (by decide)
    try rw [hmin]
    clear hmin d1
    go_wp2_with fail
    refine HA.mono ?_
    rintro e w4 ⟨rfl, hG⟩
    have hG3 := Goes.before B.out.1 hG
    rw [← E.out] at hG3
    have G := Lib.hid hG3
    clear HA hG hG3
    go_wp2_with fail
    go_ret
    exact ⟨rfl, G.out⟩
end Go.Proofs.YtkchckeecfalhaaGreat

namespace Go.Proofs.YtkchckeecfalhaaGreat
open Go.RowKit Go.Maps Rm
attribute [local go_sem] Oper.semAt_some

def Mr.next (M : Mr) : Nat := if M.seq = 0 then M.sm.lease + 1 else M.seq + 1
/-- behind 'advance' -/
def Mr.advance (M : Mr) : Mr := if M.seq ≠ 0 ∧ M.now - M.since < 12 then M else if M.next ≤ 1073741824 then { M.leased M.next with seq := M.next, since := M.now } else M
/-- how many records that takes -/
def Mr.advN (M : Mr) : Nat := if M.seq ≠ 0 ∧ M.now - M.since < 12 then 0 else if M.next ≤ 1073741824 then (if M.next ≤ M.sm.lease then 0 else 1) else 0
theorem leased_same (M : Mr) (s : Nat) : (M.leased s).id = M.id ∧ (M.leased s).f = M.f ∧ (M.leased s).c = M.c ∧ (M.leased s).now = M.now ∧ (M.leased s).seq = M.seq ∧ (M.leased s).since = M.since := by unfold Mr.leased; split <;> exact ⟨rfl, rfl, rfl, rfl, rfl, rfl⟩
theorem seq_cells (M : Mr) (s : Nat) (t : Int) (o fl : Option Nat) (j : Jr) (tb : Option Nat) : ((M.C o fl j tb).setIfInBounds 20 (.int .u32 s)).setIfInBounds 21 (.int .i64 t) = ({ M with seq := s, since := t } : Mr).C o fl j tb := rfl
set_option maxRecDepth 100000 in
set_option maxHeartbeats 4000000 in
theorem rz_advance {F : List Nat} {w : World} {R room sp : Nat} {M : Mr} (h : Rz F w R (room + M.advN) sp M) (hl : M.sm.lease ≤ 1073741824) :
    Calls Tryz.prog 128 #[.pointer (some ⟨R, 0, none⟩)] w fun e w' => e = .returned (.tuple #[]) ∧ Goes F w R room sp M.advance w' := by
  obtain ⟨o, fl, tb, j, N, n, hR⟩ := h.rr
  have hF := h.fits
  have hn1 := hF.now
  have hn2 := hF.since
  have hn3 := hF.seq
  have c0 : w.cell? ⟨R, 19, none⟩ = some (.int .i64 M.now) := hR.head.at_ 19
  have c1 : w.cell? ⟨R, 20, none⟩ = some (.int .u32 M.seq) := hR.head.at_ 20
  have c2 : w.cell? ⟨R, 21, none⟩ = some (.int .i64 M.since) := hR.head.at_ 21
  have r0 := fun d os => cell_regrown c0 d os
  have r1 := fun d os => cell_regrown c1 d os
  have r2 := fun d os => cell_regrown c2 d os
  have X := Lib.hid h
  clear h hR hF c0 c1 c2
  obtain ⟨q0, hq0⟩ : ∃ q, ((M.seq : Int) != 0) = q := ⟨_, rfl⟩
  have e0 : M.seq ≠ 0 ↔ q0 = true := by rw [← hq0, bne_iff_ne]; omega
  have E0 := Lib.hid e0
  clear e0
  by_cases hd : M.now - M.since < 12
  · have d1 : decide (M.now - M.since < 12) = true := decide_eq_true hd
    cases q0 with
    | true =>
      have E := Lib.hid (show M.advance = M by unfold Mr.advance; rw [if_pos ⟨E0.out.2 (by trivial), hd⟩])
      have hN : M.advN = 0 := by unfold Mr.advN; rw [if_pos ⟨E0.out.2 (by trivial), hd⟩]
      have XX := Lib.hid (show Rz F w R room sp M by have := X.out; rw [hN] at this; exact this)
      clear hN
      clear hd
      go_enter Tryz.func128, Tryz.ntmps128
      go_upto_region 0 with fail
      refine wp_region_quiet_below (by kernel_rfl) (by kernel_rfl) ?_
      repeat (go_big_quiet_step (fail))
      refine wpQuiet_nil ?_
      intro _ hw'
      obtain ⟨⟨dq, osq⟩, hw''⟩ := hw'
      subst hw''
      have B := Lib.hid (below_regrown w dq osq)
      have c1 := r1 dq osq
      clear r0 r1 r2
      generalize Sort.grow (redrawn w dq) osq = W at *
      go_wp2_with fail
      refine bodyPost_ret (results_none rfl _ _ _) rfl ⟨rfl, by rw [E.out]; exact Goes.stay XX.out B.out⟩
    | false =>
      have hs0 : M.seq = 0 := by rcases Nat.eq_zero_or_pos M.seq with h | h; exact h; have := E0.out.1 (by omega); cases this
      have E := Lib.hid (show M.advance = if M.next ≤ 1073741824 then { M.leased M.next with seq := M.next, since := M.now } else M by unfold Mr.advance; rw [if_neg (fun h => h.1 hs0)])
      have AN := Lib.hid (show M.advN = if M.next ≤ 1073741824 then (if M.next ≤ M.sm.lease then 0 else 1) else 0 by unfold Mr.advN; rw [if_neg (fun h => h.1 hs0)])
      have nx := Lib.hid (show M.next = M.sm.lease + 1 by unfold Mr.next; rw [if_pos hs0])
      clear hd
      go_enter Tryz.func128, Tryz.ntmps128
      go_upto_region 0 with fail
      refine wp_region_quiet_below (by kernel_rfl) (by kernel_rfl) ?_
      repeat (go_big_quiet_step (fail))
      refine wpQuiet_nil ?_
      intro _ hw'
      obtain ⟨⟨dq, osq⟩, hw''⟩ := hw'
      subst hw''
      have B := Lib.hid (below_regrown w dq osq)
      have c1 := r1 dq osq
      clear r0 r1 r2
      generalize Sort.grow (redrawn w dq) osq = W at *
      obtain ⟨o2, fl2, tb2, j2, N2, nn2, hR2⟩ := (X.out.held B.out).rr
      have HS := rr_state hR2
      clear hR2
      obtain ⟨z, hz⟩ : ∃ z, M.sm.lease + 1 = z := ⟨_, rfl⟩
      have NX : Hid (M.next = z) := Lib.hid (nx.out.trans hz)
      have hzz : (M.sm.lease : Int) + 1 = (z : Int) := by omega
      clear nx hz
      go_wp2_with fail
      refine HS.mono ?_
      rintro e w3 ⟨rfl, hb3⟩
      have hb4 := next B.out hb3
      obtain ⟨o3, fl3, tb3, j3, N3, nn3, hR3⟩ := (X.out.held hb4).rr
      obtain ⟨cn, cm, hnm, hSt⟩ := hR3.nt
      have HLe := lease_any hSt
      have B2 := Lib.hid (And.intro hb4 (X.out.held hb4))
      clear hR3 hSt HS hb3 hb4 c1
      go_wp2_with fail
      refine HLe.mono ?_
      rintro e w3' ⟨rfl, rfl⟩
      clear HLe
      go_upto_region 4 with fail
      try rw [hzz]
      clear hzz
      by_cases hle : z ≤ 1073741824
      · have d4 : decide ((z : Int) ≤ 1073741824) = true := decide_eq_true (by omega)
        have hzl := B2.out.2
        rw [AN.out, NX.out, if_pos hle] at hzl
        have HL := rz_leased hzl hle
        clear hzl
        have HLE := Lib.hid hle
        have E2 := Lib.hid (show M.advance = { M.leased z with seq := z, since := M.now } by rw [E.out, NX.out, if_pos hle])
        clear hle
        go_wp2_with fail
        refine HL.mono ?_
        rintro e w4 ⟨rfl, hG⟩
        obtain ⟨F4, hz4, t4, n4⟩ := Goes.before B2.out.1 hG
        obtain ⟨o4, fl4, tb4, j4, N4, nn4, hR4⟩ := hz4.rr
        have L4 := leased_same M z
        have a0 : w4.cell? ⟨R, 19, none⟩ = some (.int .i64 M.now) := by have := hR4.head.at_ 19; rw [← L4.2.2.2.1]; exact this
        have a1 := hR4.head.at_ 20
        have a2 := hR4.head.at_ 21
        have a3 : w4.cell? ⟨R, 20, none⟩ = some (.int .u32 (M.leased z).seq) := a1
        have a4 : w4.cell? ⟨R, 21, none⟩ = some (.int .i64 (M.leased z).since) := a2
        have f1 := hR4.head.free 20
        have f2 := hR4.head.free 21
        have Z := Lib.hid (And.intro hz4 (And.intro t4 (And.intro n4 L4)))
        clear HL hG hz4 t4 n4 hR4 a1 a2 L4
        go_wp2_with fail
        have hG5 : Goes F4 w4 R room sp { M.leased z with seq := z, since := M.now } _ := Z.out.1.of_head (M' := { M.leased z with seq := z, since := M.now }) (fun o fl j tb hb => by
            have := (hb.store 20 (.int .u32 z)).store 21 (.int .i64 M.now)
            rw [seq_cells] at this
            exact this) rfl rfl ((Turn.setCell _ (by simp) _).trans (Turn.setCell _ (by simp) _)) ⟨Z.out.1.fits.id, Z.out.1.fits.f, Z.out.1.fits.c, Z.out.1.fits.now, HLE.out, hn1.1, by show M.now ≤ (M.leased z).now; rw [Z.out.2.2.2.2.2.2.1]; exact Int.le_refl _⟩
        have hG6 := Goes.trans Z.out.2.1 Z.out.2.2.1 hG5
        rw [← E2.out] at hG6
        refine bodyPost_end (v := .tuple #[]) (results_none rfl _ _ _) rfl ⟨rfl, hG6⟩
      · have d4 : decide ((z : Int) ≤ 1073741824) = false := decide_eq_false (by omega)
        have E2 := Lib.hid (show M.advance = M by rw [E.out, NX.out, if_neg hle])
        have HNL := Lib.hid hle
        clear hle
        go_wp2_with fail
        have hz0 : Rz F w R room sp M := by have := X.out; rw [AN.out, NX.out, if_neg HNL.out] at this; exact this
        refine bodyPost_end (v := .tuple #[]) (results_none rfl _ _ _) rfl ⟨rfl, by rw [E2.out]; exact Goes.stay hz0 B2.out.1⟩
  · have d1 : decide (M.now - M.since < 12) = false := decide_eq_false hd
    cases q0 with
    | true =>
      have hs0 : M.seq ≠ 0 := E0.out.2 (by trivial)
      have E := Lib.hid (show M.advance = if M.next ≤ 1073741824 then { M.leased M.next with seq := M.next, since := M.now } else M by unfold Mr.advance; rw [if_neg (fun h => hd h.2)])
      have AN := Lib.hid (show M.advN = if M.next ≤ 1073741824 then (if M.next ≤ M.sm.lease then 0 else 1) else 0 by unfold Mr.advN; rw [if_neg (fun h => hd h.2)])
      have nx := Lib.hid (show M.next = M.seq + 1 by unfold Mr.next; rw [if_neg hs0])
      clear hd
      go_enter Tryz.func128, Tryz.ntmps128
      go_upto_region 0 with fail
      refine wp_region_quiet_below (by kernel_rfl) (by kernel_rfl) ?_
      repeat (go_big_quiet_step (fail))
      refine wpQuiet_nil ?_
      intro _ hw'
      obtain ⟨⟨dq, osq⟩, hw''⟩ := hw'
      subst hw''
      have B := Lib.hid (below_regrown w dq osq)
      have c1 := r1 dq osq
      clear r0 r1 r2
      generalize Sort.grow (redrawn w dq) osq = W at *
      obtain ⟨z, hz⟩ : ∃ z, M.seq + 1 = z := ⟨_, rfl⟩
      have NX : Hid (M.next = z) := Lib.hid (nx.out.trans hz)
      have hzz : (M.seq : Int) + 1 = (z : Int) := by omega
      have B2 := Lib.hid (And.intro B.out (X.out.held B.out))
      clear nx hz
      go_upto_region 4 with fail
      try rw [hzz]
      clear hzz c1
      by_cases hle : z ≤ 1073741824
      · have d4 : decide ((z : Int) ≤ 1073741824) = true := decide_eq_true (by omega)
        have hzl := B2.out.2
        rw [AN.out, NX.out, if_pos hle] at hzl
        have HL := rz_leased hzl hle
        clear hzl
        have HLE := Lib.hid hle
        have E2 := Lib.hid (show M.advance = { M.leased z with seq := z, since := M.now } by rw [E.out, NX.out, if_pos hle])
        clear hle
        go_wp2_with fail
        refine HL.mono ?_
        rintro e w4 ⟨rfl, hG⟩
        obtain ⟨F4, hz4, t4, n4⟩ := Goes.before B2.out.1 hG
        obtain ⟨o4, fl4, tb4, j4, N4, nn4, hR4⟩ := hz4.rr
        have L4 := leased_same M z
        have a0 : w4.cell? ⟨R, 19, none⟩ = some (.int .i64 M.now) := by have := hR4.head.at_ 19; rw [← L4.2.2.2.1]; exact this
        have a1 := hR4.head.at_ 20
        have a2 := hR4.head.at_ 21
        have a3 : w4.cell? ⟨R, 20, none⟩ = some (.int .u32 (M.leased z).seq) := a1
        have a4 : w4.cell? ⟨R, 21, none⟩ = some (.int .i64 (M.leased z).since) := a2
        have f1 := hR4.head.free 20
        have f2 := hR4.head.free 21
        have Z := Lib.hid (And.intro hz4 (And.intro t4 (And.intro n4 L4)))
        clear HL hG hz4 t4 n4 hR4 a1 a2 L4
        go_wp2_with fail
        have hG5 : Goes F4 w4 R room sp { M.leased z with seq := z, since := M.now } _ := Z.out.1.of_head (M' := { M.leased z with seq := z, since := M.now }) (fun o fl j tb hb => by
            have := (hb.store 20 (.int .u32 z)).store 21 (.int .i64 M.now)
            rw [seq_cells] at this
            exact this) rfl rfl ((Turn.setCell _ (by simp) _).trans (Turn.setCell _ (by simp) _)) ⟨Z.out.1.fits.id, Z.out.1.fits.f, Z.out.1.fits.c, Z.out.1.fits.now, HLE.out, hn1.1, by show M.now ≤ (M.leased z).now; rw [Z.out.2.2.2.2.2.2.1]; exact Int.le_refl _⟩
        have hG6 := Goes.trans Z.out.2.1 Z.out.2.2.1 hG5
        rw [← E2.out] at hG6
        refine bodyPost_end (v := .tuple #[]) (results_none rfl _ _ _) rfl ⟨rfl, hG6⟩
      · have d4 : decide ((z : Int) ≤ 1073741824) = false := decide_eq_false (by omega)
        have E2 := Lib.hid (show M.advance = M by rw [E.out, NX.out, if_neg hle])
        have HNL := Lib.hid hle
        clear hle
        go_wp2_with fail
        have hz0 : Rz F w R room sp M := by have := X.out; rw [AN.out, NX.out, if_neg HNL.out] at this; exact this
        refine bodyPost_end (v := .tuple #[]) (results_none rfl _ _ _) rfl ⟨rfl, by rw [E2.out]; exact Goes.stay hz0 B2.out.1⟩
    | false =>
      have hs0 : M.seq = 0 := by rcases Nat.eq_zero_or_pos M.seq with h | h; exact h; have := E0.out.1 (by omega); cases this
      have E := Lib.hid (show M.advance = if M.next ≤ 1073741824 then { M.leased M.next with seq := M.next, since := M.now } else M by unfold Mr.advance; rw [if_neg (fun h => hd h.2)])
      have AN := Lib.hid (show M.advN = if M.next ≤ 1073741824 then (if M.next ≤ M.sm.lease then 0 else 1) else 0 by unfold Mr.advN; rw [if_neg (fun h => hd h.2)])
      have nx := Lib.hid (show M.next = M.sm.lease + 1 by unfold Mr.next; rw [if_pos hs0])
      clear hd
      go_enter Tryz.func128, Tryz.ntmps128
      go_upto_region 0 with fail
      refine wp_region_quiet_below (by kernel_rfl) (by kernel_rfl) ?_
      repeat (go_big_quiet_step (fail))
      refine wpQuiet_nil ?_
      intro _ hw'
      obtain ⟨⟨dq, osq⟩, hw''⟩ := hw'
      subst hw''
      have B := Lib.hid (below_regrown w dq osq)
      have c1 := r1 dq osq
      clear r0 r1 r2
      generalize Sort.grow (redrawn w dq) osq = W at *
      obtain ⟨o2, fl2, tb2, j2, N2, nn2, hR2⟩ := (X.out.held B.out).rr
      have HS := rr_state hR2
      clear hR2
      obtain ⟨z, hz⟩ : ∃ z, M.sm.lease + 1 = z := ⟨_, rfl⟩
      have NX : Hid (M.next = z) := Lib.hid (nx.out.trans hz)
      have hzz : (M.sm.lease : Int) + 1 = (z : Int) := by omega
      clear nx hz
      go_wp2_with fail
      refine HS.mono ?_
      rintro e w3 ⟨rfl, hb3⟩
      have hb4 := next B.out hb3
      obtain ⟨o3, fl3, tb3, j3, N3, nn3, hR3⟩ := (X.out.held hb4).rr
      obtain ⟨cn, cm, hnm, hSt⟩ := hR3.nt
      have HLe := lease_any hSt
      have B2 := Lib.hid (And.intro hb4 (X.out.held hb4))
      clear hR3 hSt HS hb3 hb4 c1
      go_wp2_with fail
      refine HLe.mono ?_
      rintro e w3' ⟨rfl, rfl⟩
      clear HLe
      go_upto_region 4 with fail
      try rw [hzz]
      clear hzz
      by_cases hle : z ≤ 1073741824
      · have d4 : decide ((z : Int) ≤ 1073741824) = true := decide_eq_true (by omega)
        have hzl := B2.out.2
        rw [AN.out, NX.out, if_pos hle] at hzl
        have HL := rz_leased hzl hle
        clear hzl
        have HLE := Lib.hid hle
        have E2 := Lib.hid (show M.advance = { M.leased z with seq := z, since := M.now } by rw [E.out, NX.out, if_pos hle])
        clear hle
        go_wp2_with fail
        refine HL.mono ?_
        rintro e w4 ⟨rfl, hG⟩
        obtain ⟨F4, hz4, t4, n4⟩ := Goes.before B2.out.1 hG
        obtain ⟨o4, fl4, tb4, j4, N4, nn4, hR4⟩ := hz4.rr
        have L4 := leased_same M z
        have a0 : w4.cell? ⟨R, 19, none⟩ = some (.int .i64 M.now) := by have := hR4.head.at_ 19; rw [← L4.2.2.2.1]; exact this
        have a1 := hR4.head.at_ 20
        have a2 := hR4.head.at_ 21
        have a3 : w4.cell? ⟨R, 20, none⟩ = some (.int .u32 (M.leased z).seq) := a1
        have a4 : w4.cell? ⟨R, 21, none⟩ = some (.int .i64 (M.leased z).since) := a2
        have f1 := hR4.head.free 20
        have f2 := hR4.head.free 21
        have Z := Lib.hid (And.intro hz4 (And.intro t4 (And.intro n4 L4)))
        clear HL hG hz4 t4 n4 hR4 a1 a2 L4
        go_wp2_with fail
        have hG5 : Goes F4 w4 R room sp { M.leased z with seq := z, since := M.now } _ := Z.out.1.of_head (M' := { M.leased z with seq := z, since := M.now }) (fun o fl j tb hb => by
            have := (hb.store 20 (.int .u32 z)).store 21 (.int .i64 M.now)
            rw [seq_cells] at this
            exact this) rfl rfl ((Turn.setCell _ (by simp) _).trans (Turn.setCell _ (by simp) _)) ⟨Z.out.1.fits.id, Z.out.1.fits.f, Z.out.1.fits.c, Z.out.1.fits.now, HLE.out, hn1.1, by show M.now ≤ (M.leased z).now; rw [Z.out.2.2.2.2.2.2.1]; exact Int.le_refl _⟩
        have hG6 := Goes.trans Z.out.2.1 Z.out.2.2.1 hG5
        rw [← E2.out] at hG6
        refine bodyPost_end (v := .tuple #[]) (results_none rfl _ _ _) rfl ⟨rfl, hG6⟩
      · have d4 : decide ((z : Int) ≤ 1073741824) = false := decide_eq_false (by omega)
        have E2 := Lib.hid (show M.advance = M by rw [E.out, NX.out, if_neg hle])
        have HNL := Lib.hid hle
        clear hle
        go_wp2_with fail
        have hz0 : Rz F w R room sp M := by have := X.out; rw [AN.out, NX.out, if_neg HNL.out] at this; exact this
        refine bodyPost_end (v := .tuple #[]) (results_none rfl _ _ _) rfl ⟨rfl, by rw [E2.out]; exact Goes.stay hz0 B2.out.1⟩
end Go.Proofs.YtkchckeecfalhaaGreat

set_option maxRecDepth 20000
namespace Go.Proofs.YtkchckeecfalhaaGreat.T
open Go.RowKit Tm

theorem cut_low_run (A : Option Addr) (n cap k : Nat) (hk : k ≤ n) (hcap : n ≤ cap) (w : World) {z : Int} (hz : z = k) {A' : Option Addr} (hA : A' = if cap = k then A else A.map (·.add k)) {m c : Nat} (hm : m = n - k) (hc : c = cap - k) :
    (Instr.slice 79 (.slice A n cap) (some (.int .i64 z)) none none).run Tryz.prog w = .ok (.slice A' m c) w := by
  subst hA hm hc
  have d1 : (k : Int) ≤ (n : Int) := by omega
  subst hz
  by_cases e : cap = k
  · rw [if_pos e]; subst e; go_simp
  · rw [if_neg e]; go_simp
theorem cut_both_run (b off n cap k l : Nat) (hk : k < l) (hl : l ≤ cap) (w : World) {z y : Int} (hz : z = k) (hy : y = l) {o' m c : Nat} (ho : o' = off + k) (hm : m = l - k) (hc : c = cap - k) :
    (Instr.slice 79 (.slice (some ⟨b, off, none⟩) n cap) (some (.int .i64 z)) (some (.int .i64 y)) none).run Tryz.prog w = .ok (.slice (some ⟨b, o', none⟩) m c) w := by
  subst hm hc ho
  have d1 : (k : Int) ≤ (l : Int) := by omega
  have d2 : (l : Int) ≤ (cap : Int) := by omega
  have d3 : ¬ cap = k := by omega
  subst hz hy
  go_simp

theorem Sl.turn {w w' : World} {b off n cap : Nat} {bs : List Nat} {L : List Nat} (h : Sl w (some ⟨b, off, none⟩) n cap bs) (t : Turn L w w') (hb : b ∉ L) : Sl w' (some ⟨b, off, none⟩) n cap bs :=
  ⟨⟨h.bytes.1, h.bytes.2.1, h.bytes.2.2.1, fun k hk => by
    obtain ⟨ad, e, hc⟩ := h.bytes.2.2.2 k hk
    cases e
    exact ⟨_, rfl, t.cell hc (by rw [add_block]; exact hb)⟩⟩, h.cap, h.plain⟩
theorem Sl.lt {w : World} {b off n cap : Nat} {bs : List Nat} (h : Sl w (some ⟨b, off, none⟩) n cap bs) (h0 : 0 < n) : b < w.heap.size := cell_lt (h.at_ (k := 0) h0)
theorem Sl.drew {w : World} {A : Option Addr} {n cap : Nat} {bs : List Nat} (h : Sl w A n cap bs) : Sl w.drew A n cap bs := ⟨h.bytes, h.cap, h.plain⟩
/-- the three calls of Get -/
structure Gets (b off cap g : Nat) (n : Nat) (bs : List Nat) (a s m : Nat) : Prop where
  ga : ∀ wx : World, Blk 272 wx g (cls ((bs.drop 7 ++ [0, 0, 0, 0]).take 4)) → Calls Tryz.prog 89 #[.slice (some ⟨g, 0, none⟩) 4 4] wx fun e w' => e = .returned (.int .u32 (a : Nat)) ∧ wx = w'
  gs : ∀ wx : World, Sl wx (some ⟨b, off, none⟩) n cap bs → Calls Tryz.prog 89 #[.slice (some ⟨b, off + 1, none⟩) 4 (cap - 1)] wx fun e w' => e = .returned (.int .u32 (s : Nat)) ∧ wx = w'
  gm : ∀ wx : World, Sl wx (some ⟨b, off, none⟩) n cap bs → Calls Tryz.prog 89 #[.slice (some ⟨b, off + 5, none⟩) 2 (cap - 5)] wx fun e w' => e = .returned (.int .u32 (m : Nat)) ∧ wx = w'
theorem gets (b off cap g n : Nat) (bs : List Nat) (h7 : 7 ≤ n) (hb : ∀ c ∈ bs, c < 256) : Gets b off cap g n bs (Tm.val ((bs.drop 7 ++ [0, 0, 0, 0]).take 4)) (Tm.val ((bs.drop 1).take 4)) (Tm.val ((bs.drop 5).take 2)) :=
  ⟨fun wx h => by
    have hl : ((bs.drop 7 ++ [0, 0, 0, 0]).take 4).length = 4 := by simp
    have h4 := BytesAt.cls h (fun c hc => by
      rcases List.mem_append.1 (List.mem_of_mem_take hc) with h' | h'
      · exact hb c (List.mem_of_mem_drop h')
      · simp at h'; omega) (by omega)
    rw [hl] at h4
    exact get_any _ 4 4 _ wx h4 (by omega),
   fun wx h => get_part h 1 4 (by omega) (by omega) (cap - 1), fun wx h => get_part h 5 2 (by omega) (by omega) (cap - 5)⟩

set_option maxHeartbeats 4000000 in
theorem told_long {A : Option Addr} {n cap : Nat} {bs : List Nat} {w : World} (h : Sl w A n cap bs) (hf : fits bs = true) {id : Nat} {u : Up} (hu : upOf bs id = u) {r : Bool} (hr : right u = r) :
    Calls Tryz.prog 101 #[.slice A n cap, .int .u32 id] w fun e w' => e = .returned (.tuple #[.agg u.cs, .bool r]) ∧ Below w.heap.size w w' := by
  have hl := h.bytes.1
  have hmx := h.bytes.2.1
  have hcap := h.cap
  have hmx' : n ≤ 9223372036854775807 := by unfold maxLen at hmx; omega
  clear hmx
  unfold fits at hf
  simp only [Bool.and_eq_true, decide_eq_true_eq, hl] at hf
  obtain ⟨h7, hn⟩ := hf
  obtain ⟨b, off, rfl⟩ := h.plain (by omega)
  have d1 : decide ((n : Int) < 7) = false := decide_eq_false (by omega)
  have hbl := h.lt (by omega)
  have hx := h.bytes.lt 0
  have hZ : Blk 123 (w.alloc (.cells #[.int .u32 0, .int .i64 0, .int .u32 0, .int .u32 0, .int .u16 0] 123)) w.heap.size (ucs 0 0 0 0 0) := Blk.new w _ _
  have hb := below_new w (.cells #[.int .u32 0, .int .i64 0, .int .u32 0, .int .u32 0, .int .u16 0] 123)
  have hsz := size_new w (.cells #[.int .u32 0, .int .i64 0, .int .u32 0, .int .u32 0, .int .u16 0] 123)
  have h1 := h.held hb
  have c0 : (w.alloc (.cells #[.int .u32 0, .int .i64 0, .int .u32 0, .int .u32 0, .int .u16 0] 123)).cell? ⟨b, off, none⟩ = some (.int .u8 (bs.getD 0 0 : Nat)) := h1.at_ (k := 0) (by omega)
  have hup : u = ⟨Tm.val ((bs.drop 7 ++ [0, 0, 0, 0]).take 4), bs.getD 0 0, if Tm.val ((bs.drop 5).take 2) = 65535 then 0 else id, Tm.val ((bs.drop 1).take 4), Tm.val ((bs.drop 5).take 2)⟩ := hu ▸ rfl
  clear hu
  generalize hxx : bs.getD 0 0 = x0 at *
  have d2 : ((n : Int) == ((7 + nb x0 : Nat) : Int)) = true := beq_iff_eq.2 (by omega)
  have ha4 : Tm.val ((bs.drop 7 ++ [0, 0, 0, 0]).take 4) < 4294967296 := Tm.val_lt 4 _ (by simp) (fun c hc => by
    rcases List.mem_append.1 (List.mem_of_mem_take hc) with h' | h'
    · exact h.bytes.2.2.1 c (List.mem_of_mem_drop h')
    · simp at h'; omega)
  have hm2 : Tm.val ((bs.drop 5).take 2) < 65536 := Tm.val_lt 2 _ (by simp; omega) (fun c hc => h.bytes.2.2.1 c (List.mem_of_mem_drop (List.mem_of_mem_take hc)))
  have V := Lib.hid (And.intro hZ (And.intro hb (And.intro h1 (And.intro hup (And.intro hr hl)))))
  clear hZ hb h h1 hup hr hn hl
  go_enter Tryz.func101, Tryz.ntmps101
  go_wp2_with fail
  generalize w.alloc _ = w2 at *
  refine (bodyBytes_any x0 (by omega) _).mono ?_
  rintro e w' ⟨rfl, rfl⟩
  generalize 7 + nb x0 = q at *
  go_wp2_with fail
  obtain ⟨hZ, hb, h1, hup, hr, hl⟩ := V.out
  have hG := Blk.new w2 272 #[.int .u8 0, .int .u8 0, .int .u8 0, .int .u8 0]
  have hbn := below_new w2 (.cells #[.int .u8 0, .int .u8 0, .int .u8 0, .int .u8 0] 272)
  have hG4 : Blk 272 (w2.alloc (.cells #[.int .u8 0, .int .u8 0, .int .u8 0, .int .u8 0] 272)) w2.heap.size (cls [0, 0, 0, 0]) := hG
  rw [hsz] at hG4
  have hZ2 := hZ.held hbn
  have hb2 := next hb hbn
  have h2 := h1.held hbn
  have hsz2 := size_new w2 (.cells #[.int .u8 0, .int .u8 0, .int .u8 0, .int .u8 0] 272)
  rw [hsz] at hsz2
  clear hG hbn hZ hb h1 V
  generalize w2.alloc (.cells #[.int .u8 0, .int .u8 0, .int .u8 0, .int .u8 0] 272) = W at *
  obtain ⟨A', hA'⟩ : ∃ A' : Option Addr, A' = if cap = 7 then some ⟨b, off, none⟩ else (some (⟨b, off, none⟩ : Addr)).map (·.add 7) := ⟨_, rfl⟩
  obtain ⟨m, hm⟩ : ∃ m, m = n - 7 := ⟨_, rfl⟩
  obtain ⟨c, hc⟩ : ∃ c, c = cap - 7 := ⟨_, rfl⟩
  have s7 := cut_low_run (some ⟨b, off, none⟩) n cap 7 h7 hcap W (z := 7) rfl hA' hm hc
  have s7' := cut_low_run (some ⟨b, off, none⟩) n cap 7 h7 hcap W.drew (z := 7) rfl hA' hm hc
  have hS7 : Sl W.drew A' m c (bs.drop 7) := by
    have := h2.of_part (k := 7) (m := m) (cap' := c) (by omega) (by omega) hA'
    rw [List.take_of_length_le (by rw [List.length_drop, hl]; omega)] at this
    exact ⟨this.bytes, this.cap, this.plain⟩
  obtain ⟨w3, hcp, hG3, hT3⟩ := copy_four (w := W.drew) hG4 hS7 3
  have hbn : b ∉ [w.heap.size + 1] := by simp; omega
  have X := Lib.hid (And.intro (hZ2.drew.turn hT3 (by simp)) (And.intro (hb2.drew.trans (hT3.below (B := w.heap.size) (by simp) (by show w.heap.size ≤ W.heap.size; omega))) (And.intro (h2.drew.turn hT3 hbn) (And.intro hup (And.intro hr (And.intro hG3 (And.intro hT3.size hl)))))))
  clear hG4 hZ2 hb2 h2 hS7 hG3 hT3 hA' hm hc hup hr hl
  clear c0 hsz
  go_region
  obtain ⟨hZ3, hb3, h3, hup, hr, hG3, hT3, hl⟩ := X.out
  have hT3' : w.heap.size + 1 + 1 ≤ w3.heap.size := by rw [← hsz2]; exact hT3
  clear s7 s7' hcp X hT3 hsz2
  have G := gets b off cap (w.heap.size + 1) n bs h7 h3.bytes.2.2.1
  have s1 : ∀ W : World, (Instr.slice 79 (.slice (some ⟨b, off, none⟩) n cap) (some (.int .i64 1)) (some (.int .i64 5)) none).run Tryz.prog W = .ok (.slice (some ⟨b, off + 1, none⟩) 4 (cap - 1)) W := fun W => cut_both_run b off n cap 1 5 (by omega) (by omega) W rfl rfl rfl rfl rfl
  have s5 : ∀ W : World, (Instr.slice 79 (.slice (some ⟨b, off, none⟩) n cap) (some (.int .i64 5)) (some (.int .i64 7)) none).run Tryz.prog W = .ok (.slice (some ⟨b, off + 5, none⟩) 2 (cap - 5)) W := fun W => cut_both_run b off n cap 5 7 (by omega) (by omega) W rfl rfl rfl rfl rfl
  have c0 : w3.cell? ⟨b, off, none⟩ = some (.int .u8 (bs.getD 0 0 : Nat)) := h3.at_ (k := 0) (by omega)
  have hx0 : bs.getD 0 0 = x0 := hxx
  rw [hx0] at c0
  have hBd := h3.drew
  have hBe : Sl (w3.alloc (.cells #[.int .u32 0, .int .i64 0, .int .u32 0, .int .u32 0, .int .u16 0] 123)).drew (some ⟨b, off, none⟩) n cap bs := (h3.held (below_new _ _)).drew
  have hGd : Blk 272 w3.drew (w.heap.size + 1) (cls ((bs.drop 7 ++ [0, 0, 0, 0]).take 4)) := hG3
  have hGe : Blk 272 (w3.alloc (.cells #[.int .u32 0, .int .i64 0, .int .u32 0, .int .u32 0, .int .u16 0] 123)).drew (w.heap.size + 1) (cls ((bs.drop 7 ++ [0, 0, 0, 0]).take 4)) := (hG3.held (below_new _ _)).drew
  have Z := Lib.hid (And.intro hZ3 (And.intro hb3 (And.intro hup (And.intro hr hT3'))))
  clear hZ3 hb3 hup hr hT3'
  generalize Tm.val ((bs.drop 7 ++ [0, 0, 0, 0]).take 4) = av at *
  generalize Tm.val ((bs.drop 1).take 4) = sv at *
  generalize Tm.val ((bs.drop 5).take 2) = mv at *
  have q0 : IntKind.i64.wrap (x0 : Int) = x0 := by rw [IntKind.wrap_i64]; omega
  have q2 : IntKind.u16.wrap (mv : Int) = mv := by simp [IntKind.wrap, IntKind.bits, IntKind.signed]; omega
  replace G := Lib.hid G
  have hn0 : 0 < n := by omega
  have hn1 : (0 : Int) < (n : Int) := by omega
  go_wp2_with fail
  go_region_held3 (fun w' => w'.cell? ⟨b, off, none⟩ = some (.int .u8 (x0 : Nat)))
    (first | exact c0 | exact held (below_new _ _) c0 | go_keep)
    (first | (go_at_call 89; with_reducible refine (G.out.ga _ (by first | exact hGd | exact hGe)).mono ?_; rintro e w' ⟨rfl, rfl⟩)
           | (go_at_call 89; with_reducible refine (G.out.gs _ (by first | exact hBd | exact hBe)).mono ?_; rintro e w' ⟨rfl, rfl⟩)
           | (go_at_call 89; with_reducible refine (G.out.gm _ (by first | exact hBd | exact hBe)).mono ?_; rintro e w' ⟨rfl, rfl⟩))
  all_goals
    obtain ⟨hZ3, hb3, hup, hr, hT3⟩ := Z.out
    have hX : Blk 123 (w3.alloc (.cells #[.int .u32 av, .int .i64 x0, .int .u32 0, .int .u32 sv, .int .u16 mv] 123)).drew w3.heap.size #[.int .u32 av, .int .i64 x0, .int .u32 0, .int .u32 sv, .int .u16 mv] := (Blk.new w3 _ _).drew
    have hY : Blk 123 (w3.alloc (.cells #[.int .u32 av, .int .i64 x0, .int .u32 0, .int .u32 sv, .int .u16 mv] 123)).drew w.heap.size (ucs 0 0 0 0 0) := (hZ3.more _).drew
    have hb4 := (next hb3 (below_new w3 (.cells #[.int .u32 av, .int .i64 x0, .int .u32 0, .int .u32 sv, .int .u16 mv] 123))).drew
    generalize (w3.alloc (.cells #[.int .u32 av, .int .i64 x0, .int .u32 0, .int .u32 sv, .int .u16 mv] 123)).drew = x at *
    have hne : w3.heap.size ≠ w.heap.size := by omega
    have hge : w.heap.size ≤ w3.heap.size := by omega
    clear hZ3 hb3 hT3 Z q0 q2 s1 s5 hBd hBe hGd hGe h3 hG3 c0 hn0 hn1 h7 hcap hmx' d1 hbn hl hbl hx0
    generalize w3.heap.size = g at *
    have c3 : x.cell? ⟨g, 3, none⟩ = some (.int .u32 sv) := hX.at_ 3
    have c4 : x.cell? ⟨g, 4, none⟩ = some (.int .u16 mv) := hX.at_ 4
    have N := Lib.hid (And.intro hup (And.intro hr (And.intro hne (And.intro hX (And.intro hY hb4)))))
    clear hup hr hne hX hY hb4
    cases hm : ((mv : Int) == 65535)
    · have M := Lib.hid hm
      clear hm
      go_wp2_with fail
      refine (lost_eq M.out _).mono ?_
      rintro e x2 ⟨rfl, hb5⟩
      obtain ⟨hup, hr, hne, hX, hY, hb4⟩ := N.out
      have hX2 := (hX.held hb5).store 2 (.int .u32 (id : Int))
      have f2 := (hX.held hb5).free 2
      have c2 := (hX.held hb5).at_ 2
      have hY2 := (hY.held hb5).away (p := ⟨g, 2, none⟩) (by show w.heap.size ≠ g; omega) (.int .u32 (id : Int))
      have hb6 := (next hb4 hb5).setCell (p := ⟨g, 2, none⟩) hge (.int .u32 (id : Int))
      have hm' : ¬ mv = 65535 := fun e => by subst e; cases M.out
      rw [if_neg hm'] at hup
      have N2 := Lib.hid (And.intro hup (And.intro hr (And.intro hne (And.intro hX2 (And.intro hY2 hb6)))))
      clear hup hr hne hX hY hb4 hb5 hX2 hY2 hb6 c3 c4 N M hm'
      go_wp2_with fail
      clear c2 f2
      generalize x2.setCell ⟨g, 2, none⟩ (.int .u32 (id : Int)) = y at *
      obtain ⟨hup, hr, hne, hX, hY, hb4⟩ := N2.out
      have TR := tright_any av x0 id sv mv ha4 y.drew
      rw [← hup, hr] at TR
      have x0c : y.drew.cell? ⟨g, 0, none⟩ = some (.int .u32 av) := hX.at_ 0
      have x1c : y.drew.cell? ⟨g, 1, none⟩ = some (.int .i64 x0) := hX.at_ 1
      have x2c : y.drew.cell? ⟨g, 2, none⟩ = some (.int .u32 id) := hX.at_ 2
      have x3c : y.drew.cell? ⟨g, 3, none⟩ = some (.int .u32 sv) := hX.at_ 3
      have x4c : y.drew.cell? ⟨g, 4, none⟩ = some (.int .u16 mv) := hX.at_ 4
      have Y := Lib.hid (And.intro hY.drew hb4.drew)
      have U := Lib.hid hup
      clear hup hr hne hX hY hb4 N2
      go_region_with (go_at_call 157; refine TR.mono ?_; rintro e y2 ⟨rfl, hb6⟩; have k0 := held hb6 x0c; have k1 := held hb6 x1c; have k2 := held hb6 x2c; have k3 := held hb6 x3c; have k4 := held hb6 x4c; have hY2 := Y.out.1.held hb6; have hb7 := next Y.out.2 hb6; have z0 : y2.cell? ⟨w.heap.size, 0, none⟩ = some (.int .u32 ((0 : Nat) : Int)) := hY2.at_ 0; have z1 : y2.cell? ⟨w.heap.size, 1, none⟩ = some (.int .i64 ((0 : Nat) : Int)) := hY2.at_ 1; have z2 : y2.cell? ⟨w.heap.size, 2, none⟩ = some (.int .u32 ((0 : Nat) : Int)) := hY2.at_ 2; have z3 : y2.cell? ⟨w.heap.size, 3, none⟩ = some (.int .u32 ((0 : Nat) : Int)) := hY2.at_ 3; have z4 : y2.cell? ⟨w.heap.size, 4, none⟩ = some (.int .u16 ((0 : Nat) : Int)) := hY2.at_ 4; have f0 := hY2.free 0; have f1 := hY2.free 1; have f2 := hY2.free 2; have f3 := hY2.free 3; have f4 := hY2.free 4; have Y2 := Lib.hid (And.intro hY2 hb7); clear hb6 hY2 hb7)
      all_goals
        go_wp2_with fail
        have L := ((((Y2.out.1.store 0 (.int .u32 (av : Int))).store 1 (.int .i64 (x0 : Int))).store 2 (.int .u32 (id : Int))).store 3 (.int .u32 (sv : Int))).store 4 (.int .u16 (mv : Int))
        have L2 : Blk 123 _ w.heap.size (ucs av x0 id sv mv) := L
        have eu := U.out
        subst eu
        refine bodyPost_ret (v := .tuple #[.agg (ucs av x0 id sv mv), .bool r]) (results_up (p := 4) (u := 5) (by kernel_rfl) rfl rfl L2) rfl ⟨rfl, ?_⟩
        exact ((((Y2.out.2.setCell (p := ⟨w.heap.size, 0, none⟩) (Nat.le_refl _) _).setCell (p := ⟨w.heap.size, 1, none⟩) (Nat.le_refl _) _).setCell (p := ⟨w.heap.size, 2, none⟩) (Nat.le_refl _) _).setCell (p := ⟨w.heap.size, 3, none⟩) (Nat.le_refl _) _).setCell (p := ⟨w.heap.size, 4, none⟩) (Nat.le_refl _) _
    · have M := Lib.hid hm
      clear hm
      go_wp2_with fail
      refine (lost_eq M.out _).mono ?_
      rintro e y ⟨rfl, hb5⟩
      obtain ⟨hup, hr, hne, hX, hY, hb4⟩ := N.out
      have hm' : mv = 65535 := by have := beq_iff_eq.1 M.out; omega
      rw [if_pos hm'] at hup
      have N2 := Lib.hid (And.intro hup (And.intro hr (And.intro hne (And.intro (hX.held hb5) (And.intro (hY.held hb5) (next hb4 hb5))))))
      clear hup hr hne hX hY hb4 hb5 c3 c4 N M hm'
      go_wp2_with fail
      obtain ⟨hup, hr, hne, hX, hY, hb4⟩ := N2.out
      have TR := tright_any av x0 0 sv mv ha4 y.drew
      rw [← hup, hr] at TR
      have x0c : y.drew.cell? ⟨g, 0, none⟩ = some (.int .u32 av) := hX.at_ 0
      have x1c : y.drew.cell? ⟨g, 1, none⟩ = some (.int .i64 x0) := hX.at_ 1
      have x2c : y.drew.cell? ⟨g, 2, none⟩ = some (.int .u32 ((0 : Nat) : Int)) := hX.at_ 2
      have x3c : y.drew.cell? ⟨g, 3, none⟩ = some (.int .u32 sv) := hX.at_ 3
      have x4c : y.drew.cell? ⟨g, 4, none⟩ = some (.int .u16 mv) := hX.at_ 4
      have Y := Lib.hid (And.intro hY.drew hb4.drew)
      have U := Lib.hid hup
      clear hup hr hne hX hY hb4 N2
      go_region_with (go_at_call 157; refine TR.mono ?_; rintro e y2 ⟨rfl, hb6⟩; have k0 := held hb6 x0c; have k1 := held hb6 x1c; have k2 := held hb6 x2c; have k3 := held hb6 x3c; have k4 := held hb6 x4c; have hY2 := Y.out.1.held hb6; have hb7 := next Y.out.2 hb6; have z0 : y2.cell? ⟨w.heap.size, 0, none⟩ = some (.int .u32 ((0 : Nat) : Int)) := hY2.at_ 0; have z1 : y2.cell? ⟨w.heap.size, 1, none⟩ = some (.int .i64 ((0 : Nat) : Int)) := hY2.at_ 1; have z2 : y2.cell? ⟨w.heap.size, 2, none⟩ = some (.int .u32 ((0 : Nat) : Int)) := hY2.at_ 2; have z3 : y2.cell? ⟨w.heap.size, 3, none⟩ = some (.int .u32 ((0 : Nat) : Int)) := hY2.at_ 3; have z4 : y2.cell? ⟨w.heap.size, 4, none⟩ = some (.int .u16 ((0 : Nat) : Int)) := hY2.at_ 4; have f0 := hY2.free 0; have f1 := hY2.free 1; have f2 := hY2.free 2; have f3 := hY2.free 3; have f4 := hY2.free 4; have Y2 := Lib.hid (And.intro hY2 hb7); clear hb6 hY2 hb7)
      all_goals
        go_wp2_with fail
        have L := ((((Y2.out.1.store 0 (.int .u32 (av : Int))).store 1 (.int .i64 (x0 : Int))).store 2 (.int .u32 ((0 : Nat) : Int))).store 3 (.int .u32 (sv : Int))).store 4 (.int .u16 (mv : Int))
        have L2 : Blk 123 _ w.heap.size (ucs av x0 0 sv mv) := L
        have eu := U.out
        subst eu
        refine bodyPost_ret (v := .tuple #[.agg (ucs av x0 0 sv mv), .bool r]) (results_up (p := 4) (u := 5) (by kernel_rfl) rfl rfl L2) rfl ⟨rfl, ?_⟩
        exact ((((Y2.out.2.setCell (p := ⟨w.heap.size, 0, none⟩) (Nat.le_refl _) _).setCell (p := ⟨w.heap.size, 1, none⟩) (Nat.le_refl _) _).setCell (p := ⟨w.heap.size, 2, none⟩) (Nat.le_refl _) _).setCell (p := ⟨w.heap.size, 3, none⟩) (Nat.le_refl _) _).setCell (p := ⟨w.heap.size, 4, none⟩) (Nat.le_refl _) _
end Go.Proofs.YtkchckeecfalhaaGreat.T

set_option maxRecDepth 20000
namespace Go.Proofs.YtkchckeecfalhaaGreat.T
open Go.RowKit Tm

/-! ### a list that the call makes -/
def ucl (u : Up) : List Value := u.cs.toList
theorem ucl_length (u : Up) : (ucl u).length = 5 := rfl
theorem ucl_one (us : List Up) : ∀ v ∈ us.flatMap ucl, v.oneCell' = true := by
  intro v hv
  obtain ⟨u, -, h⟩ := List.mem_flatMap.1 hv
  simp only [ucl, Up.cs, ucs, List.mem_cons, List.not_mem_nil, or_false] at h
  rcases h with rfl | rfl | rfl | rfl | rfl <;> rfl
theorem flat_length (us : List Up) : (us.flatMap ucl).length = us.length * 5 := by
  induction us with
  | nil => rfl
  | cons u r ih => rw [List.flatMap_cons, List.length_append, ih, ucl_length, List.length_cons]; omega
theorem flat_get {us : List Up} {i j : Nat} (hi : i < us.length) (hj : j < 5) : (us.flatMap ucl)[5 * i + j]? = (us[i].cs)[j]? := by
  induction us generalizing i with
  | nil => simp at hi
  | cons u r ih =>
    rw [List.flatMap_cons]
    cases i with
    | zero => rw [Nat.mul_zero, Nat.zero_add, List.getElem?_append_left (by rw [ucl_length]; exact hj)]; simp [ucl]
    | succ i =>
      rw [List.getElem?_append_right (by rw [ucl_length]; omega), ucl_length, show 5 * (i + 1) + j - 5 = 5 * i + j by omega]
      simpa using ih (by simpa using hi)
theorem infoUp : (Tryz.prog.info? 123).map (fun i => (i.zero, i.size, i.bytes)) = some (some (.agg #[.int .u32 0, .int .i64 0, .int .u32 0, .int .u32 0, .int .u16 0]), 5, 32) := by kernel_rfl
/-- v is a list of the call's own (from block B on) that holds us -/
def Lu (B : Nat) (v : Value) (us : List Up) (W : World) : Prop := W.ownsRow B 123 5 v us.length (us.flatMap ucl) ∧ (v = .slice none 0 0 ↔ us = [])
section
variable {B : Nat} {v : Value} {us : List Up} {W W' : World}
theorem Lu.nil (B : Nat) (W : World) : Lu B (.slice none 0 0) [] W := ⟨⟨rfl, .inl ⟨rfl, rfl⟩⟩, by simp⟩
theorem Lu.of_block (h : Lu B v us W) (hb : ∀ b, v.ownBlock = some b → W'.heap[b]? = W.heap[b]?) : Lu B v us W' := by
  obtain ⟨⟨h1, h2⟩, h3⟩ := h
  refine ⟨⟨h1, ?_⟩, h3⟩
  rcases h2 with h2 | ⟨g, cap, cur, rfl, h4, h5, h6⟩
  · exact .inl h2
  · exact .inr ⟨g, cap, cur, rfl, h4, (hb g rfl).trans h5, h6⟩
theorem Lu.lt (h : Lu B v us W) {b : Nat} (hb : v.ownBlock = some b) : b < W.heap.size ∧ B ≤ b := by
  rcases h.1.2 with ⟨rfl, _⟩ | ⟨g, cap, cur, rfl, h4, h5, _⟩
  · cases hb
  · cases hb
    exact ⟨(Array.getElem?_eq_some_iff.1 h5).1, h4⟩
theorem Lu.held (h : Lu B v us W) (hb : Below W.heap.size W W') : Lu B v us W' := h.of_block fun b e => hb.block b (h.lt e).1
theorem Lu.turn {L : List Nat} (h : Lu B v us W) (t : Turn L W W') (hL : ∀ b, v.ownBlock = some b → b ∉ L) : Lu B v us W' := h.of_block fun b e => t.block b (h.lt e).1 (hL b e)
theorem Lu.form (h : Lu B v us W) : ∃ p cap, v = .slice p us.length cap ∧ us.length ≤ cap := by
  rcases h.1.2 with ⟨rfl, h0⟩ | ⟨g, cap, cur, rfl, _, _, h6, _⟩
  · exact ⟨none, 0, by rw [h0], by omega⟩
  · exact ⟨_, cap, rfl, h6⟩
/-- behind 'append(list, news...)' -/
theorem run_us (h : Lu B v us W) (hB : B ≤ W.heap.size) {ad : Addr} {m c : Nat} {news : List Up} (hm : news.length = m) (hnews : ∀ j u, (news.flatMap ucl)[j]? = some u → W.cell? (ad.add j) = some u) (h0 : 0 < m) (hbig : us.length + m ≤ 100000) (ty : TypeId) :
    ∃ g' cap' W', (Builtin.append_ #[104, 104] ty #[v, .slice (some ad) m c]).run Tryz.prog W = .ok (.slice (some ⟨g', 0, none⟩) (us.length + m) cap') W' ∧ Lu B (.slice (some ⟨g', 0, none⟩) (us.length + m) cap') (us ++ news) W' ∧ W.grownBy W' v.ownBlock ∧ (v.ownBlock = some g' ∨ g' = W.heap.size) := by
  obtain ⟨i0, hi, hz0, hz1, hz2⟩ := info_parts infoUp
  obtain ⟨v', W', hr, hown, hgr, hnil, hat⟩ := run_append_own_at (P := Tryz.prog) W B 104 ty 123 i0 _ 5 32 (by kernel_rfl) hi hz0 hz1 hz2 rfl (by decide) v us.length (us.flatMap ucl) h.1 ad m c (news.flatMap ucl) (by rw [flat_length, hm]) hnews (ucl_one _)
    (by unfold maxLen; omega) (by omega) hB
  have hne : ¬ v' = .slice none 0 0 := fun e => by have := (hnil.1 e).2; omega
  rcases hown.2 with ⟨rfl, _⟩ | ⟨g', cap', cur, rfl, h4, h5, h6, h7, h8, h9⟩
  · exact absurd rfl hne
  · refine ⟨g', cap', W', hr, ⟨⟨by rw [List.length_append, hm, List.flatMap_append]; exact hown.1, .inr ⟨g', cap', cur, by rw [List.length_append, hm], h4, h5, by rw [List.length_append, hm]; exact h6, h7, h8, by rw [List.length_append, hm, List.flatMap_append]; exact h9⟩⟩, ?_⟩, hgr, ?_⟩
    · constructor
      · intro e; cases e
      · intro e
        have : (us ++ news).length = 0 := by rw [e]; rfl
        rw [List.length_append] at this; omega
    · rcases hat with h | h
      · exact .inl (h.symm.trans rfl)
      · exact .inr (by simpa [Value.ownBlock] using h)
end
/-! ### parts -/
theorem pb_false {x : List Nat} {m id : Nat} (h0 : 0 < x.length) (h : pb x = (m, false)) : walk id x = none := by
  match x, h0 with
  | k :: r, _ =>
    unfold pb at h
    simp only [List.getD_cons_zero] at h
    rw [walk.eq_def]
    simp only
    by_cases hk : k = 0
    · rw [if_pos hk] at h; cases h
    · rw [if_neg hk] at h ⊢
      match r with
      | [] => rfl
      | n :: r =>
        simp only [List.length_cons, List.getD_cons_succ, List.getD_cons_zero] at h
        rw [if_neg (by omega)] at h
        have h2 := (Prod.mk.inj h).2
        rw [decide_eq_false_iff_not] at h2
        simp only
        rw [if_pos (by omega)]
theorem pb_true {x : List Nat} {m : Nat} (h0 : 0 < x.length) (h : pb x = (m, true)) : 1 ≤ m ∧ m ≤ x.length ∧ (x.getD 0 0 ≠ 0 → 2 ≤ m ∧ m = 2 + x.getD 1 0) := by
  unfold pb at h
  split at h
  · cases h
    exact ⟨by omega, by omega, fun e => absurd (by assumption) e⟩
  · split at h
    · cases h
    · have h1 := (Prod.mk.inj h).1
      have h2 := (Prod.mk.inj h).2
      rw [decide_eq_true_eq] at h2
      exact ⟨by omega, by omega, fun _ => ⟨by omega, h1.symm⟩⟩
/-- what a part makes of what was named, and what it tells -/
def Tm.named (k : Nat) (body : List Nat) (id : Nat) : Nat := if k = 2 ∧ body.length = 4 then Tm.val body else id
def Tm.says (k : Nat) (body : List Nat) (id : Nat) : List Up := if k = 3 then (told body id).toList else []
theorem walk_pb {x : List Nat} {m id : Nat} (h0 : 0 < x.length) (h : pb x = (m, true)) :
    walk id x = (walk (named (x.getD 0 0) ((x.take m).drop 2) id) (x.drop m)).map (says (x.getD 0 0) ((x.take m).drop 2) id ++ ·) := by
  match x, h0 with
  | k :: r, _ =>
    obtain ⟨h1, h2, h3⟩ := pb_true (by simp) h
    simp only [List.getD_cons_zero, List.length_cons] at h1 h2 h3 ⊢
    by_cases hk : k = 0
    · subst hk
      have hm : m = 1 := by unfold pb at h; simp at h; exact h.symm
      subst hm
      rw [walk_zero]
      simp only [List.drop_succ_cons, List.drop_zero, named, says]
      rw [if_neg (by omega), if_neg (by omega)]
      cases walk id r <;> rfl
    · obtain ⟨h4, h5⟩ := h3 hk
      match r with
      | [] => simp at h2; omega
      | n :: r =>
        simp only [List.getD_cons_succ, List.getD_cons_zero, List.length_cons] at h5 h2
        subst h5
        have e1 : ((k :: n :: r).take (2 + n)).drop 2 = r.take n := by rw [Nat.add_comm]; rfl
        have e2 : (k :: n :: r).drop (2 + n) = r.drop n := by rw [Nat.add_comm]; rfl
        rw [e1, e2]
        have hl : (r.take n).length = n := by rw [List.length_take]; omega
        have := walk_part id k n (r.take n) (r.drop n) hk hl
        rw [List.take_append_drop] at this
        rw [this]
        unfold named says
        rw [hl]
        by_cases k3 : k = 3
        · rw [if_pos k3, if_pos k3, if_neg (by omega)]
        · rw [if_neg k3, if_neg k3]
end Go.Proofs.YtkchckeecfalhaaGreat.T

set_option maxRecDepth 20000
namespace Go.Proofs.YtkchckeecfalhaaGreat.T
open Go.RowKit Tm

theorem cls_set (B : List Nat) (i x : Nat) : (cls B).setIfInBounds i (cell x) = cls (B.set i x) := by
  apply Array.ext_getElem?
  intro j
  simp only [cls, Array.getElem?_setIfInBounds, List.size_toArray, List.length_map, List.getElem?_toArray, List.getElem?_map, List.getElem?_set]
  by_cases h : i = j
  · subst h
    by_cases h2 : i < B.length <;> simp [h2]
  · simp [h]
def set4 (B : List Nat) (o v : Nat) : List Nat := (((B.set o (v / 16777216 % 256)).set (o + 1) (v / 65536 % 256)).set (o + 2) (v / 256 % 256)).set (o + 3) (v % 256)
def set2 (B : List Nat) (o v : Nat) : List Nat := (B.set o (v / 256 % 256)).set (o + 1) (v % 256)
theorem set4_length (B : List Nat) (o v : Nat) : (set4 B o v).length = B.length := by simp [set4]
theorem set2_length (B : List Nat) (o v : Nat) : (set2 B o v).length = B.length := by simp [set2]

set_option maxHeartbeats 1000000 in
theorem putf_any {t : TypeId} {g off cap v : Nat} (hv : v < 4294967296) {B : List Nat} {w : World} (h : Blk t w g (cls B)) (hs : off + 4 ≤ B.length) :
    Calls Tryz.prog 140 #[.slice (some ⟨g, off, none⟩) 4 cap, .int .u32 v] w fun e w' => e = .returned (.tuple #[]) ∧ Blk t w' g (cls (set4 B off v)) ∧ Turn [g] w w' := by
  have fin : ∀ w' : World, w' = (((w.setCell ⟨g, off, none⟩ (cell (v / 16777216 % 256))).setCell ⟨g, off + 1, none⟩ (cell (v / 65536 % 256))).setCell ⟨g, off + 2, none⟩ (cell (v / 256 % 256))).setCell ⟨g, off + 3, none⟩ (cell (v % 256)) →
      Blk t w' g (cls (set4 B off v)) ∧ Turn [g] w w' := fun w' e => by
    subst e
    refine ⟨?_, (((Turn.setCell w (by simp) _).trans (Turn.setCell _ (by simp) _)).trans (Turn.setCell _ (by simp) _)).trans (Turn.setCell _ (by simp) _)⟩
    unfold set4
    rw [← cls_set, ← cls_set, ← cls_set, ← cls_set]
    exact (((h.store _ _).store _ _).store _ _).store _ _
  have C : ∀ k, k < B.length → w.cell? ⟨g, k, none⟩ = some (cell (B.getD k 0)) := fun k hk => (h.at_ k).trans (cls_at B k hk)
  have c0 := C off (by omega)
  have c1 := C (off + 1) (by omega)
  have c2 := C (off + 2) (by omega)
  have c3 := C (off + 3) (by omega)
  have f0 := h.free off
  have f1 := h.free (off + 1)
  have f2 := h.free (off + 2)
  have f3 := h.free (off + 3)
  have F := Lib.hid fin
  clear h C fin hs
  generalize cell (B.getD off 0) = v0 at *
  generalize cell (B.getD (off + 1) 0) = v1 at *
  generalize cell (B.getD (off + 2) 0) = v2 at *
  generalize cell (B.getD (off + 3) 0) = v3 at *
  go_enter Tryz.func140, Tryz.ntmps140
  go_wp2
  refine wp_loop_rounds 5 ?_
  iterate 5
    rw [rounds_succ]
    go_wp2
  go_end0
  refine ⟨rfl, F.out _ ?_⟩
  unfold cell
  rw [show ((v / 16777216 % 256 : Nat) : Int) = (v : Int) / 16777216 by omega, show ((v / 65536 % 256 : Nat) : Int) = (v : Int) / 65536 % 256 by omega, show ((v / 256 % 256 : Nat) : Int) = (v : Int) / 256 % 256 by omega, show ((v % 256 : Nat) : Int) = (v : Int) % 256 by omega]

set_option maxHeartbeats 1000000 in
theorem putt_any {t : TypeId} {g off cap v : Nat} (hv : v < 65536) {B : List Nat} {w : World} (h : Blk t w g (cls B)) (hs : off + 2 ≤ B.length) :
    Calls Tryz.prog 140 #[.slice (some ⟨g, off, none⟩) 2 cap, .int .u32 v] w fun e w' => e = .returned (.tuple #[]) ∧ Blk t w' g (cls (set2 B off v)) ∧ Turn [g] w w' := by
  have fin : ∀ w' : World, w' = (w.setCell ⟨g, off, none⟩ (cell (v / 256 % 256))).setCell ⟨g, off + 1, none⟩ (cell (v % 256)) →
      Blk t w' g (cls (set2 B off v)) ∧ Turn [g] w w' := fun w' e => by
    subst e
    refine ⟨?_, (Turn.setCell w (by simp) _).trans (Turn.setCell _ (by simp) _)⟩
    unfold set2
    rw [← cls_set, ← cls_set]
    exact (h.store _ _).store _ _
  have C : ∀ k, k < B.length → w.cell? ⟨g, k, none⟩ = some (cell (B.getD k 0)) := fun k hk => (h.at_ k).trans (cls_at B k hk)
  have c0 := C off (by omega)
  have c1 := C (off + 1) (by omega)
  have f0 := h.free off
  have f1 := h.free (off + 1)
  have F := Lib.hid fin
  clear h C fin hs
  generalize cell (B.getD off 0) = v0 at *
  generalize cell (B.getD (off + 1) 0) = v1 at *
  go_enter Tryz.func140, Tryz.ntmps140
  go_wp2
  refine wp_loop_rounds 3 ?_
  iterate 3
    rw [rounds_succ]
    go_wp2
  go_end0
  refine ⟨rfl, F.out _ ?_⟩
  unfold cell
  try rw [show ((v / 256 % 256 : Nat) : Int) = (v : Int) / 256 by omega, show ((v % 256 : Nat) : Int) = (v : Int) % 256 by omega]

theorem make_any (n : Nat) (hn : n ≤ 5000) (w : World) : (Instr.makeSlice 79 (.int .i64 (n : Int)) (.int .i64 (n : Int))).run Tryz.prog w = .ok (.slice (some ⟨w.heap.size, 0, none⟩) n n) (w.alloc (.cells (cls (List.replicate n 0)) 5)) := by
  obtain ⟨i, h1, h2, h3, h4⟩ := info_parts byte_parts
  have h := run_make (P := Tryz.prog) w 79 5 i _ (by kernel_rfl) h1 h2 .i64 .i64 (n : Int) (n : Int) (by omega) (by omega) (by rw [h4]; omega) (by omega)
  rw [h]
  simp only [Int.toNat_natCast, h3, Nat.mul_one]
  congr 3
  apply Array.ext
  · simp [madeCells, cls]
  · intro k h5 h6
    simp [madeCells, cls, cell, Value.cells, Nat.mod_one]

/-- 'copy(b[7:], a[:])' -/
theorem copy_tail {w : World} {g ga L : Nat} {B : List Nat} {a : Nat} (hg : Blk 5 w g (cls B)) (hB : B.length = L) (h7 : 7 ≤ L) (h11 : L ≤ 11) (ha : Blk 272 w ga (cls (four a))) {A' : Option Addr} (hA : A' = if L = 7 then some ⟨g, 0, none⟩ else (some (⟨g, 0, none⟩ : Addr)).map (·.add 7)) {m c : Nat} (hm : m = L - 7) (ty : TypeId) :
    ∃ w', (Builtin.copy_ #[79, 79] ty #[.slice A' m c, .slice (some ⟨ga, 0, none⟩) 4 4]).run Tryz.prog w = .ok (.int .i64 (m : Nat)) w' ∧ Blk 5 w' g (cls (B.take 7 ++ (four a).take m)) ∧ Turn [g] w w' := by
  by_cases h0 : L = 7
  · have hm0 : m = 0 := by omega
    subst hm0
    have e : B.take 7 ++ (four a).take 0 = B := by rw [List.take_zero, List.append_nil, List.take_of_length_le (by omega)]
    rw [e]
    refine ⟨w, ?_, hg, .refl _ _⟩
    rw [run_copy_none (P := Tryz.prog) w 79 79 ty 5 A' (some ⟨ga, 0, none⟩) 0 c 4 4 (by kernel_rfl) u8_info (by simp)]
    rfl
  · rw [if_neg h0] at hA
    simp only [Option.map_some, Addr.add_mid, Nat.zero_add] at hA
    subst hA
    have hm4 : m ≤ 4 := by omega
    have hl : (((four a).take m).map cell).length = m := by simp [four_length]; omega
    have hrun := run_copy_row (P := Tryz.prog) w 79 79 ty 5 g 7 m c ⟨ga, 0, none⟩ 4 4 (cls B) 5 (((four a).take m).map cell) (by kernel_rfl) u8_info hg (by rw [hl]; exact (Nat.min_eq_right hm4).symm)
      (fun j v hv => by
        rw [Addr.add_mid, Nat.zero_add, ha.at_ j]
        rw [List.getElem?_map, List.getElem?_take] at hv
        split at hv
        · simpa [cls] using hv
        · cases hv) (by rw [hl]; simp [cls]; omega) (cell_one _)
    refine ⟨_, ?_, setRow_heap w g _ _ _ _ hg, ⟨rfl, rfl, rfl, by simp [World.setRow], fun i _ hn => setRow_other w g i _ (by simpa using hn)⟩⟩
    rw [hrun, hl]
    congr 1
    congr 1
    rw [show cls (B.take 7 ++ (four a).take m) = ((B.take 7 ++ (four a).take m).map cell).toArray from rfl]
    congr 1
    have hz : (cls B).toList = B.map cell := by simp [cls]
    rw [hz, List.map_append, List.map_take, List.map_take, List.drop_of_length_le (by simp; omega), List.append_nil]
end Go.Proofs.YtkchckeecfalhaaGreat.T

