/-
  NetFull: however many ticks, no more datagrams are under way than may be. No condition.
-/
import Derived.Test.YtkchckeecfalhaaGreatS30
import Derived.Test.YtkchckeecfalhaaGreatRows
import Derived.WalkKit
import Derived.ProofKit
import Derived.OpenShut
import Derived.Carry
import Derived.Deep.Slices
import Derived.Deep.Fields
import Derived.ChangeSame
import Derived.Lib.SmallJoins
import Derived.JoinedOf
import Derived.KernelRfl
-- NtK
namespace Go.Proofs.YtkchckeecfalhaaGreat
open Go.RowKit Go.Maps Rm
attribute [local go_sem] Oper.semAt_some

section
variable {w : World} {N MB n : Nat} {ms : Nat → Ma} {v : Value} {xs : List Pe} {os : List (Nat × Nat × List Nat)}
theorem net_waits_out (h : Nw w N MB n ms v xs os) {z : Int} (hz : ¬ (0 ≤ z ∧ z < (os.length : Int))) : Calls Tryz.prog 85 #[.pointer (some ⟨N, 0, none⟩), .int .i64 z] w fun e w' => e = .returned (.bool false) ∧ w' = w :=
  (net_waits h z).mono fun _ _ ⟨he, hw⟩ => ⟨by rw [he, decide_eq_false hz], hw⟩
theorem net_again_out (h : Nw w N MB n ms v xs os) {z : Int} (hz : ¬ (0 ≤ z ∧ z < (os.length : Int))) : Calls Tryz.prog 38 #[.pointer (some ⟨N, 0, none⟩), .int .i64 z] w fun e w' => e = .returned (.int .i64 2) ∧ w' = w := by
  have HS := net_waits_out h hz
  clear h hz
  go_enter Tryz.func38, Tryz.ntmps38
  go_wp2_with fail
  refine HS.mono ?_
  rintro e w2 ⟨rfl, rfl⟩
  go_wp2_with fail
  go_ret
  exact ⟨rfl, rfl⟩
set_option maxRecDepth 100000 in
set_option maxHeartbeats 1000000 in
theorem net_again (h : Nw w N MB n ms v xs os) (hlen : os.length ≤ 256) {k : Nat} (hk : k < os.length) : Calls Tryz.prog 38 #[.pointer (some ⟨N, 0, none⟩), .int .i64 k] w fun e w' => e = .returned (.int .i64 0) ∧
    ∃ v' xs', Nw w' N MB n ms v' xs' (sent1 os[k].1 os os[k].2) ∧ Turn (N :: v.ownBlock.toList) w w' ∧ (∀ b, v'.ownBlock = some b → v.ownBlock = some b ∨ w.heap.size ≤ b) := by
  have hkx : k < xs.length := by rw [h.wy.len]; exact hk
  obtain ⟨a1, a2, a3, a4, a5⟩ := h.wy.row k hkx hk
  have HW := net_waits_in h hk
  have HS := net_send h (a := os[k].1) (b := os[k].2.1) a4 a5 (h.apart _ (.inr ⟨_, List.getElem_mem hkx, rfl⟩)) hlen
  have hin : (k : Int) < (os.length : Int) := by omega
  obtain ⟨g0, cap0, rfl, h1, h2, hc⟩ := h.wy.own.at_ elemW.len hkx
  have hsm : os.length ≤ maxLen := by have := h.wy.len; omega
  unfold maxLen at hsm
  have q0 : w.cell? ⟨g0, k * 3, none⟩ = some (.int .i64 xs[k].frm) := hc 0 (by omega)
  have q1 : w.cell? ⟨g0, k * 3 + 1, none⟩ = some (.int .i64 xs[k].dst) := hc 1 (by omega)
  have q2 : w.cell? ⟨g0, k * 3 + 2, none⟩ = some (.slice (some ⟨xs[k].g, 0, none⟩) xs[k].n xs[k].cap) := hc 2 (by omega)
  have c0 : w.cell? ⟨N, 1, none⟩ = some (.slice (some ⟨g0, 0, none⟩) xs.length cap0) := h.nt.head.at_ 1
  rw [h.wy.len] at c0
  rw [a1] at q0
  rw [a2] at q1
  rw [a3] at q2
  clear hc h1 h2 h a1 a2 a3 a4 a5
  go_enter Tryz.func38, Tryz.ntmps38
  go_wp2_with fail
  refine HW.mono ?_
  rintro e w2 ⟨rfl, rfl⟩
  clear HW
  go_wp2_with fail
  refine HS.mono ?_
  rintro e w3 ⟨rfl, ⟨v', xs', g1, g2, g3, g4⟩⟩
  have R := Lib.hid (And.intro g1 (And.intro g2 g3))
  clear g1 g2 g3 g4 HS q0 q1 q2 c0
  go_wp2_with fail
  go_ret
  exact ⟨rfl, v', xs', R.out.1, R.out.2.1, fun b e => by
    rcases R.out.2.2 with e2 | ⟨b', e2, hb⟩
    · exact .inl (by rw [← e2]; exact e)
    · rw [e2] at e; cases e; exact .inr hb⟩
end
end Go.Proofs.YtkchckeecfalhaaGreat

-- NvA
namespace Go.Proofs.YtkchckeecfalhaaGreat
open Go.RowKit Go.Maps Rm

section
variable {w0 w w' : World} {N n : Nat} {st : Nat → Sv} {os : List Dg}
theorem Bn.len (h : Bn w0 w N n st os) : os.length ≤ 256 := by
  obtain ⟨MB, ms, v, xs, hW, hst, b1, b2, b3, b4, hB, hl⟩ := h.ex
  exact hl
end
end Go.Proofs.YtkchckeecfalhaaGreat

-- NvB
namespace Go.Proofs.YtkchckeecfalhaaGreat
open Go.RowKit Go.Maps Rm Fm Sb

section
variable {w0 w w' : World} {N n : Nat} {st : Nat → Sv} {os : List Dg}
theorem bn_again (h : Bn w0 w N n st os) {k : Nat} (hk : k < os.length) : Calls Tryz.prog 38 #[.pointer (some ⟨N, 0, none⟩), .int .i64 k] w fun e w' => e = .returned (.int .i64 0) ∧ Bn w0 w' N n st (sent1 os[k].1 os os[k].2) := by
  obtain ⟨MB, ms, v, xs, hW, hst, b1, b2, b3, b4, hB, hl⟩ := h.ex
  refine (net_again hW hl hk).mono ?_
  rintro e w' ⟨rfl, v', xs', hW', t, hv⟩
  refine ⟨rfl, MB, ms, v', xs', hW', hst, b1, b2, b3, fun x hx => ?_, hB.trans (t.below (fun y hy => ?_) hB.size), sent1_len _ hl⟩
  · rcases hv x hx with e | e
    · exact b4 x e
    · exact Nat.le_trans hB.size e
  · rcases List.mem_cons.1 hy with e | e
    · rw [e]; exact b1
    · exact b4 y (by simpa using e)
theorem bn_again_out (h : Bn w0 w N n st os) {z : Int} (hz : ¬ (0 ≤ z ∧ z < (os.length : Int))) : Calls Tryz.prog 38 #[.pointer (some ⟨N, 0, none⟩), .int .i64 z] w fun e w' => e = .returned (.int .i64 2) ∧ w' = w := by
  obtain ⟨MB, ms, v, xs, hW, hst, b1, b2, b3, b4, hB, hl⟩ := h.ex
  exact net_again_out hW hz
end
end Go.Proofs.YtkchckeecfalhaaGreat

-- NvM
namespace Go.Proofs.YtkchckeecfalhaaGreat
open Go.RowKit Go.Maps Rm Fm Sb

section
variable {p : Pk} {d id : Nat} {c : Nat → Int} {now : Int} {seq : Nat} {since : Int} {lease : Nat}
theorem Mo1.advN_le (h : ¬ (seq ≠ 0 ∧ now - since < 12)) {nx : Nat} (hn : (if seq = 0 then lease + 1 else seq + 1) = nx) : (Mo1 p d id c now seq since lease).advN ≤ if nx ≤ lease then 0 else 1 := by
  have e : (Mo1 p d id c now seq since lease).next = nx := hn
  unfold Mr.advN
  rw [if_neg (show ¬ ((Mo1 p d id c now seq since lease).seq ≠ 0 ∧ (Mo1 p d id c now seq since lease).now - (Mo1 p d id c now seq since lease).since < 12) from h), e]
  show (if nx ≤ 1073741824 then (if nx ≤ lease then 0 else 1) else 0) ≤ _
  split
  · exact Nat.le_refl _
  · omega
end
section
variable {d id : Nat} {c : Nat → Int} {now : Int}
end
end Go.Proofs.YtkchckeecfalhaaGreat

-- NvJ
/-
  NetFull: all machines linked, and what one of them that ticks alone makes.
-/
namespace Go.Proofs.YtkchckeecfalhaaGreat
open Go.RowKit Go.Maps Rm Fm Sb

/-- what a link of machine j to q costs, when the first i machines and the pairs of i with less than k are linked -/
def cF (i k j : Nat) : Nat → Int := fun q => if (j < i ∧ q < i ∧ j ≠ q) ∨ (j = i ∧ q < k) ∨ (q = i ∧ j < k) then 1 else 0
/-- the machines, when the first r run -/
def fS (d : Nat → Nat) (r i k : Nat) : Nat → Sv := fun j => if j < r then svS (d j) (j + 1) 31 90000 (cF i k j) (fun _ => none) 0 (z31 j) else svD (d j) (fun _ => 0) (z31 j)
theorem fS_in {d : Nat → Nat} {r i k j : Nat} (h : j < r) : fS d r i k j = svS (d j) (j + 1) 31 90000 (cF i k j) (fun _ => none) 0 (z31 j) := by unfold fS; rw [if_pos h]
theorem fS_out {d : Nat → Nat} {r i k j : Nat} (h : ¬ j < r) : fS d r i k j = svD (d j) (fun _ => 0) (z31 j) := by unfold fS; rw [if_neg h]
theorem cF_new (i : Nat) : cF i 0 i = fun _ => 0 := by
  funext q
  unfold cF
  rw [if_neg (by omega)]
theorem cF_end (i j : Nat) : cF i i j = cF (i + 1) 0 j := by
  funext q
  unfold cF
  by_cases h : (j < i ∧ q < i ∧ j ≠ q) ∨ (j = i ∧ q < i) ∨ (q = i ∧ j < i)
  · rw [if_pos h, if_pos (by omega)]
  · rw [if_neg h, if_neg (by omega)]
theorem cF_link {i k : Nat} (hk : k < i) : (fun q => if q = k then 1 else cF i k i q) = cF i (k + 1) i ∧ (fun q => if q = i then 1 else cF i k k q) = cF i (k + 1) k ∧ ∀ j, j ≠ i → j ≠ k → cF i k j = cF i (k + 1) j := by
  refine ⟨?_, ?_, fun j h1 h2 => ?_⟩
  · funext q
    unfold cF
    by_cases e : q = k
    · rw [if_pos e, if_pos (by omega)]
    · rw [if_neg e]
      by_cases h : (i < i ∧ q < i ∧ i ≠ q) ∨ (i = i ∧ q < k) ∨ (q = i ∧ i < k)
      · rw [if_pos h, if_pos (by omega)]
      · rw [if_neg h, if_neg (by omega)]
  · funext q
    unfold cF
    by_cases e : q = i
    · rw [if_pos e, if_pos (by omega)]
    · rw [if_neg e]
      by_cases h : (k < i ∧ q < i ∧ k ≠ q) ∨ (k = i ∧ q < k) ∨ (q = i ∧ k < k)
      · rw [if_pos h, if_pos (by omega)]
      · rw [if_neg h, if_neg (by omega)]
  · funext q
    unfold cF
    by_cases h : (j < i ∧ q < i ∧ j ≠ q) ∨ (j = i ∧ q < k) ∨ (q = i ∧ j < k)
    · rw [if_pos h, if_pos (by omega)]
    · rw [if_neg h, if_neg (by omega)]
section
variable {w0 w : World} {N n : Nat} {d : Nat → Nat} {i k : Nat}
theorem full_new (h : Bn w0 w N n (fun i => ⟨d i, none, fun _ => 0, ⟨i + 1, 31, sm0⟩⟩) []) : Bn w0 w N n (fS d 0 0 0) [] := h.same fun j _ => by
  rw [fS_out (by omega)]
  rfl
theorem full_boot (h : Bn w0 w N n (fS d i i 0) []) (hi : i < n) : Calls Tryz.prog 22 #[.pointer (some ⟨N, 0, none⟩), .int .i64 i] w fun e w' => e = .returned (.int .i64 0) ∧ Bn w0 w' N n (fS d (i + 1) i 0) [] := by
  refine (bn_boot h hi (d := d i) (room := 31) (sm := sm0) (c := fun _ => 0) (fS_out (by omega)) (fun _ => ⟨by decide, by decide⟩)).mono ?_
  rintro e w' ⟨rfl, h2⟩
  rw [mrB_zero] at h2
  refine ⟨rfl, h2.same fun j _ => ?_⟩
  by_cases e : j = i
  · subst e
    rw [sets_same, fS_in (by omega), cF_new]
    rfl
  · rw [sets_other e]
    by_cases hj : j < i
    · rw [fS_in hj, fS_in (by omega)]
    · rw [fS_out hj, fS_out (by omega)]
theorem full_link (h : Bn w0 w N n (fS d (i + 1) i k) []) (hi : i < n) (hk : k < i) : Calls Tryz.prog 23 #[.pointer (some ⟨N, 0, none⟩), .int .i64 i, .int .i64 k, .int .i64 1] w fun e w' => e = .returned (.int .i64 0) ∧ Bn w0 w' N n (fS d (i + 1) i (k + 1)) [] := by
  refine (bn_link h hi (b := k) (by omega) (by omega) (cost := 1) (by omega) (by omega)).mono ?_
  rintro e w' ⟨rfl, h2⟩
  have hc := cF_link hk
  refine ⟨rfl, h2.same fun j _ => ?_⟩
  by_cases e : j = k
  · subst e
    rw [sets_same, fS_in (by omega), fS_in (by omega), ← hc.2.1]
    show Sv.mk _ (some ⟨_, _, Mr.link (Ms _ _ _ _ _) _ 1⟩) _ _ = _
    rw [link_ms]
    rfl
  · rw [sets_other e]
    by_cases e2 : j = i
    · subst e2
      rw [sets_same, fS_in (by omega), fS_in (by omega), ← hc.1]
      show Sv.mk _ (some ⟨_, _, Mr.link (Ms _ _ _ _ _) _ 1⟩) _ _ = _
      rw [link_ms]
      rfl
    · rw [sets_other e2]
      by_cases hj : j < i + 1
      · rw [fS_in hj, fS_in hj, hc.2.2 j e2 e]
      · rw [fS_out hj, fS_out hj]
theorem full_next (h : Bn w0 w N n (fS d (i + 1) i i) []) : Bn w0 w N n (fS d (i + 1) (i + 1) 0) [] := h.same fun j _ => by
  by_cases hj : j < i + 1
  · rw [fS_in hj, fS_in hj, cF_end]
  · rw [fS_out hj, fS_out hj]
/-! ### ticks of the one that owns -/
/-- behind t ticks: the number, since when, the lease -/
def qSq (i : Nat) : Nat := (i + 11) / 12
def qSi (i : Nat) : Int := if i = 0 then 0 else 12 * (((i - 1) / 12 : Nat) : Int) + 1
def qLs (i : Nat) : Nat := (qSq i + 7) / 8 * 8
def fO (d : Nat → Nat) (n t : Nat) : Nat → Sv := fun j => if j = 0 then svO (pz 0) (d 0) 1 (30 - qLs t / 8) 90000 (cF n 0 0) t (qSq t) (qSi t) (qLs t) (z31 0) else svS (d j) (j + 1) 31 90000 (cF n 0 j) (fun _ => none) 0 (z31 j)
theorem fO_zero (d : Nat → Nat) (n t : Nat) : fO d n t 0 = svO (pz 0) (d 0) 1 (30 - qLs t / 8) 90000 (cF n 0 0) t (qSq t) (qSi t) (qLs t) (z31 0) := rfl
theorem fO_other (d : Nat → Nat) (n t : Nat) {j : Nat} (h : j ≠ 0) : fO d n t j = svS (d j) (j + 1) 31 90000 (cF n 0 j) (fun _ => none) 0 (z31 j) := by unfold fO; rw [if_neg h]
theorem full_step {p : Pk} {dd id : Nat} {c : Nat → Int} {i : Nat} (hi : i < 127) : ∃ m, (Mo1 p dd id c ((i : Int) + 1) (qSq i) (qSi i) (qLs i)).advance = Mo1 p dd id c ((i : Int) + 1) (qSq (i + 1)) (qSi (i + 1)) (qLs (i + 1)) ∧ (Mo1 p dd id c ((i : Int) + 1) (qSq i) (qSi i) (qLs i)).advN ≤ m ∧ 30 - qLs i / 8 = (30 - qLs (i + 1) / 8) + m := by
  by_cases hstay : i ≠ 0 ∧ i % 12 ≠ 0
  · have e1 : qSq (i + 1) = qSq i := by unfold qSq; omega
    have e2 : qSi (i + 1) = qSi i := by unfold qSi; rw [if_neg (by omega), if_neg hstay.1]; omega
    have e3 : qLs (i + 1) = qLs i := by unfold qLs; rw [e1]
    have hc : qSq i ≠ 0 ∧ (i : Int) + 1 - qSi i < 12 := by
      refine ⟨by unfold qSq; omega, ?_⟩
      unfold qSi
      rw [if_neg hstay.1]
      omega
    refine ⟨0, ?_, ?_, by rw [e3]; omega⟩
    · rw [e1, e2, e3]
      exact Mo1.next_big hc
    · rw [Mo1.advN_zero hc]
      exact Nat.le_refl _
  · have hk : ∃ k, i = 12 * k := ⟨i / 12, by omega⟩
    obtain ⟨k, rfl⟩ := hk
    have q1 : qSq (12 * k) = k := by unfold qSq; omega
    have q2 : qSq (12 * k + 1) = k + 1 := by unfold qSq; omega
    have q3 : qSi (12 * k + 1) = ((12 * k : Nat) : Int) + 1 := by unfold qSi; rw [if_neg (by omega)]; omega
    have q4 : qLs (12 * k) = (k + 7) / 8 * 8 := by unfold qLs; rw [q1]
    have q5 : qLs (12 * k + 1) = (k + 8) / 8 * 8 := by unfold qLs; rw [q2]
    have hc : ¬ (qSq (12 * k) ≠ 0 ∧ ((12 * k : Nat) : Int) + 1 - qSi (12 * k) < 12) := by
      rintro ⟨h1, h2⟩
      rw [q1] at h1
      unfold qSi at h2
      rw [if_neg (by omega)] at h2
      omega
    have hn : (if qSq (12 * k) = 0 then qLs (12 * k) + 1 else qSq (12 * k) + 1) = k + 1 := by
      rw [q1, q4]
      split
      · omega
      · rfl
    refine ⟨if k + 1 ≤ qLs (12 * k) then 0 else 1, ?_, Mo1.advN_le hc hn, ?_⟩
    · rw [Mo1.advance_to hc hn (by omega), q2, q3]
      congr 1
      rw [q4, q5]
      split
      · omega
      · omega
    · rw [q4, q5]
      split
      · omega
      · omega
theorem sent1_count {frm : Nat} {os : List Dg} (x : Nat × List Nat) (h : os.length ≤ 256) : (sent1 frm os x).length = min (os.length + 1) 256 := by
  unfold sent1
  split
  · simp; omega
  · omega
theorem sendAll_count {frm : Nat} : ∀ (ds : List (Nat × List Nat)) (os : List Dg), os.length ≤ 256 → (sendAll frm os ds).length = min (os.length + ds.length) 256
  | [], os, h => by show os.length = _; simp; omega
  | x :: r, os, h => by
    show (sendAll frm (sent1 frm os x) r).length = _
    have h1 := sent1_count (frm := frm) x h
    rw [sendAll_count r _ (by omega), h1, List.length_cons]
    omega
theorem full_sends {n : Nat} (h2 : 2 ≤ n) (h5 : n ≤ 5) (b : List Nat) : (sends (cF n 0 0) [b] 8).length = n - 1 := by
  have : n = 2 ∨ n = 3 ∨ n = 4 ∨ n = 5 := by omega
  rcases this with rfl | rfl | rfl | rfl <;> simp [sends, cF, List.range_succ]
theorem full_own (h : Bn w0 w N n (fS d n n 0) []) (hn : 0 < n) : Calls Tryz.prog 31 #[.pointer (some ⟨N, 0, none⟩), .int .i64 0, .agg #[.int .u32 ((167772160 + 0 * 65536 : Nat) : Int), .int .i64 16], .bool true] w fun e w' => e = .returned (.int .i64 0) ∧ Bn w0 w' N n (fO d n 0) [] := by
  refine Calls.mono (show Calls Tryz.prog 31 #[.pointer (some ⟨N, 0, none⟩), .int .i64 0, .agg #[.int .u32 ((167772160 + 0 * 65536 : Nat) : Int), .int .i64 16], .bool true] w _ from bn_own_ms h (i := 0) hn (room := 30) (fS_in hn) (k := 0) (by omega)) ?_
  rintro e w' ⟨rfl, h2⟩
  refine ⟨rfl, h2.same fun j hj => ?_⟩
  by_cases e : j = 0
  · subst e
    rw [sets_same, fO_zero]
    rfl
  · rw [sets_other e, fO_other d n 0 e, fS_in hj]
theorem full_tick {t : Nat} {os : List Dg} (h : Bn w0 w N n (fO d n t) os) (h2 : 2 ≤ n) (h5 : n ≤ 5) (ht : t < 127) : Calls Tryz.prog 34 #[.pointer (some ⟨N, 0, none⟩), .int .i64 0] w fun e w' => e = .returned (.int .i64 0) ∧ ∃ os', os'.length = min (os.length + (n - 1)) 256 ∧ Bn w0 w' N n (fO d n (t + 1)) os' := by
  obtain ⟨m, hadv, hN, hroom⟩ := full_step (p := pz 0) (dd := d 0) (id := 1) (c := cF n 0 0) ht
  have hl := h.len
  have e0 := fO_zero d n t
  rw [hroom] at e0
  have hq : qSq (t + 1) = t / 12 + 1 := by unfold qSq; omega
  refine Calls.mono (show Calls Tryz.prog 34 #[.pointer (some ⟨N, 0, none⟩), .int .i64 0] w _ from bn_tick_mo h (i := 0) (by omega) e0 (pz_ok (by omega)) (by omega) (by unfold qLs qSq; omega) hadv (by omega) hN) ?_
  rintro e w' ⟨rfl, h3⟩
  rw [pg_enc (pz_right (by omega)) (by omega) (by omega)] at h3
  refine ⟨rfl, _, ?_, h3.same fun j hj => ?_⟩
  · rw [sendAll_count _ _ hl, full_sends h2 h5]
  · by_cases e : j = 0
    · subst e
      rw [sets_same, fO_zero]
      rfl
    · rw [sets_other e, fO_other d n t e, fO_other d n (t + 1) e]
end
end Go.Proofs.YtkchckeecfalhaaGreat

-- NvK
/-
  NetFull: its walk.
-/
namespace Go.Proofs.YtkchckeecfalhaaGreat
open Go.RowKit Go.Maps Rm Fm Sb
attribute [local go_sem] Oper.semAt_some

theorem same_min {L P : Nat} (h : L = min P 256) : ((L : Int) != min (P : Int) 256) = false := by
  have e : (L : Int) = min (P : Int) 256 := by omega
  rw [e]
  simp
theorem count_next {k m P L0 L : Nat} (hP2 : P = k * m + m) (h0 : L0 = min (k * m) 256) (h1 : L = min (L0 + m) 256) : L = min P 256 := by
  generalize k * m = q at *
  omega
theorem same_min2 {j M : Nat} (h : M = min (j + 2) 256) : ((M : Int) == min ((j : Int) + 1 + 1) 256) = true := by
  have e : (M : Int) = min ((j : Int) + 1 + 1) 256 := by omega
  rw [e]
  simp
theorem again_of {w0 w : World} {N n j : Nat} {st : Nat → Sv} (h : ∃ os, os.length = j + 1 ∧ Bn w0 w N n st os) : Calls Tryz.prog 38 #[.pointer (some ⟨N, 0, none⟩), .int .i64 (j : Int)] w fun e w' => e = .returned (.int .i64 0) ∧ ∃ (M : Nat), Hid (M = min (j + 2) 256) ∧ Hid (∃ os, os.length = M ∧ Bn w0 w' N n st os) := by
  obtain ⟨os, hl, h⟩ := h
  have h2 := h.len
  refine (bn_again h (k := j) (by omega)).mono ?_
  rintro e w' ⟨rfl, h3⟩
  exact ⟨rfl, _, Lib.hid (by rw [sent1_count _ h2, hl]), Lib.hid ⟨_, rfl, h3⟩⟩
theorem lose_of {w0 w : World} {N n j M : Nat} {st : Nat → Sv} (hM : M = min (j + 2) 256) (h : ∃ os, os.length = M ∧ Bn w0 w N n st os) : Calls Tryz.prog 39 #[.pointer (some ⟨N, 0, none⟩), .int .i64 0] w fun e w' => e = .returned (.int .i64 0) ∧ Hid (Below w0.heap.size w0 w') := by
  obtain ⟨os, hl, h⟩ := h
  refine Calls.mono (show Calls Tryz.prog 39 #[.pointer (some ⟨N, 0, none⟩), .int .i64 0] w _ from bn_lose h (k := 0) (by omega)) ?_
  rintro e w' ⟨rfl, h2⟩
  exact ⟨rfl, Lib.hid h2.below⟩
theorem waiting_of {w0 w : World} {N n L : Nat} {st : Nat → Sv} (h : ∃ os, os.length = L ∧ Bn w0 w N n st os) : Calls Tryz.prog 36 #[.pointer (some ⟨N, 0, none⟩)] w fun e w' => e = .returned (.int .i64 (L : Int)) ∧ w' = w := by
  obtain ⟨os, rfl, h⟩ := h
  exact bn_waiting h
set_option maxRecDepth 20000 in
set_option maxHeartbeats 4000000 in
theorem full_walk (a t : Int) (w : World) : Calls Tryz.prog 6 #[.int .i64 a, .int .i64 t] w fun e w' => e = .returned (.bool true) ∧ Below w.heap.size w w' := by
  obtain ⟨c, hc, hmask⟩ := mask_low a 3 (by omega)
  replace hmask : bits .and .i64 a 3 = (c : Int) := hmask
  obtain ⟨tk, htk, hmask2⟩ := mask_low t 127 (by omega)
  replace hmask2 : bits .and .i64 t 127 = (tk : Int) := hmask2
  obtain ⟨n, hn⟩ : ∃ n : Nat, 2 + c = n := ⟨_, rfl⟩
  have HZ := Lib.hid (show 2 + (c : Int) = (n : Int) by omega)
  have hn2 : 2 ≤ n := by omega
  have hn5 : n ≤ 5 := by omega
  have hwr : wrap64 (2 + (c : Int)) = 2 + (c : Int) := IntWalk.wrap64_in _ (by omega)
  go_enter Tryz.func6, Tryz.ntmps6
  go_wp2_with fail
  refine (net_head w).mono ?_
  rintro e w1 ⟨rfl, hb1⟩
  have HB1 := Lib.hid hb1
  have HN := bn_new n (by omega) (by omega) 64 (by omega) (by omega) w1
  replace HN : Calls Tryz.prog 18 #[.int .i64 (n : Int), .int .i64 64] w1 fun e w' => ∃ (N : Nat) (d : Nat → Nat), e = .returned (.pointer (some ⟨N, 0, none⟩)) ∧ Bn w1 w' N n (fun i => ⟨d i, none, fun _ => 0, ⟨i + 1, 31, sm0⟩⟩) [] := HN
  clear hb1 hn hc
  go_wp2_with fail
  rw [HZ.out, IntWalk.wrap64_in (n : Int) (by omega)]
  clear hwr hmask hmask2 HZ
  refine HN.mono ?_
  rintro e w2 ⟨N, d, rfl, h1⟩
  have H0 := Lib.hid (full_new h1)
  clear HN h1
  go_wp2_with fail
  go_loopw [6] (fun i wr => ∃ k : Nat, i = .int .i64 k ∧ k ≤ n ∧ Hid (Bn w1 wr N n (fS d k k 0) [])) (fun i _ => n - (intOf i).toNat)
  case atStart => exact ⟨0, rfl, Nat.zero_le _, H0⟩
  case round =>
    clear H0
    obtain ⟨i, rfl, hi, S⟩ := hrel
    by_cases hin : i < n
    · have hiz : (i : Int) < (n : Int) := by omega
      have HBt := full_boot S.out hin
      clear S
      go_wp2_with fail
      refine HBt.mono ?_
      rintro e w3 ⟨rfl, h3⟩
      have H3 := Lib.hid h3
      clear HBt h3
      go_wp2_with fail
      go_loopw [7] (fun j wr2 => ∃ k : Nat, j = .int .i64 k ∧ k ≤ i ∧ Hid (Bn w1 wr2 N n (fS d (i + 1) i k) [])) (fun j _ => i - (intOf j).toNat)
      case atStart => exact ⟨0, rfl, Nat.zero_le _, H3⟩
      case round =>
        clear H3
        obtain ⟨k, rfl, hk, S2⟩ := hrel
        by_cases hki : k < i
        · have hkz : (k : Int) < (i : Int) := by omega
          have HL := full_link S2.out hin hki
          clear S2
          go_wp2_with fail
          refine HL.mono ?_
          rintro e w4 ⟨rfl, h4⟩
          have H4 := Lib.hid h4
          clear HL h4
          go_wp2_with fail
          go_roundw
          case rel => exact ⟨k + 1, by go_num, by omega, H4⟩
          case measure => simp [intOf]; omega
        · obtain rfl : k = i := by omega
          have H4 := Lib.hid (full_next S2.out)
          clear S2
          go_wp2_with fail
          go_roundw
          case rel => exact ⟨k + 1, by go_num, by omega, H4⟩
          case measure => simp [intOf]; omega
    · obtain rfl : i = n := by omega
      have HP := npfx_zero 0 (by omega) wr
      replace HP : Calls Tryz.prog 32 #[.int .i64 0, .int .i64 0] wr fun e w' => e = .returned (.agg #[.int .u32 ((167772160 + 0 * 65536 : Nat) : Int), .int .i64 16]) ∧ Below wr.heap.size wr w' := HP
      go_wp2_with fail
      refine HP.mono ?_
      rintro e w4 ⟨rfl, hb4⟩
      have HO := full_own (S.out.held hb4) (by omega)
      clear HP hb4 S
      go_wp2_with fail
      refine HO.mono ?_
      rintro e w5 ⟨rfl, h5⟩
      have H5 := Lib.hid h5
      clear HO h5
      go_wp2_with fail
      go_loopw [8] (fun v wr2 => ∃ (k : Nat) (os : List Dg), v = .int .i64 k ∧ k ≤ tk ∧ Hid (Bn w1 wr2 N i (fO d i k) os ∧ os.length = min (k * (i - 1)) 256)) (fun v _ => tk - (intOf v).toNat)
      case atStart => exact ⟨0, [], rfl, Nat.zero_le _, Lib.hid ⟨H5.out, by simp⟩⟩
      case round =>
        clear H5
        obtain ⟨k, os, rfl, hk, S⟩ := hrel
        by_cases hkt : k < tk
        · have hkz : (k : Int) < (tk : Int) := by omega
          have HT := full_tick S.out.1 hn2 hn5 (by omega)
          have hlen := S.out.2
          obtain ⟨P, hP⟩ : ∃ P : Nat, (k + 1) * (i - 1) = P := ⟨_, rfl⟩
          have hP2 : P = k * (i - 1) + (i - 1) := by rw [← hP, Nat.succ_mul]
          have hPl : P ≤ 128 * 4 := by rw [← hP]; exact Nat.mul_le_mul (by omega) (by omega)
          have hPz : ((k : Int) + 1) * ((i : Int) - 1) = (P : Int) := by rw [← hP]; push_cast [show 1 ≤ i by omega]; rfl
          have hPw : wrap64 (P : Int) = (P : Int) := IntWalk.wrap64_in _ (by omega)
          replace HT : Calls Tryz.prog 34 #[.pointer (some ⟨N, 0, none⟩), .int .i64 0] wr fun e w' => e = .returned (.int .i64 0) ∧ ∃ (L : Nat), Hid (L = min P 256) ∧ Hid (∃ os', os'.length = L ∧ Bn w1 w' N i (fO d i (k + 1)) os') := HT.mono fun e w' ⟨he, os', h1, h2⟩ => ⟨he, os'.length, Lib.hid (count_next hP2 hlen h1), Lib.hid ⟨os', rfl, h2⟩⟩
          have SP := Lib.hid hP
          clear S hlen hP hP2
          go_upto_region 21 with (first | (go_at_call 34; refine HT.mono ?_; rintro e w6 ⟨rfl, L, hL, h6⟩; have hdec := same_min hL.out; have HW := waiting_of h6.out; clear HT) | (go_at_call 36; refine HW.mono ?_; rintro e w7 ⟨rfl, rfl⟩) | fail)
          clear HW
          go_roundw
          case rel =>
            obtain ⟨os', e1, e2⟩ := h6.out
            exact ⟨k + 1, os', by go_num, by omega, Lib.hid ⟨e2, by rw [e1, SP.out]; exact hL.out⟩⟩
          case measure => simp [intOf]; omega
        · obtain rfl : k = tk := by omega
          have hlen := S.out.2
          have hl := S.out.1.len
          obtain ⟨L, hL⟩ : ∃ L : Nat, os.length = L := ⟨_, rfl⟩
          have HW := waiting_of ⟨os, hL, S.out.1⟩
          have SA := Lib.hid (⟨os, hL, S.out.1⟩ : ∃ os, os.length = L ∧ Bn w1 _ N i (fO d i k) os)
          have hL2 : L ≤ 256 := by omega
          clear S hlen hl hL
          go_upto_region 23 with (go_at_call 36; refine HW.mono ?_; rintro e w6 ⟨rfl, rfl⟩; clear HW)
          rcases L with _ | j
          · have HA : Calls Tryz.prog 38 #[.pointer (some ⟨N, 0, none⟩), .int .i64 (-1)] w6 fun e w' => e = .returned (.int .i64 2) ∧ w' = w6 := by
              obtain ⟨os', e1, e2⟩ := SA.out
              exact bn_again_out e2 (by omega)
            have HB := Lib.hid (show Below w.heap.size w w6 by
              obtain ⟨os', e1, e2⟩ := SA.out
              exact next HB1.out e2.below)
            clear SA
            go_wp2_with fail
            refine HA.mono ?_
            rintro e w7 ⟨rfl, rfl⟩
            clear HA
            go_wp2_with fail
            go_ret
            exact ⟨rfl, HB.out⟩
          · have HA := again_of SA.out
            clear SA
            go_wp2_with fail
            refine HA.mono ?_
            rintro e w7 ⟨rfl, M, hM, h7⟩
            have HW := waiting_of h7.out
            have HLo := lose_of hM.out h7.out
            have hdec := same_min2 hM.out
            clear HA hM h7
            go_wp2_with fail
            refine HW.mono ?_
            rintro e w8 ⟨rfl, rfl⟩
            clear HW
            go_wp2_with fail
            refine HLo.mono ?_
            rintro e w9 ⟨rfl, hb9⟩
            have HB := Lib.hid (next HB1.out hb9.out)
            clear HLo hb9
            go_wp2_with fail
            go_ret
            exact ⟨rfl, HB.out⟩
end Go.Proofs.YtkchckeecfalhaaGreat

-- Law
/-
  What all laws share: a call that answers true and turns nothing that was there leaves every argument readable as it was. No program's own text in sight.
-/
namespace Go.Proofs.YtkchckeecfalhaaGreat
open Go.ChangeShapes Go.WideShapes Go.ChangeAt Go.RowKit

section
variable {H : Type} {enc : TypeId × Value → H} {P : Program}
/-- Arguments read in a later world as they did, if nothing that was there has turned. -/
theorem trodAll_keep (hl : laidOutB P = true) {W W' : World} (hb : Below W.heap.size W W') {sp : Nat → Bool} :
    ∀ {ts : List TypeId} {vs : List Value} {ds : List (DataW H)} {ps : List MemPlace}, (∀ t ∈ ts, P.readableRec t = true ∧ t < P.types.size) →
      DataW.TrodAll enc P W 0 (fun _ => true) true ts vs ds ps → (∀ x ∈ ps, x.block < W.heap.size) → (∀ x ∈ ps, sp x.block = true) → DataW.TrodAll enc P W' 0 sp true ts vs ds ps
  | [], vs, ds, ps, _, h, _, _ => by
    obtain ⟨rfl, rfl, rfl⟩ := trodAll_nil h
    exact trodAll_mk0
  | t :: ts, vs, ds, ps, hr, h, hlt, hs => by
    obtain ⟨v, vs', d, ds', p, q, rfl, rfl, rfl, h0, h1⟩ := trodAll_cons h
    have r := hr t (List.mem_cons_self ..)
    exact trodAll_cons_mk (WideElems.Trod_stays hl r.1 r.2 h0 (fun x hx => hb.same (hlt x (List.mem_append_left _ hx))) (fun x hx => hs x (List.mem_append_left _ hx)))
      (trodAll_keep hl hb (fun u hu => hr u (List.mem_cons_of_mem _ hu)) h1 (fun x hx => hlt x (List.mem_append_right _ hx)) (fun x hx => hs x (List.mem_append_right _ hx)))

/-- The row's end of a law: it answered true, and nothing that was there has turned. -/
theorem law_post {f : Func} {s : ChangeSpec} {tb : TypeId} (hl : laidOutB P = true) (hr : ∀ t ∈ f.params.toList, P.readableRec t = true ∧ t < P.types.size)
    (hres : f.resultTypes = #[tb]) (htb : P.underlying tb = some .bool) {W W' : World} {args : Array Value} {ds gs : List (DataW H)} {before : List MemPlace}
    (hvars : s.vars = []) (hfn : s.fn H ds = { results := [.lit (.bool true)], args := ds })
    (hW : DataW.Whole enc P f.params.toList s.vars false W args.toList ds gs before) (hb : Below W.heap.size W W') :
    s.post enc P f false true false false W args (.bool true) W' := by
  have hlt : ∀ p ∈ before, p.block < W.heap.size := fun p hp => hW.lt p hp
  have hW0 := hW
  obtain ⟨p, q, hA, hV, hpq, hz, _⟩ := hW
  rw [hvars] at hV
  obtain ⟨rfl, rfl⟩ := trodVars_none hV
  simp only [List.append_nil] at hpq
  subst hpq
  refine ⟨ds, [], before, [], before, [], hW0, ?_, ?_, ?_, World.keptBut_mono (fun x hx => ⟨hx, .inr (.inl hx)⟩) (hb.frame (· ∈ before)), fun h => by cases h⟩
  · rw [List.append_nil, hfn, hres]
    exact trodAll_mk1 (shut_bool htb _)
  · rw [List.append_nil, hfn]
    exact trodAll_keep hl hb hr hA hlt (fun x hx => by simpa using hlt x hx)
  · rw [List.append_nil, hfn, hvars]
    exact rfl
end
end Go.Proofs.YtkchckeecfalhaaGreat

-- NvRow
/-
  What the rows over nets share.
-/
namespace Go.Proofs.YtkchckeecfalhaaGreat
open Go.ChangeShapes Go.WideShapes Go.ChangeAt Go.RowKit Go.Joins Go.Deep
set_option maxRecDepth 100000

theorem row_own : ownKnob Tryz.prog.godebug = none := by kernel_rfl
theorem row_laidOut : laidOutB Tryz.prog = true := by kernel_rfl
end Go.Proofs.YtkchckeecfalhaaGreat

-- NvFacF
/-
  NetFull: the closed facts of its row, one by one.
-/
namespace Go.Proofs.YtkchckeecfalhaaGreat
open Go
theorem netFull_two {a b : Bool} (h : a = true) (k : b = true) : (a && b) = true := by rw [h, k]; rfl
set_option maxRecDepth 100000 in
set_option maxHeartbeats 20000000 in
theorem netFull_closed : joinedFacts Tryz.prog 6 Tryz.f6 Rows.netFullSpec Rows.netFullRow = true := by
  delta joinedFacts
  repeat' with_reducible refine netFull_two ?_ ?_
  all_goals as_aux_lemma => kernel_rfl
end Go.Proofs.YtkchckeecfalhaaGreat

-- NetFull
/-
  NetFull: however many ticks, no more datagrams are under way than may be. No condition.
-/
namespace Go.Proofs.YtkchckeecfalhaaGreat
open Go.ChangeShapes Go.WideShapes Go.ChangeAt Go.RowKit Go.Joins

set_option maxRecDepth 100000 in
theorem full_lifted (os : Os) (started : os.Started) (H : Type) (enc : TypeId × Value → H) :
    ReturnsInHanded {} Tryz.checked os 6 .any (Rows.netFullSpec.pre6 enc Tryz.prog Tryz.f6 Rows.netFullRow.domain false) (Rows.netFullSpec.post enc Tryz.prog Tryz.f6 false true false false) := by
  refine returnsInHanded_of_change (C := Tryz.checked) row_own started (by kernel_rfl) Tryz.func6
    (ChangeSpec.witness6 (enc := enc) (C := Tryz.checked) false ⟨#[], #[.int .i64 0, .int .i64 0], []⟩ 8 (by kernel_rfl) (by kernel_rfl) (by kernel_rfl) (by kernel_rfl)) ?_
  intro W base args ds gs before hval0 hW hcnd _
  have hval : ∀ (j : Nat) t v, Tryz.f6.params[j]? = some t → args[j]? = some v → Value.okWide Tryz.prog W .any base t v := hval0
  obtain ⟨p, q, hA0, hV, rfl, hfz, hnd⟩ := id hW
  have hA : DataW.TrodAll enc Tryz.prog W 0 (fun _ => true) true Tryz.f6.params.toList args.toList ds p := hA0
  rw [Tryz.params6] at hA hval
  obtain ⟨v0, vs0, d0, ds0, p0, q0, hargs, rfl, rfl, h0, r0⟩ := trodAll_cons hA
  obtain ⟨v1, vs1, d1, ds1, p1, q1, rfl, rfl, rfl, h1, r1⟩ := trodAll_cons r0
  obtain ⟨rfl, rfl, rfl⟩ := trodAll_nil r1
  obtain rfl : args = #[v0, v1] := by cases args; simp_all
  obtain ⟨a, rfl, -, -, -⟩ := open_int Tryz.underlying3 (hval 0 3 v0 rfl rfl) h0
  obtain ⟨b, rfl, -, -, -⟩ := open_int Tryz.underlying3 (hval 1 3 v1 rfl rfl) h1
  refine (full_walk a b W).mono fun e W' ⟨he, hb⟩ => ?_
  subst he
  exact ⟨_, rfl, law_post row_laidOut (by rw [Tryz.params6]; decide +kernel) rfl Tryz.underlying4 rfl rfl hW hb⟩

theorem netFull_holds : Rows.NetFullSaid :=
  OpenClaim.holds_of_wide 6 Tryz.f6 rfl rfl rfl rfl rfl rfl rfl ⟨rfl, rfl, rfl, rfl, rfl⟩ rfl rfl rfl rfl rfl (by kernel_rfl) Tryz.func6 netFull_closed
    (of_decide_eq_true (by kernel_rfl)) (by unfold Func.isWrapper; first | (rw [if_pos (by decide +kernel)]; kernel_rfl) | (rw [if_neg (by decide +kernel)]; exact ⟨rfl, rfl⟩))
    (fun os started H enc _ => full_lifted os started H enc)
#print axioms netFull_holds
end Go.Proofs.YtkchckeecfalhaaGreat

