/-
  Package disk's Sync.
-/
import Derived.Test.YtnoolpgklenhaaaDskW
import Derived.Maps.RangeWalk
namespace Go.Proofs.Ytnoolpgklenhaaa
open Go.RowKit

section
variable {w : World} {d S M n : Nat} {safe : Nat → List UInt8} {wn : Int → Option (List UInt8)} {well : Int}
theorem sync_fails (h : Dk w d S M n safe wn 0) : Calls Try.prog 8 #[.pointer (some ⟨d, 0, none⟩)] w fun e w' =>
    e = .returned (.int .i64 4) ∧ Dk w' d S M n safe wn (-1) ∧ Turn [d, S, M] w w' := by
  have H := Lib.hid h
  clear h
  go_enter Try.func8, Try.ntmps8
  go_wp2_with fail
  refine (fails_yes H.out).mono ?_
  rintro e w1 ⟨rfl, hD, hT, -⟩
  have K := Lib.hid (And.intro hD hT)
  clear hD hT
  go_wp2
  go_ret
  exact ⟨rfl, K.out.1, K.out.2.mono (by simp)⟩
/-- .. while some are still to come -/
def syncing (safe : Nat → List UInt8) (wn : Int → Option (List UInt8)) (left : Int → Bool) (i : Nat) : List UInt8 := if left i then safe i else synced safe wn i
theorem syncing_start : syncing safe wn (fun z => ((wn z).map fun s => Value.agg (sec s).toArray).isSome) = safe := by
  funext i
  unfold syncing synced
  cases h : wn i <;> simp [h]
theorem syncing_end {left : Int → Bool} (h : ∀ z, left z = false) : syncing safe wn left = synced safe wn := by
  funext i
  unfold syncing
  simp [h]
theorem syncing_next {left : Int → Bool} {i : Nat} {s : List UInt8} (hl : left i = true) (hs : wn i = some s) : syncing safe wn (fun z => left z && !decide (z = (i : Int))) = fun j => if j = i then s else syncing safe wn left j := by
  funext j
  unfold syncing synced
  by_cases e : j = i
  · subst e; simp [hs]
  · have : ¬ ((j : Int) = (i : Int)) := by omega
    simp [e, this]

set_option maxHeartbeats 1000000 in
theorem sync_ok (h : Dk w d S M n safe wn well) (hw : well ≠ 0) : Calls Try.prog 8 #[.pointer (some ⟨d, 0, none⟩)] w fun e w' =>
    e = .returned (.int .i64 0) ∧ Dk w' d S M n (synced safe wn) (fun _ => none) (dec well) ∧ Turn [d, S, M] w w' := by
  have H := Lib.hid h
  clear h
  go_enter Try.func8, Try.ntmps8
  go_wp2_with fail
  refine (fails_no H.out hw).mono ?_
  rintro e w1 ⟨rfl, hD, hT, -⟩
  have cM : w1.cell? ⟨d, 1, none⟩ = some (.map (some M)) := hD.head.at_ 1
  obtain ⟨w2, cnt, hrun, hR, hg, hs⟩ := hD.map.range (t := 49) (e := 53) (by kernel_rfl) (by kernel_rfl)
  have hr1 : d < w1.heap.size := hD.head.lt
  have hr2 : S < w1.heap.size := hD.ltS
  have hr3 : M < w1.heap.size := hD.map.lt
  generalize hr : w1.heap.size = r at *
  have K := Lib.hid (And.intro hD (And.intro hT (And.intro hR (And.intro hg (And.intro hs hr)))))
  clear hD hT hR hg hs hr H
  go_wp2_with fail
  go_loopw [3] (fun _ u => ∃ (left : Int → Bool) (cnt : Nat), Rg Try.prog 3 u M r (fun z => (wn z).map fun s => .agg (sec s).toArray) left cnt ∧ Dk u d S M n (syncing safe wn left) wn (dec well) ∧ Turn [d, S, M] w u ∧ w.heap.size ≤ r)
    (fun _ u => u.rangeLeft M r)
  case atStart =>
    obtain ⟨hD, hT, hR, hg, hs, hr⟩ := K.out
    refine ⟨_, cnt, hR, ?_, ?_, by rw [← hr]; exact hT.size⟩
    · rw [syncing_start]
      exact hD.of_blocks (hg.block _ (by omega) (by simp)) (hg.block _ (by omega) (by simp)) (hg.block _ (by omega) (by simp))
    · exact (hT.mono (by simp)).trans ⟨hg.os, hg.tape, hg.output, hg.size, fun i hi _ => hg.block i hi (by simp)⟩
  case round =>
    clear K hrun
    obtain ⟨left, cnt, hR, hD, hT, hr⟩ := hrel
    have cM : wr.cell? ⟨d, 1, none⟩ = some (.map (some M)) := hD.head.at_ 1
    rcases hR.next (by kernel_rfl) 0 with ⟨h0, hl, hrun⟩ | ⟨z, v, w3, cnt', hlz, hfz, hrun, hR3, hlt, hg3, hs3, hen⟩
    · rw [syncing_end hl] at hD
      have Z := Lib.hid (And.intro hR (And.intro hD (And.intro hT hr)))
      obtain ⟨w4, hc, hM4, hg4, -⟩ := hD.map.clear (t := 49) (e := 53) (by kernel_rfl) 0
      have Z4 := Lib.hid (And.intro hM4 hg4)
      clear hR hD hT hr hl h0 hM4 hg4
      go_wp2_with fail
      go_ret
      obtain ⟨hM4, hg4⟩ := Z4.out
      obtain ⟨hR, hD, hT, hr⟩ := Z.out
      refine ⟨rfl, ⟨(hg4.block d hD.head.lt (by simpa using hD.dM)).trans hD.head, ?_, hM4, hD.len, fun z s hz => (by cases hz), hD.n1, hD.n2, hD.w1, hD.w2⟩, hT.trans (.of_grown hg4 (by simp))⟩
      obtain ⟨C, h1, h2⟩ := hD.rows
      exact ⟨C, (hg4.block S hD.ltS (by simpa using hD.SM)).trans h1, h2⟩
    · obtain ⟨s, hs, rfl⟩ := Option.map_eq_some_iff.1 hfz
      obtain ⟨hz0, hz1, hslen⟩ := hD.wlen z s hs
      obtain ⟨k, rfl⟩ := Int.eq_ofNat_of_zero_le hz0
      have hk : k < n := by omega
      have n2 := hD.n2
      have hle := hR.left_eq
      have hrd : r ≠ d := by omega
      have hrS : r ≠ S := by omega
      have hrM : r ≠ M := by omega
      have hD3 := hD.of_blocks (hg3.block _ hD.head.lt (by simpa using hrd.symm)) (hg3.block _ hD.ltS (by simpa using hrS.symm)) (hg3.block _ hD.map.lt (by simpa using hrM.symm))
      have hrlt := hR3.lt
      have hT3 : Turn [d, S, M] w w3 := hT.fresh ⟨hg3.os, hg3.tape, hg3.output, hg3.size, fun i hi hn => hg3.block i hi (by simpa using hn)⟩ hr
      clear cM hR hD hT
      have Z := Lib.hid (And.intro hR3 (And.intro hD3 (And.intro hT3 (And.intro hlz (And.intro hs (And.intro hrlt (And.intro hr (And.intro hlt hle))))))))
      clear hR3 hD3 hT3 hlz hs hlt hr hz0 hz1 hle hfz hg3 hs3 hrlt
      go_wp2_with (first | (refine wpList_store_mid (P := Try.prog) rfl 53 (.tmp 4) (.tmp 16) rfl _ 0 (sec s).toArray rfl rfl (z48_there' _ _ hslen) (secInfo' hslen) (all_oneCell_toArray (sec_one s)) ?_))
      go_frame
      obtain ⟨hN, hX, hNs⟩ := new_stored w3 53 hslen
      dsimp only [z48] at hN hX hNs
      generalize (World.setCells (w3.alloc _) w3.heap.size 0 (sec s)) = w4 at *
      obtain ⟨hR3, hD3, hT3, hlz, hs, hrlt, hr, hlt, hle⟩ := Z.out
      have hD4 := (hD3.held hN).drew
      have hD5 := hD4.row hk hslen
      rw [← syncing_next hlz hs] at hD5
      have hT5 : Turn [d, S, M] w (w4.drew.setCells S (k * 48) (sec s)) := ((hT3.and_below hN).drew).trans (Turn.setCells _ (by simp) _ _)
      have hR5 : Rg Try.prog 3 (w4.drew.setCells S (k * 48) (sec s)) M r (fun z => (wn z).map fun s => .agg (sec s).toArray) (fun z => left z && !decide (z = (k : Int))) cnt' := by
        have hS5 : Turn [S] w4.drew (w4.drew.setCells S (k * 48) (sec s)) := Turn.setCells _ (by simp) _ _
        refine hR3.of_block ((hS5.block M hD4.map.lt (by simpa using hD4.SM.symm)).trans (hN.block _ hR3.mp.lt)) ((hS5.block r ?_ (by simpa using hrS)).trans (hN.block _ hrlt))
        show r < w4.heap.size
        have := hN.size
        omega
      have hme := hR5.left_eq
      have c0 : w4.cell? ⟨d, 0, none⟩ = some (.slice (some ⟨S, 0, none⟩) n n) := (hD3.held hN).head.at_ 0
      have c5 : (w4.drew.setCells S (k * 48) (sec s)).cell? ⟨d, 0, none⟩ = some (.slice (some ⟨S, 0, none⟩) n n) := hD5.head.at_ 0
      have r4 : w4.drew.rangeAt w3.heap.size 0 (sec s) := fun j v hv => by
        show w4.cell? _ = _
        rw [Nat.zero_add, hX.at_ j]; simpa using hv
      have r5 : (w4.drew.setCells S (k * 48) (sec s)).rangeAt w3.heap.size 0 (sec s) := World.rangeAt_setCells_apart r4 _ _ _ (.inl (Nat.ne_of_gt hD3.ltS))
      have es : (sec s).length = 48 := by rw [sec_length, hslen]
      have t4 : w4.drew.there S (k * 48) (sec s).length := by rw [es]; exact hD4.there hk
      have t5 : (w4.drew.setCells S (k * 48) (sec s)).there S (k * 48) (sec s).length := by rw [es]; exact hD5.there hk
      have Z5 := Lib.hid (And.intro hR5 (And.intro hD5 (And.intro hT5 (And.intro hr (And.intro hme (And.intro hle hlt))))))
      have hu := sector_under
      have hi := secInfo hslen
      have ho := sec_one s
      clear hR3 hD3 hD4 hD5 hT3 hT5 hR5 hs hlz hlt hle hr hN hX hNs hme Z hrlt es
      go_region_held3 (fun w' => w'.cell? ⟨d, 0, none⟩ = some (.slice (some ⟨S, 0, none⟩) n n) ∧ w'.rangeAt w3.heap.size 0 (sec s) ∧ w'.there S (k * 48) (sec s).length) (exact ⟨by assumption, by assumption, by assumption⟩) (fail)
      go_roundw
      case rel =>
        obtain ⟨hR5, hD5, hT5, hr, -⟩ := Z5.out
        exact ⟨_, _, _, _, _, _, _, _, _, _, _, _, _, _, ⟨_, cnt', hR5, hD5, hT5, hr⟩, rfl⟩
      case measure =>
        obtain ⟨-, -, -, -, h1, h2, h3⟩ := Z5.out
        rw [h1, h2]; exact h3
end
end Go.Proofs.Ytnoolpgklenhaaa
