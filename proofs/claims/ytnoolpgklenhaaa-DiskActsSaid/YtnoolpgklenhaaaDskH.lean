/-
  The statement's own head: the document's example.
-/
import Derived.Test.YtnoolpgklenhaaaDskN
import Derived.Test.YtnoolpgklenhaaaDskF
import Derived.Test.YtnoolpgklenhaaaDskS
import Derived.Test.YtnoolpgklenhaaaDskC
namespace Go.Proofs.Ytnoolpgklenhaaa
open Go.RowKit

/-- what New answers: a new disk of n sectors of noughts -/
def NewAns (w : World) (n : Nat) (e : Ending) (w' : World) : Prop :=
  ∃ d S M, e = .returned (.pointer (some ⟨d, 0, none⟩)) ∧ Dk w' d S M n (fun _ => List.replicate 48 0) (fun _ => none) (-1) ∧ (w.heap.size ≤ d ∧ w.heap.size ≤ S ∧ w.heap.size ≤ M) ∧ Below w.heap.size w w'
theorem new_ans (n : Nat) (h1 : 1 ≤ n) (h2 : n ≤ 512) (w : World) : Calls Try.prog 6 #[.int .i64 (n : Int)] w (NewAns w n) :=
  (new_in n h1 h2 w).mono fun _ _ ⟨he, hD, hb⟩ => ⟨_, _, _, he, hD, ⟨by omega, by omega, by omega⟩, hb⟩
theorem mem3 {B d S M : Nat} (h : B ≤ d ∧ B ≤ S ∧ B ≤ M) : ∀ i, i ∈ [d, S, M] → B ≤ i := by
  intro i hi
  simp at hi
  omega
theorem mem2 {B d S M : Nat} (h : B ≤ d ∧ B ≤ S ∧ B ≤ M) : ∀ i, i ∈ [d, M] → B ≤ i := by
  intro i hi
  simp at hi
  omega
theorem conv_back {w : World} {A : Option Addr} {len cap : Nat} {s : List UInt8} (h : Bys w A len s) (h0 : 0 < len) : (convert 28 9 (.slice A len cap)).run Try.prog w = .ok (.string ⟨s.toArray⟩) w := by
  obtain ⟨hl, hc⟩ := h
  obtain ⟨ad, rfl, hcc⟩ := hc h0
  subst hl
  exact run_convert_bytes_back (P := Try.prog) w 28 9 5 ad cap s (by kernel_rfl) (by kernel_rfl) (by kernel_rfl) (fun j hj => hcc j _ (by rw [sec_get, List.getElem?_eq_getElem hj]; rfl))

/-- what is full of one byte -/
def full (c : UInt8) : List UInt8 := List.replicate 48 c
theorem full_length (c : UInt8) : (full c).length = 48 := by simp [full]
/-- what full answers -/
def FullAns (w : World) (c : UInt8) (e : Ending) (w' : World) : Prop :=
  ∃ g, e = .returned (.slice (some ⟨g, 0, none⟩) 48 48) ∧ w.heap.size ≤ g ∧ Bys w' (some ⟨g, 0, none⟩) 48 (full c) ∧ Below w.heap.size w w'
theorem full_ans (c : UInt8) {z : Int} (hz : z = (c.toNat : Int)) (w : World) : Calls Try.prog 7 #[.int .u8 z] w (FullAns w c) := by
  subst hz
  refine (full_any c w).mono fun _ _ ⟨he, hB, hb, _⟩ => ⟨_, he, Nat.le_refl _, ?_, hb⟩
  have h := Bys.of_blk hB
  rwa [show (List.replicate 48 c).length = 48 by simp] at h

set_option maxHeartbeats 2000000 in
set_option maxRecDepth 100000 in
theorem disk_head (w : World) : Calls Try.prog 5 #[] w fun e w' => e = .returned (.bool true) ∧ Below w.heap.size w w' := by
  go_enter Try.func5, Try.ntmps5
  go_wp2_with fail
  refine (new_ans 2 (by omega) (by omega) _).mono ?_
  rintro e w1 ⟨d, S, M, rfl, hD, hge, hb⟩
  have K := Lib.hid (And.intro hD (And.intro hge hb))
  clear hD hge hb
  go_wp2_with fail
  refine (size_any K.out.1).mono ?_
  rintro e w' ⟨rfl, rfl⟩
  go_wp2_with fail
  refine (full_ans 7 rfl _).mono ?_
  rintro e w2 ⟨g, rfl, hg, hB, hb2⟩
  have hgd : ∀ ad, (some ⟨g, 0, none⟩ : Option Addr) = some ad → ad.block ≠ d := fun ad e => by cases e; have := K.out.1.head.lt; show g ≠ d; omega
  have K2 := Lib.hid (And.intro (K.out.1.held hb2) (And.intro hB (And.intro (next K.out.2.2 hb2) hgd)))
  clear hB hb2 hgd
  go_wp2_with fail
  refine (write_ok K2.out.1 (i := 1) (by omega) (by omega) (by omega) K2.out.2.1 K2.out.2.2.2).mono ?_
  rintro e w3 ⟨rfl, hD, hT⟩
  have K3 := Lib.hid (And.intro hD (K2.out.2.2.1.trans (hT.below (mem2 K.out.2.1) K2.out.2.2.1.size)))
  clear hD hT
  go_wp2_with fail
  refine (crash_any K3.out.1 none [] 0 PicksAt.nil (.inl rfl) (by simp) (by omega)).mono ?_
  rintro e w4 ⟨rfl, hD, hT⟩
  have K4 := Lib.hid (And.intro hD (K3.out.2.trans (hT.below (mem3 K.out.2.1) K3.out.2.size)))
  clear hD hT
  go_wp2_with fail
  refine (read_ok K4.out.1 (i := 1) (by omega)).mono ?_
  rintro e w5 ⟨g1, cap1, rfl, hg1, hB, hb5⟩
  have K5 := Lib.hid (And.intro (K4.out.1.held hb5) (And.intro hB (next K4.out.2 hb5)))
  clear hB hb5
  go_wp2_with fail
  refine (full_ans 8 rfl _).mono ?_
  rintro e w6 ⟨g2, rfl, hg2, hB, hb6⟩
  have hgd : ∀ ad, (some ⟨g2, 0, none⟩ : Option Addr) = some ad → ad.block ≠ d := fun ad e => by cases e; have := K5.out.1.head.lt; show g2 ≠ d; omega
  have K6 := Lib.hid (And.intro (K5.out.1.held hb6) (And.intro hB (And.intro (next K5.out.2.2 hb6) hgd)))
  have A6 := Lib.hid (K5.out.2.1.held hb6)
  clear hB hb6 hgd
  go_wp2_with fail
  refine (write_ok K6.out.1 (i := 1) (by omega) (by omega) (by omega) K6.out.2.1 K6.out.2.2.2).mono ?_
  rintro e w7 ⟨rfl, hD, hT⟩
  have K7 := Lib.hid (And.intro hD (K6.out.2.2.1.trans (hT.below (mem2 K.out.2.1) K6.out.2.2.1.size)))
  have A7 := Lib.hid (A6.out.turn hT (fun ad e => by cases e; have := K4.out.1.head.lt; have := K4.out.1.map.lt; simp; omega))
  clear hD hT
  go_wp2_with fail
  refine (sync_ok K7.out.1 (by decide)).mono ?_
  rintro e w8 ⟨rfl, hD, hT⟩
  have K8 := Lib.hid (And.intro hD (K7.out.2.trans (hT.below (mem3 K.out.2.1) K7.out.2.size)))
  have A8 := Lib.hid (A7.out.turn hT (fun ad e => by cases e; have := K4.out.1.head.lt; have := K4.out.1.map.lt; have := K4.out.1.ltS; simp; omega))
  clear hD hT
  go_wp2_with fail
  refine (crash_any K8.out.1 none [] 0 PicksAt.nil (.inl rfl) (by simp) (by omega)).mono ?_
  rintro e w9 ⟨rfl, hD, hT⟩
  have K9 := Lib.hid (And.intro hD (K8.out.2.trans (hT.below (mem3 K.out.2.1) K8.out.2.size)))
  have A9 := Lib.hid (A8.out.turn hT (fun ad e => by cases e; have := K4.out.1.head.lt; have := K4.out.1.map.lt; have := K4.out.1.ltS; simp; omega))
  clear hD hT
  go_wp2_with fail
  refine (read_ok K9.out.1 (i := 1) (by omega)).mono ?_
  rintro e w10 ⟨g3, cap3, rfl, hg3, hB, hb10⟩
  have A10 : Bys w10 (some ⟨g1, 0, none⟩) 48 (full 0) := A9.out.held hb10
  have B10 : Bys w10 (some ⟨g3, 0, none⟩) 48 (full 8) := hB
  have Z := Lib.hid (next K9.out.2 hb10)
  clear hB hb10
  go_wp2_with fail
  refine wp_region_held_drew (S := fun u => Bys u (some ⟨g1, 0, none⟩) 48 (full 0) ∧ Bys u (some ⟨g3, 0, none⟩) 48 (full 8)) (by kernel_rfl) ⟨A10, B10⟩ (fun hHeld => ?_)
  refine take_list (i := 0) (v := .int .i64 0) rfl (by kernel_rfl) (by kernel_rfl) (by kernel_rfl) (fun _ _ _ h => h) (.inl ⟨rfl, ?_⟩) hHeld ?_
  · (intro w hSw; go_simp)
  go_frame
  refine take_list (i := 1) (v := .bool true) rfl (by kernel_rfl) (by kernel_rfl) (by kernel_rfl) (fun _ _ _ h => h) (.inl ⟨rfl, ?_⟩) hHeld ?_
  · (intro w hSw; go_simp)
  go_frame
  refine take_list (i := 2) (v := .bool true) rfl (by kernel_rfl) (by kernel_rfl) (by kernel_rfl) (fun _ _ _ h => h) (.inl ⟨rfl, ?_⟩) hHeld ?_
  · (intro w hSw; go_simp)
  go_frame
  refine take_list (i := 3) (v := .slice (some ⟨g1, 0, none⟩) 48 cap1) rfl (by kernel_rfl) (by kernel_rfl) (by kernel_rfl) (fun _ _ _ h => h) (.inl ⟨rfl, ?_⟩) hHeld ?_
  · (intro w hSw; go_simp)
  go_frame
  refine take_list (i := 4) (v := .string ⟨(full 0).toArray⟩) rfl (by kernel_rfl) (by kernel_rfl) (by kernel_rfl) (fun _ _ _ h => h) (.inl ⟨rfl, ?_⟩) hHeld ?_
  · (intro w hSw; have h := conv_back (cap := cap1) hSw.1 (by omega); go_simp)
  go_frame
  refine ready_list (i := 5) rfl (by kernel_rfl) (fun K hK => ?_)
  go_simp
  refine (full_ans 0 rfl _).mono ?_
  rintro e wa ⟨ga, rfl, -, hBn, hba⟩
  refine hK.out _ _ ⟨hHeld.1.held hba, hHeld.2.held hba⟩ (fun hHeld => ?_)
  clear hK K
  try go_frame
  refine ready_list (i := 6) rfl (by kernel_rfl) (fun K hK => ?_)
  have hcv := conv_back (cap := 48) hBn (by omega)
  go_simp
  refine hK.out _ _ hHeld (fun hHeld => ?_)
  clear hK K hcv
  try go_frame
  refine take_list (i := 7) (v := .bool true) rfl (by kernel_rfl) (by kernel_rfl) (by kernel_rfl) (fun _ _ _ h => h) (.inl ⟨rfl, ?_⟩) hHeld ?_
  · (intro w hSw; go_simp)
  go_frame
  refine take_list (i := 8) (v := .bool true) rfl (by kernel_rfl) (by kernel_rfl) (by kernel_rfl) (fun _ _ _ h => h) (.inl ⟨rfl, ?_⟩) hHeld ?_
  · (intro w hSw; go_simp)
  go_frame
  refine take_list (i := 9) (v := .bool true) rfl (by kernel_rfl) (by kernel_rfl) (by kernel_rfl) (fun _ _ _ h => h) (.inl ⟨rfl, ?_⟩) hHeld ?_
  · (intro w hSw; go_simp)
  go_frame
  refine take_list (i := 10) (v := .slice (some ⟨g3, 0, none⟩) 48 cap3) rfl (by kernel_rfl) (by kernel_rfl) (by kernel_rfl) (fun _ _ _ h => h) (.inl ⟨rfl, ?_⟩) hHeld ?_
  · (intro w hSw; go_simp)
  go_frame
  refine take_list (i := 11) (v := .string ⟨(full 8).toArray⟩) rfl (by kernel_rfl) (by kernel_rfl) (by kernel_rfl) (fun _ _ _ h => h) (.inl ⟨rfl, ?_⟩) hHeld ?_
  · (intro w hSw; have h := conv_back (cap := cap3) hSw.2 (by omega); go_simp)
  go_frame
  refine ready_list (i := 12) rfl (by kernel_rfl) (fun K hK => ?_)
  go_simp
  refine (full_ans 8 rfl _).mono ?_
  rintro e wb ⟨gb, rfl, -, hBn, hbb⟩
  refine hK.out _ _ ⟨hHeld.1.held hbb, hHeld.2.held hbb⟩ (fun hHeld => ?_)
  clear hK K
  try go_frame
  refine ready_list (i := 13) rfl (by kernel_rfl) (fun K hK => ?_)
  have hcv := conv_back (cap := 48) hBn (by omega)
  go_simp
  refine hK.out _ _ hHeld (fun hHeld => ?_)
  clear hK K hcv
  try go_frame
  refine take_list (i := 14) (v := .bool true) rfl (by kernel_rfl) (by kernel_rfl) (by kernel_rfl) (fun _ _ _ h => h) (.inl ⟨rfl, ?_⟩) hHeld ?_
  · (intro w hSw; go_simp)
  go_frame
  refine take_list (i := 15) (v := .bool true) rfl (by kernel_rfl) (by kernel_rfl) (by kernel_rfl) (fun _ _ _ h => h) (.inl ⟨rfl, ?_⟩) hHeld ?_
  · (intro w hSw; go_simp)
  go_frame
  refine take_list (i := 16) (v := .bool true) rfl (by kernel_rfl) (by kernel_rfl) (by kernel_rfl) (fun _ _ _ h => h) (.inl ⟨rfl, ?_⟩) hHeld ?_
  · (intro w hSw; go_simp)
  go_frame
  refine wpAnyH_done (by kernel_rfl) ?_ _
  go_wp2_with fail
  go_ret
  exact ⟨rfl, next (next Z.out.drew hba) hbb⟩
end Go.Proofs.Ytnoolpgklenhaaa
