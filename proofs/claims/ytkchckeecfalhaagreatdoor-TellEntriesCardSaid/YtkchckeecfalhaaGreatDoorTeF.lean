/-
  TellEntries: its head and its walk.
-/
import Derived.Test.YtkchckeecfalhaaGreatDoorTeE
namespace Go.Proofs.YtkchckeecfalhaaGreatDoor
open Go.RowKit Go.Maps
attribute [local go_sem] Oper.semAt_some

theorem en_line : enS 167837696 16 2 3 = ⟨#[49, 48, 46, 49, 46, 48, 46, 48, 47, 49, 54, 32, 118, 105, 97, 32, 51]⟩ := by decide +kernel
set_option maxRecDepth 20000 in
set_option maxHeartbeats 1000000 in
theorem tell_head (w : World) (ht : Tab w) : Calls Tryz.prog 7 #[] w fun e w' => e = .returned (.bool true) ∧ Below w.heap.size w w' := by
  have HR := run_nil w ht
  rw [err_line] at HR
  have HT := Lib.hid ht
  clear ht
  go_enter Tryz.func7, Tryz.ntmps7
  go_wp2_with fail
  refine HR.mono ?_
  rintro e w2 ⟨v, rfl, hO, hb2⟩
  obtain ⟨g, cap, rfl, h1, h2, hc⟩ := Ol.at_ elemStr.len (show Ol 9 stc 1 w.heap.size v [_] w2 from hO) (i := 0) (by simp)
  have c0 : w2.cell? ⟨g, 0, none⟩ = some (.string ⟨#[101, 114, 114, 111, 114, 32, 102, 111, 114, 109, 32, 97, 116, 32, 48]⟩) := hc 0 (by omega)
  have HP := lprefix_zero 1 (by omega) w2
  have HT2 := Lib.hid (HT.out.held hb2)
  have HB := Lib.hid hb2
  clear HR hO hb2 h1 h2 hc
  rw [show ([⟨#[101, 114, 114, 111, 114, 32, 102, 111, 114, 109, 32, 97, 116, 32, 48]⟩] : List ByteArray).length = 1 from rfl]
  go_wp2_with fail
  refine HP.mono ?_
  rintro e w3 ⟨rfl, hb3⟩
  clear c0 HP
  have hb4 := below_new w3 (.cells #[.int .u32 ((167772160 + 1 * 65536 : Nat) : Int), .int .i64 16] 24)
  have HE := entry_any 167837696 16 2 3 (by omega) (by omega) (by omega) _ ((HT2.out.held hb3).held hb4)
  rw [en_line] at HE
  have HB4 := Lib.hid (next (next HB.out hb3) hb4)
  clear hb3 hb4
  go_wp2_with fail
  refine Calls.mono (show Calls Tryz.prog 8 _ _ _ from HE) ?_
  rintro e w5 ⟨rfl, hb5⟩
  have HB5 := Lib.hid (next HB4.out hb5)
  clear hb5 HE
  go_wp2_with fail
  go_ret
  exact ⟨rfl, HB5.out⟩
set_option maxRecDepth 20000 in
set_option maxHeartbeats 1000000 in
theorem tell_entries (a : Nat) (len how nx : Int) (ha : a < 4294967296) (h0 : -9223372036854775808 ≤ nx) (h1 : nx ≤ 9223372036854775807) (w : World) (ht : Tab w) :
    Calls Tryz.prog 3 #[.agg #[.int .u32 a, .int .i64 len, .int .i64 how, .int .i64 nx]] w fun e w' => e = .returned (.bool true) ∧ Below w.heap.size w w' := by
  have EB := Blk.new w 27 #[.int .u32 a, .int .i64 len, .int .i64 how, .int .i64 nx]
  have hb1 := below_new w (.cells #[.int .u32 a, .int .i64 len, .int .i64 how, .int .i64 nx] 27)
  have e0 : (w.alloc (.cells #[.int .u32 a, .int .i64 len, .int .i64 how, .int .i64 nx] 27)).cell? ⟨w.heap.size, 0, none⟩ = some (.int .u32 a) := EB.at_ 0
  have e1 : (w.alloc (.cells #[.int .u32 a, .int .i64 len, .int .i64 how, .int .i64 nx] 27)).cell? ⟨w.heap.size, 1, none⟩ = some (.int .i64 len) := EB.at_ 1
  have e2 : (w.alloc (.cells #[.int .u32 a, .int .i64 len, .int .i64 how, .int .i64 nx] 27)).cell? ⟨w.heap.size, 2, none⟩ = some (.int .i64 how) := EB.at_ 2
  have e3 : (w.alloc (.cells #[.int .u32 a, .int .i64 len, .int .i64 how, .int .i64 nx] 27)).cell? ⟨w.heap.size, 3, none⟩ = some (.int .i64 nx) := EB.at_ 3
  have HH := tell_head _ (ht.held hb1)
  have HT := Lib.hid (ht.held hb1)
  have HN := Lib.hid (And.intro h0 (And.intro h1 ha))
  have HB := Lib.hid hb1
  clear EB hb1 ht h0 h1 ha
  go_enter Tryz.func3, Tryz.ntmps3
  go_wp2_with fail
  generalize w.alloc (.cells #[.int .u32 a, .int .i64 len, .int .i64 how, .int .i64 nx] 27) = w1 at *
  refine HH.mono ?_
  rintro e w2 ⟨rfl, hb2⟩
  have q0 : w2.drew.cell? ⟨w.heap.size, 0, none⟩ = some (.int .u32 a) := held hb2 e0
  have q1 : w2.drew.cell? ⟨w.heap.size, 1, none⟩ = some (.int .i64 len) := held hb2 e1
  have q2 : w2.drew.cell? ⟨w.heap.size, 2, none⟩ = some (.int .i64 how) := held hb2 e2
  have q3 : w2.drew.cell? ⟨w.heap.size, 3, none⟩ = some (.int .i64 nx) := held hb2 e3
  have hd := (Below.refl w2.heap.size w2).drew
  have HE := entry_any a len how nx HN.out.2.2 HN.out.1 HN.out.2.1 w2.drew ((HT.out.held hb2).held hd)
  rw [enS_leS] at HE
  have HT2 := Lib.hid ((HT.out.held hb2).held hd)
  have HB2 := Lib.hid (next (next HB.out hb2) hd)
  obtain ⟨s, hs⟩ : ∃ s, leS a len how nx = s := ⟨_, rfl⟩
  rw [hs] at HE
  have HS := Lib.hid hs
  clear hb2 hd HH hs e0 e1 e2 e3
  go_wp2_with fail
  refine wp_region_held_drew (S := fun u => u.cell? ⟨w.heap.size, 0, none⟩ = some (.int .u32 a) ∧ u.cell? ⟨w.heap.size, 1, none⟩ = some (.int .i64 len) ∧ u.cell? ⟨w.heap.size, 2, none⟩ = some (.int .i64 how) ∧ u.cell? ⟨w.heap.size, 3, none⟩ = some (.int .i64 nx)) (by kernel_rfl) ⟨q0, q1, q2, q3⟩ (fun hHeld => ?_)
  refine take_list (i := 0) (v := .agg #[.int .u32 a, .int .i64 len, .int .i64 how, .int .i64 nx]) rfl (by kernel_rfl) (by kernel_rfl) (by kernel_rfl) (fun _ _ _ h => h) (.inl ⟨rfl, ?_⟩) hHeld ?_
  · (intro w hSw; go_simp)
  go_frame
  refine take_list (i := 2) (v := .agg #[.int .u32 a, .int .i64 len, .int .i64 how, .int .i64 nx]) rfl (by kernel_rfl) (by kernel_rfl) (by kernel_rfl) (fun _ _ _ h => h) (.inl ⟨rfl, ?_⟩) hHeld ?_
  · (intro w hSw; go_simp)
  go_frame
  refine ready_list (i := 1) rfl (by kernel_rfl) (fun K hK => ?_)
  go_simp
  refine HE.mono ?_
  rintro e w3 ⟨rfl, hb3⟩
  have hh3 := And.intro (held hb3 q0) (And.intro (held hb3 q1) (And.intro (held hb3 q2) (held hb3 q3)))
  have HE2 := lentry_any a len how nx HN.out.2.2 HN.out.1 HN.out.2.1 w3 (HT2.out.held hb3)
  rw [HS.out] at HE2
  have HB3 := Lib.hid (next HB2.out hb3)
  refine hK.out _ _ hh3 (fun hHeld => ?_)
  clear hK K HE q0 q1 q2 q3 hb3
  refine ready_list (i := 3) rfl (by kernel_rfl) (fun K hK => ?_)
  go_simp
  refine HE2.mono ?_
  rintro e w4 ⟨rfl, hb4⟩
  have HB4 := Lib.hid (next HB3.out hb4)
  refine hK.out _ _ ⟨held hb4 hh3.1, held hb4 hh3.2.1, held hb4 hh3.2.2.1, held hb4 hh3.2.2.2⟩ (fun hHeld => ?_)
  clear hK K HE2 hh3 hb4
  refine take_list (i := 4) (v := .bool true) rfl (by kernel_rfl) (by kernel_rfl) (by kernel_rfl) (fun _ _ _ h => h) (.inl ⟨rfl, ?_⟩) hHeld ?_
  · (intro w hSw; go_simp)
  go_frame
  refine take_list (i := 5) (v := .bool true) rfl (by kernel_rfl) (by kernel_rfl) (by kernel_rfl) (fun _ _ _ h => h) (.inl ⟨rfl, ?_⟩) hHeld ?_
  · (intro w hSw; go_simp)
  go_frame
  refine wpAnyH_done (by kernel_rfl) ?_ _
  try go_frame
  clear hHeld
  go_wp2_with fail
  go_ret
  exact ⟨rfl, HB4.out⟩
end Go.Proofs.YtkchckeecfalhaaGreatDoor
