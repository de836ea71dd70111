/-
  The contract of package tlv's body.
-/
import Derived.Test.YtpdbaediepofjaaTlvE
import Derived.StillTailTactics
namespace Go.Proofs.Ytpdbaediepofjaa
open Go.RowKit Tm

/-- the body's bytes, one behind the other -/
theorem body_made {a n id seq met k : Nat} (hk : k = nb n) : ((set2 (set4 ((List.replicate (7 + k) 0).set 0 n) 1 seq) 5 met).take 7 ++ (four a).take k) = body ⟨a, (n : Nat), id, seq, met⟩ := by
  subst hk
  have e : List.replicate (7 + nb n) 0 = 0 :: 0 :: 0 :: 0 :: 0 :: 0 :: 0 :: List.replicate (nb n) 0 := by rw [Nat.add_comm]; rfl
  rw [e]
  rfl
theorem four_set (a : Nat) : set4 [0, 0, 0, 0] 0 a = four a := rfl

set_option maxHeartbeats 4000000 in
theorem body_any (a n id seq met : Nat) (ha : a < 4294967296) (hn : n ≤ 32) (hs : seq < 4294967296) (hm : met < 65536) (w : World) :
    Calls Try.prog 28 #[.agg #[.int .u32 a, .int .i64 (n : Nat), .int .u32 id, .int .u32 seq, .int .u16 met]] w fun e w' => ∃ g L, e = .returned (.slice (some ⟨g, 0, none⟩) L L) ∧ L = 7 + nb n ∧ w.heap.size ≤ g ∧ Blk 5 w' g (cls (body ⟨a, (n : Nat), id, seq, met⟩)) ∧ Below w.heap.size w w' := by
  have hX := Blk.new w 31 #[.int .u32 a, .int .i64 (n : Nat), .int .u32 id, .int .u32 seq, .int .u16 met]
  have hb := below_new w (.cells #[.int .u32 a, .int .i64 (n : Nat), .int .u32 id, .int .u32 seq, .int .u16 met] 31)
  have hsz := size_new w (.cells #[.int .u32 a, .int .i64 (n : Nat), .int .u32 id, .int .u32 seq, .int .u16 met] 31)
  have hnb := nb_le hn
  go_enter Try.func28, Try.ntmps28
  go_wp2_with fail
  generalize w.alloc _ = W at *
  refine (bodyBytes_any n (by omega) _).mono ?_
  rintro e w' ⟨rfl, rfl⟩
  obtain ⟨L, hL⟩ : ∃ L, L = 7 + nb n := ⟨_, rfl⟩
  rw [← hL]
  have mk := make_any L (by omega)
  have X := Lib.hid (And.intro hX (And.intro hb (And.intro hsz hL)))
  have hL1 : (0 : Int) < (L : Int) := by omega
  have hL2 : L ≤ 1000 := by omega
  have hL3 : 7 ≤ L := by omega
  have hL4 : L ≤ 11 := by omega
  clear hX hb hsz hL hnb
  go_upto_region 2 with (fail)
  obtain ⟨hX, hb, hsz, hL⟩ := X.out
  have hG := Blk.new W 5 (cls (List.replicate L 0))
  have hX2 := hX.more (.cells (cls (List.replicate L 0)) 5)
  have hb2 := next hb (below_new W (.cells (cls (List.replicate L 0)) 5))
  have hsz2 := size_new W (.cells (cls (List.replicate L 0)) 5)
  rw [hsz] at hG hsz2
  rw [hsz]
  generalize hW2 : W.alloc (.cells (cls (List.replicate L 0)) 5) = W2 at *
  clear hW2 mk X hX hb hsz
  have c1 : W2.cell? ⟨w.heap.size, 1, none⟩ = some (.int .i64 (n : Nat)) := hX2.at_ 1
  have z0 : W2.cell? ⟨w.heap.size + 1, 0, none⟩ = some (cell 0) := by rw [hG.at_ 0, cls_at _ 0 (by simp; omega)]; congr 2; simp [show 0 < L by omega]
  have f0 := hG.free 0
  have q0 : IntKind.u8.wrap (n : Int) = (n : Int) := by simp [IntKind.wrap, IntKind.bits, IntKind.signed]; omega
  have hle : w.heap.size ≤ w.heap.size + 1 := by omega
  have hG3 : Blk 5 (W2.setCell ⟨w.heap.size + 1, 0, none⟩ (.int .u8 (n : Int))) (w.heap.size + 1) (cls ((List.replicate L 0).set 0 n)) := by rw [← cls_set]; exact hG.store 0 _
  have hX3 := hX2.away (p := ⟨w.heap.size + 1, 0, none⟩) (by show w.heap.size ≠ w.heap.size + 1; omega) (.int .u8 (n : Int))
  have hb3 := hb2.setCell (p := ⟨w.heap.size + 1, 0, none⟩) hle (.int .u8 (n : Int))
  have X := Lib.hid (And.intro hX3 (And.intro hb3 (And.intro hG3 (And.intro hL hsz2))))
  clear hX2 hb2 hG hX3 hb3 hG3 hL hsz2
  go_upto_region 3 with (fail)
  generalize W2.setCell ⟨w.heap.size + 1, 0, none⟩ (.int .u8 (n : Int)) = W3 at *
  obtain ⟨hX3, hb3, hG3, hL, hsz2⟩ := X.out
  clear X c1 z0 f0 q0 hsz2
  have s1 : ∀ W : World, (Instr.slice 35 (.slice (some ⟨w.heap.size + 1, 0, none⟩) L L) (some (.int .i64 1)) (some (.int .i64 5)) none).run Try.prog W = .ok (.slice (some ⟨w.heap.size + 1, 1, none⟩) 4 (L - 1)) W := fun W => cut_both_run (w.heap.size + 1) 0 L L 1 5 (by omega) (by omega) W rfl rfl rfl rfl rfl
  have c3 : W3.cell? ⟨w.heap.size, 3, none⟩ = some (.int .u32 seq) := hX3.at_ 3
  have P1 := putf_any (w := W3.drew) (off := 1) (cap := L - 1) hs hG3 (by simp; omega)
  have X := Lib.hid (And.intro hX3 (And.intro hb3 (And.intro hG3 hL)))
  clear hX3 hb3 hG3 hL
  go_still_tail 5, (by kernel_rfl)
  change wpList _ _ _ _ _ W3.drew
  go_wp2_with fail
  refine P1.mono ?_
  rintro e w3 ⟨rfl, hG4, hT4⟩
  clear P1 s1 c3
  obtain ⟨hX3, hb3, hG3, hL⟩ := X.out
  have hX4 := hX3.drew.turn hT4 (by simp)
  have hb4 := hb3.drew.trans (hT4.below (B := w.heap.size) (by simp) hb3.size)
  clear X hX3 hb3 hG3 hT4
  generalize hB4 : set4 ((List.replicate L 0).set 0 n) 1 seq = B4 at *
  have hB4l : B4.length = L := by rw [← hB4, set4_length]; simp
  have s2 : ∀ W : World, (Instr.slice 35 (.slice (some ⟨w.heap.size + 1, 0, none⟩) L L) (some (.int .i64 5)) (some (.int .i64 7)) none).run Try.prog W = .ok (.slice (some ⟨w.heap.size + 1, 5, none⟩) 2 (L - 5)) W := fun W => cut_both_run (w.heap.size + 1) 0 L L 5 7 (by omega) (by omega) W rfl rfl rfl rfl rfl
  have c4 : w3.cell? ⟨w.heap.size, 4, none⟩ = some (.int .u16 met) := hX4.at_ 4
  have P2 := putt_any (w := w3.drew) (off := 5) (cap := L - 5) hm hG4 (by omega)
  have q2 : IntKind.u32.wrap (met : Int) = met := by simp [IntKind.wrap, IntKind.bits, IntKind.signed]; omega
  have X := Lib.hid (And.intro hX4 (And.intro hb4 (And.intro hL (And.intro hB4 hB4l))))
  clear hX4 hb4 hL hB4 hB4l hG4
  go_upto_region 4 with (fail)
  go_still_tail 6, (by kernel_rfl)
  change wpList _ _ _ _ _ w3.drew
  go_wp2_with fail
  refine P2.mono ?_
  rintro e w4 ⟨rfl, hG5, hT5⟩
  clear P2 s2 c4 q2
  obtain ⟨hX4, hb4, hL, hB4, hB4l⟩ := X.out
  have hX5 := hX4.drew.turn hT5 (by simp)
  have hb5 := hb4.drew.trans (hT5.below (B := w.heap.size) (by simp) hb4.size)
  clear X hX4 hb4 hT5
  generalize hB5 : set2 B4 5 met = B5 at *
  have hB5l : B5.length = L := by rw [← hB5, set2_length]; exact hB4l
  subst hB4
  have X := Lib.hid (And.intro hX5 (And.intro hb5 (And.intro hL (And.intro hB5 (And.intro hB5l hG5)))))
  clear hX5 hb5 hL hB5 hB5l hG5
  go_upto_region 6 with (fail)
  obtain ⟨hX5, hb5, hL, hB5, hB5l, hG5⟩ := X.out
  have hN6 := Blk.new w4 57 (cls [0, 0, 0, 0])
  have hsz := hX5.lt
  have hX6 := hX5.more (.cells (cls [0, 0, 0, 0]) 57)
  have hG6 := hG5.more (.cells (cls [0, 0, 0, 0]) 57)
  have hb6 := next hb5 (below_new w4 (.cells (cls [0, 0, 0, 0]) 57))
  have hne : w4.heap.size ≠ w.heap.size := by omega
  have hne1 : w4.heap.size ≠ w.heap.size + 1 := by have := hG5.lt; omega
  change Code.wp _ _ _ _ (w4.alloc (.cells (cls [0, 0, 0, 0]) 57))
  generalize w4.alloc (.cells (cls [0, 0, 0, 0]) 57) = W6 at *
  have hle6 : w.heap.size ≤ w4.heap.size := by omega
  clear X hX5 hb5 hG5 hsz
  generalize w4.heap.size = ga at *
  have c0 : W6.cell? ⟨w.heap.size, 0, none⟩ = some (.int .u32 a) := hX6.at_ 0
  have P3 := putf_any (w := W6.drew) (off := 0) (cap := 4) ha hN6 (by simp)
  rw [four_set] at P3
  have X := Lib.hid (And.intro hX6 (And.intro hb6 (And.intro hL (And.intro hB5 (And.intro hB5l hG6)))))
  clear hX6 hb6 hL hB5 hB5l hG6
  go_still_tail 4, (by kernel_rfl)
  change wpList _ _ _ _ _ W6.drew
  go_wp2_with fail
  refine P3.mono ?_
  rintro e w7 ⟨rfl, hN7, hT7⟩
  clear P3 c0 hN6
  obtain ⟨hX6, hb6, hL, hB5, hB5l, hG6⟩ := X.out
  have hX7 := hX6.drew.turn hT7 (by simp; omega)
  have hG7 := hG6.drew.turn hT7 (by simp; omega)
  have hb7 := hb6.drew.trans (hT7.below (B := w.heap.size) (by simp; omega) hb6.size)
  clear X hX6 hb6 hG6 hT7
  obtain ⟨A', hA'⟩ : ∃ A' : Option Addr, A' = if L = 7 then some ⟨w.heap.size + 1, 0, none⟩ else (some (⟨w.heap.size + 1, 0, none⟩ : Addr)).map (·.add 7) := ⟨_, rfl⟩
  obtain ⟨m, hm7⟩ : ∃ m, m = L - 7 := ⟨_, rfl⟩
  have s7 : ∀ W : World, (Instr.slice 35 (.slice (some ⟨w.heap.size + 1, 0, none⟩) L L) (some (.int .i64 7)) none none).run Try.prog W = .ok (.slice A' m m) W := fun W => cut_low_run _ L L 7 (by omega) (by omega) W (z := 7) rfl hA' hm7 hm7
  obtain ⟨w8, hrun, hG8, hT8⟩ := copy_tail (w := w7.drew) hG7.drew hB5l hL3 hL4 hN7.drew hA' (c := m) hm7 3
  have hb8 := hb7.drew.trans (hT8.below (B := w.heap.size) (by simp) hb7.size)
  rw [hm7] at hG8
  have hmk : L - 7 = nb n := by omega
  rw [hmk, ← hB5, hL, body_made (id := id) rfl] at hG8
  have X := Lib.hid (And.intro hG8 (And.intro hb8 hL))
  clear hX7 hG7 hb7 hN7 hL hB5 hB5l hG8 hT8 hb8 hA' hmk hm7
  go_upto_region 7 with (fail)
  go_still_tail 3, (by kernel_rfl)
  change wpList _ _ _ _ _ w7.drew
  go_wp2_with fail
  go_ret
  obtain ⟨hG8, hb8, hL⟩ := X.out
  exact ⟨w.heap.size + 1, L, rfl, hL, hle, hG8, hb8⟩
end Go.Proofs.Ytpdbaediepofjaa
