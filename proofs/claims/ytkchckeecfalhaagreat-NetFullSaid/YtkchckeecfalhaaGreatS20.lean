/-
  The contract of package tlv's body.
  The contract of package tlv's parts.
  Datagrams in memory: a slice of slices of bytes that the call makes, each row a block of its own; lists of what is told that were there.
-/
import Derived.Test.YtkchckeecfalhaaGreatS19
import Derived.StillTailTactics
import Derived.Deep.Cut
set_option maxRecDepth 20000
namespace Go.Proofs.YtkchckeecfalhaaGreat.T
open Go.RowKit Tm

/-- the body's bytes, one behind the other -/
theorem body_made {a n id seq met k : Nat} (hk : k = nb n) : ((set2 (set4 ((List.replicate (7 + k) 0).set 0 n) 1 seq) 5 met).take 7 ++ (four a).take k) = body ⟨a, (n : Nat), id, seq, met⟩ := by
  subst hk
  have e : List.replicate (7 + nb n) 0 = 0 :: 0 :: 0 :: 0 :: 0 :: 0 :: 0 :: List.replicate (nb n) 0 := by rw [Nat.add_comm]; rfl
  rw [e]
  rfl
theorem four_set (a : Nat) : set4 [0, 0, 0, 0] 0 a = four a := rfl

set_option maxHeartbeats 4000000 in
theorem body_any (a n id seq met : Nat) (ha : a < 4294967296) (hn : n ≤ 32) (hs : seq < 4294967296) (hm : met < 65536) (w : World) :
    Calls Tryz.prog 207 #[.agg #[.int .u32 a, .int .i64 (n : Nat), .int .u32 id, .int .u32 seq, .int .u16 met]] w fun e w' => ∃ g L, e = .returned (.slice (some ⟨g, 0, none⟩) L L) ∧ L = 7 + nb n ∧ w.heap.size ≤ g ∧ Blk 5 w' g (cls (body ⟨a, (n : Nat), id, seq, met⟩)) ∧ Below w.heap.size w w' := by
  have hX := Blk.new w 123 #[.int .u32 a, .int .i64 (n : Nat), .int .u32 id, .int .u32 seq, .int .u16 met]
  have hb := below_new w (.cells #[.int .u32 a, .int .i64 (n : Nat), .int .u32 id, .int .u32 seq, .int .u16 met] 123)
  have hsz := size_new w (.cells #[.int .u32 a, .int .i64 (n : Nat), .int .u32 id, .int .u32 seq, .int .u16 met] 123)
  have hnb := nb_le hn
  go_enter Tryz.func207, Tryz.ntmps207
  go_wp2_with fail
  generalize w.alloc _ = W at *
  refine (bodyBytes_any n (by omega) _).mono ?_
  rintro e w' ⟨rfl, rfl⟩
  obtain ⟨L, hL⟩ : ∃ L, L = 7 + nb n := ⟨_, rfl⟩
  rw [← hL]
  have mk := make_any L (by omega)
  have X := Lib.hid (And.intro hX (And.intro hb (And.intro hsz hL)))
  have hL1 : (0 : Int) < (L : Int) := by omega
  have hL2 : L ≤ 1000 := by omega
  have hL3 : 7 ≤ L := by omega
  have hL4 : L ≤ 11 := by omega
  clear hX hb hsz hL hnb
  go_upto_region 2 with (fail)
  obtain ⟨hX, hb, hsz, hL⟩ := X.out
  have hG := Blk.new W 5 (cls (List.replicate L 0))
  have hX2 := hX.more (.cells (cls (List.replicate L 0)) 5)
  have hb2 := next hb (below_new W (.cells (cls (List.replicate L 0)) 5))
  have hsz2 := size_new W (.cells (cls (List.replicate L 0)) 5)
  rw [hsz] at hG hsz2
  rw [hsz]
  generalize hW2 : W.alloc (.cells (cls (List.replicate L 0)) 5) = W2 at *
  clear hW2 mk X hX hb hsz
  have c1 : W2.cell? ⟨w.heap.size, 1, none⟩ = some (.int .i64 (n : Nat)) := hX2.at_ 1
  have z0 : W2.cell? ⟨w.heap.size + 1, 0, none⟩ = some (cell 0) := by rw [hG.at_ 0, cls_at _ 0 (by simp; omega)]; congr 2; simp [show 0 < L by omega]
  have f0 := hG.free 0
  have q0 : IntKind.u8.wrap (n : Int) = (n : Int) := by simp [IntKind.wrap, IntKind.bits, IntKind.signed]; omega
  have hle : w.heap.size ≤ w.heap.size + 1 := by omega
  have hG3 : Blk 5 (W2.setCell ⟨w.heap.size + 1, 0, none⟩ (.int .u8 (n : Int))) (w.heap.size + 1) (cls ((List.replicate L 0).set 0 n)) := by rw [← cls_set]; exact hG.store 0 _
  have hX3 := hX2.away (p := ⟨w.heap.size + 1, 0, none⟩) (by show w.heap.size ≠ w.heap.size + 1; omega) (.int .u8 (n : Int))
  have hb3 := hb2.setCell (p := ⟨w.heap.size + 1, 0, none⟩) hle (.int .u8 (n : Int))
  have X := Lib.hid (And.intro hX3 (And.intro hb3 (And.intro hG3 (And.intro hL hsz2))))
  clear hX2 hb2 hG hX3 hb3 hG3 hL hsz2
  go_upto_region 3 with (fail)
  generalize W2.setCell ⟨w.heap.size + 1, 0, none⟩ (.int .u8 (n : Int)) = W3 at *
  obtain ⟨hX3, hb3, hG3, hL, hsz2⟩ := X.out
  clear X c1 z0 f0 q0 hsz2
  have s1 : ∀ W : World, (Instr.slice 79 (.slice (some ⟨w.heap.size + 1, 0, none⟩) L L) (some (.int .i64 1)) (some (.int .i64 5)) none).run Tryz.prog W = .ok (.slice (some ⟨w.heap.size + 1, 1, none⟩) 4 (L - 1)) W := fun W => cut_both_run (w.heap.size + 1) 0 L L 1 5 (by omega) (by omega) W rfl rfl rfl rfl rfl
  have c3 : W3.cell? ⟨w.heap.size, 3, none⟩ = some (.int .u32 seq) := hX3.at_ 3
  have P1 := putf_any (w := W3.drew) (off := 1) (cap := L - 1) hs hG3 (by simp; omega)
  have X := Lib.hid (And.intro hX3 (And.intro hb3 (And.intro hG3 hL)))
  clear hX3 hb3 hG3 hL
  go_still_tail 5, (by kernel_rfl)
  change wpList _ _ _ _ _ W3.drew
  go_wp2_with fail
  refine P1.mono ?_
  rintro e w3 ⟨rfl, hG4, hT4⟩
  clear P1 s1 c3
  obtain ⟨hX3, hb3, hG3, hL⟩ := X.out
  have hX4 := hX3.drew.turn hT4 (by simp)
  have hb4 := hb3.drew.trans (hT4.below (B := w.heap.size) (by simp) hb3.size)
  clear X hX3 hb3 hG3 hT4
  generalize hB4 : set4 ((List.replicate L 0).set 0 n) 1 seq = B4 at *
  have hB4l : B4.length = L := by rw [← hB4, set4_length]; simp
  have s2 : ∀ W : World, (Instr.slice 79 (.slice (some ⟨w.heap.size + 1, 0, none⟩) L L) (some (.int .i64 5)) (some (.int .i64 7)) none).run Tryz.prog W = .ok (.slice (some ⟨w.heap.size + 1, 5, none⟩) 2 (L - 5)) W := fun W => cut_both_run (w.heap.size + 1) 0 L L 5 7 (by omega) (by omega) W rfl rfl rfl rfl rfl
  have c4 : w3.cell? ⟨w.heap.size, 4, none⟩ = some (.int .u16 met) := hX4.at_ 4
  have P2 := putt_any (w := w3.drew) (off := 5) (cap := L - 5) hm hG4 (by omega)
  have q2 : IntKind.u32.wrap (met : Int) = met := by simp [IntKind.wrap, IntKind.bits, IntKind.signed]; omega
  have X := Lib.hid (And.intro hX4 (And.intro hb4 (And.intro hL (And.intro hB4 hB4l))))
  clear hX4 hb4 hL hB4 hB4l hG4
  go_upto_region 4 with (fail)
  go_still_tail 6, (by kernel_rfl)
  change wpList _ _ _ _ _ w3.drew
  go_wp2_with fail
  refine P2.mono ?_
  rintro e w4 ⟨rfl, hG5, hT5⟩
  clear P2 s2 c4 q2
  obtain ⟨hX4, hb4, hL, hB4, hB4l⟩ := X.out
  have hX5 := hX4.drew.turn hT5 (by simp)
  have hb5 := hb4.drew.trans (hT5.below (B := w.heap.size) (by simp) hb4.size)
  clear X hX4 hb4 hT5
  generalize hB5 : set2 B4 5 met = B5 at *
  have hB5l : B5.length = L := by rw [← hB5, set2_length]; exact hB4l
  subst hB4
  have X := Lib.hid (And.intro hX5 (And.intro hb5 (And.intro hL (And.intro hB5 (And.intro hB5l hG5)))))
  clear hX5 hb5 hL hB5 hB5l hG5
  go_upto_region 6 with (fail)
  obtain ⟨hX5, hb5, hL, hB5, hB5l, hG5⟩ := X.out
  have hN6 := Blk.new w4 272 (cls [0, 0, 0, 0])
  have hsz := hX5.lt
  have hX6 := hX5.more (.cells (cls [0, 0, 0, 0]) 272)
  have hG6 := hG5.more (.cells (cls [0, 0, 0, 0]) 272)
  have hb6 := next hb5 (below_new w4 (.cells (cls [0, 0, 0, 0]) 272))
  have hne : w4.heap.size ≠ w.heap.size := by omega
  have hne1 : w4.heap.size ≠ w.heap.size + 1 := by have := hG5.lt; omega
  change Code.wp _ _ _ _ (w4.alloc (.cells (cls [0, 0, 0, 0]) 272))
  generalize w4.alloc (.cells (cls [0, 0, 0, 0]) 272) = W6 at *
  have hle6 : w.heap.size ≤ w4.heap.size := by omega
  clear X hX5 hb5 hG5 hsz
  generalize w4.heap.size = ga at *
  have c0 : W6.cell? ⟨w.heap.size, 0, none⟩ = some (.int .u32 a) := hX6.at_ 0
  have P3 := putf_any (w := W6.drew) (off := 0) (cap := 4) ha hN6 (by simp)
  rw [four_set] at P3
  have X := Lib.hid (And.intro hX6 (And.intro hb6 (And.intro hL (And.intro hB5 (And.intro hB5l hG6)))))
  clear hX6 hb6 hL hB5 hB5l hG6
  go_still_tail 4, (by kernel_rfl)
  change wpList _ _ _ _ _ W6.drew
  go_wp2_with fail
  refine P3.mono ?_
  rintro e w7 ⟨rfl, hN7, hT7⟩
  clear P3 c0 hN6
  obtain ⟨hX6, hb6, hL, hB5, hB5l, hG6⟩ := X.out
  have hX7 := hX6.drew.turn hT7 (by simp; omega)
  have hG7 := hG6.drew.turn hT7 (by simp; omega)
  have hb7 := hb6.drew.trans (hT7.below (B := w.heap.size) (by simp; omega) hb6.size)
  clear X hX6 hb6 hG6 hT7
  obtain ⟨A', hA'⟩ : ∃ A' : Option Addr, A' = if L = 7 then some ⟨w.heap.size + 1, 0, none⟩ else (some (⟨w.heap.size + 1, 0, none⟩ : Addr)).map (·.add 7) := ⟨_, rfl⟩
  obtain ⟨m, hm7⟩ : ∃ m, m = L - 7 := ⟨_, rfl⟩
  have s7 : ∀ W : World, (Instr.slice 79 (.slice (some ⟨w.heap.size + 1, 0, none⟩) L L) (some (.int .i64 7)) none none).run Tryz.prog W = .ok (.slice A' m m) W := fun W => cut_low_run _ L L 7 (by omega) (by omega) W (z := 7) rfl hA' hm7 hm7
  obtain ⟨w8, hrun, hG8, hT8⟩ := copy_tail (w := w7.drew) hG7.drew hB5l hL3 hL4 hN7.drew hA' (c := m) hm7 3
  have hb8 := hb7.drew.trans (hT8.below (B := w.heap.size) (by simp) hb7.size)
  rw [hm7] at hG8
  have hmk : L - 7 = nb n := by omega
  rw [hmk, ← hB5, hL, body_made (id := id) rfl] at hG8
  have X := Lib.hid (And.intro hG8 (And.intro hb8 hL))
  clear hX7 hG7 hb7 hN7 hL hB5 hB5l hG8 hT8 hb8 hA' hmk hm7
  go_upto_region 7 with (fail)
  go_still_tail 3, (by kernel_rfl)
  change wpList _ _ _ _ _ w7.drew
  go_wp2_with fail
  go_ret
  obtain ⟨hG8, hb8, hL⟩ := X.out
  exact ⟨w.heap.size + 1, L, rfl, hL, hle, hG8, hb8⟩
end Go.Proofs.YtkchckeecfalhaaGreat.T

set_option maxRecDepth 20000
namespace Go.Proofs.YtkchckeecfalhaaGreat.T
open Go.RowKit Tm

/-! ### bytes that the call owns, nil let in -/
def Lb (B : Nat) (v : Value) (bs : List Nat) (W : World) : Prop := W.ownsRow B 5 1 v bs.length (bs.map cell)
section
variable {B : Nat} {v : Value} {bs : List Nat} {W W' : World}
theorem Lb.nil (B : Nat) (W : World) : Lb B (.slice none 0 0) [] W := ⟨rfl, .inl ⟨rfl, rfl⟩⟩
theorem Lb.of_block (h : Lb B v bs W) (hb : ∀ b, v.ownBlock = some b → W'.heap[b]? = W.heap[b]?) : Lb B v bs W' := by
  obtain ⟨h1, h2⟩ := h
  refine ⟨h1, ?_⟩
  rcases h2 with h2 | ⟨g, cap, cur, rfl, h4, h5, h6⟩
  · exact .inl h2
  · exact .inr ⟨g, cap, cur, rfl, h4, (hb g rfl).trans h5, h6⟩
theorem Lb.lt (h : Lb B v bs W) {b : Nat} (hb : v.ownBlock = some b) : b < W.heap.size ∧ B ≤ b := by
  rcases h.2 with ⟨rfl, _⟩ | ⟨g, cap, cur, rfl, h4, h5, _⟩
  · cases hb
  · cases hb
    exact ⟨(Array.getElem?_eq_some_iff.1 h5).1, h4⟩
theorem Lb.held (h : Lb B v bs W) (hb : Below W.heap.size W W') : Lb B v bs W' := h.of_block fun b e => hb.block b (h.lt e).1
theorem Lb.form (h : Lb B v bs W) : ∃ p cap, v = .slice p bs.length cap ∧ bs.length ≤ cap := by
  rcases h.2 with ⟨rfl, h0⟩ | ⟨g, cap, cur, rfl, _, _, h6, _⟩
  · exact ⟨none, 0, by rw [h0], by omega⟩
  · exact ⟨_, cap, rfl, h6⟩
theorem Lb.of_ob {g cap : Nat} (h : Ob W g cap bs) (hB : B ≤ g) : Lb B (.slice (some ⟨g, 0, none⟩) bs.length cap) bs W := by
  obtain ⟨cur, h1, h2, h3, h4, h5⟩ := h
  exact ⟨by simp, .inr ⟨g, cap, cur, rfl, hB, h1, h3, h4, by omega, by rw [Nat.mul_one]; exact h5⟩⟩
/-- 'append(b, x...)' -/
theorem run_lb (h : Lb B v bs W) (hB : B ≤ W.heap.size) {A : Option Addr} {m : Nat} {news : List Nat} (hx : BytesAt W A m news) (h0 : 0 < m) (hm : bs.length + m ≤ 5000) (c : Nat) (ty : TypeId) :
    ∃ g' cap' W', (Builtin.append_ #[79, 79] ty #[v, .slice A m c]).run Tryz.prog W = .ok (.slice (some ⟨g', 0, none⟩) (bs.length + m) cap') W' ∧ Ob W' g' cap' (bs ++ news) ∧ W.grownBy W' v.ownBlock ∧ B ≤ g' ∧ (v.ownBlock = some g' ∨ g' = W.heap.size) := by
  obtain ⟨i0, hi, hz0, hz1, hz2⟩ := info_parts byte_parts
  obtain ⟨ad, rfl⟩ : ∃ ad, A = some ad := by
    obtain ⟨_, _, _, hc⟩ := hx
    obtain ⟨ad', e, _⟩ := hc 0 h0
    exact ⟨_, e⟩
  obtain ⟨v', u', hr, hown, hgr, hnil, hat⟩ := run_append_own_at (P := Tryz.prog) W B 79 ty 5 i0 (.int .u8 0) 1 1 (by kernel_rfl) hi hz0 hz1 hz2 rfl (by decide) v _ _ h ad m c (news.map cell) (by simp [hx.1]) (fun j v hv => by
      obtain ⟨hl, -, -, hc⟩ := hx
      have hj : j < m := by
        have := (List.getElem?_eq_some_iff.1 hv).1
        simp at this; omega
      obtain ⟨ad', e, h'⟩ := hc j hj
      cases e
      rw [h', ← hv]
      have hj' : j < news.length := by omega
      simp [hj', cell]) (cell_one _) (maxLen_small hm) (by omega) hB
  rcases hown.2 with ⟨rfl, h1⟩ | ⟨g', cap', cur, rfl, h4, hg, h1, h2, h3, h5⟩
  · have := (hnil.1 rfl).2
    omega
  · refine ⟨g', cap', u', hr, ⟨cur, hg, by omega, by simp [hx.1]; omega, h2, ?_⟩, hgr, h4, ?_⟩
    · rw [List.length_append, hx.1, List.map_append, ← h5, Nat.mul_one]
    · rcases hat with h | h
      · exact .inl (h.symm.trans rfl)
      · exact .inr (by simpa [Value.ownBlock] using h)
end

/-! ### stores into bytes that the call owns -/
theorem Ob.setCell {u : World} {g cap : Nat} {bs : List Nat} (h : Ob u g cap bs) (i : Nat) (x : Nat) : Ob (u.setCell ⟨g, i, none⟩ (cell x)) g cap (bs.set i x) := by
  obtain ⟨cur, h1, h2, h3, h4, h5⟩ := h
  refine ⟨_, h1.store i (cell x), by simpa using h2, by simpa using h3, h4, ?_⟩
  rw [List.length_set, Array.toList_setIfInBounds, List.take_set, h5, List.map_set]
theorem put_ob4 {u : World} {g cap : Nat} {bs : List Nat} (h : Ob u g cap bs) {off v : Nat} (hv : v < 4294967296) (hs : off + 4 ≤ bs.length) (c : Nat) :
    Calls Tryz.prog 140 #[.slice (some ⟨g, off, none⟩) 4 c, .int .u32 v] u fun e w' => e = .returned (.tuple #[]) ∧ Ob w' g cap (set4 bs off v) ∧ Turn [g] u w' := by
  obtain ⟨cur, h1, h2, h3, h4, h5⟩ := id h
  refine (put_four g off c v hv cur u h1 (by omega)).mono ?_
  rintro e w' ⟨rfl, rfl⟩
  exact ⟨rfl, (((h.setCell _ _).setCell _ _).setCell _ _).setCell _ _, (((Turn.setCell u (by simp) _).trans (Turn.setCell _ (by simp) _)).trans (Turn.setCell _ (by simp) _)).trans (Turn.setCell _ (by simp) _)⟩
theorem put_ob2 {u : World} {g cap : Nat} {bs : List Nat} (h : Ob u g cap bs) {off v : Nat} (hv : v < 65536) (hs : off + 2 ≤ bs.length) (c : Nat) :
    Calls Tryz.prog 140 #[.slice (some ⟨g, off, none⟩) 2 c, .int .u32 v] u fun e w' => e = .returned (.tuple #[]) ∧ Ob w' g cap (set2 bs off v) ∧ Turn [g] u w' := by
  obtain ⟨cur, h1, h2, h3, h4, h5⟩ := id h
  refine (put_two g off c v hv cur u h1 (by omega)).mono ?_
  rintro e w' ⟨rfl, rfl⟩
  exact ⟨rfl, (h.setCell _ _).setCell _ _, (Turn.setCell u (by simp) _).trans (Turn.setCell _ (by simp) _)⟩

set_option maxHeartbeats 400000 in
theorem parts_any {u : Up} (hr : right u = true) (hf : u.Fits) {id : Nat} (hid : id < 4294967296) (w : World) :
    Calls Tryz.prog 169 #[.agg (ucs u.a u.len u.id u.seq u.met), .int .u32 id] w fun e w' => ∃ g cap L, e = .returned (.slice (some ⟨g, 0, none⟩) L cap) ∧ L = (parts u id).length ∧ w.heap.size ≤ g ∧ Ob w' g cap (parts u id) ∧ Below w.heap.size w w' := by
  obtain ⟨n, hn⟩ : ∃ n : Nat, u.len = (n : Int) := ⟨u.len.toNat, by have := right_len hr; omega⟩
  have hn32 : n ≤ 32 := by have := right_len hr; omega
  obtain ⟨a, len, uid, seq, met⟩ := u
  simp only at hn
  subst hn
  obtain ⟨ha, -, -, hu, hs, hm⟩ := hf
  simp only at ha hu hs hm
  simp only
  unfold ucs
  have hX := Blk.new w 123 #[.int .u32 a, .int .i64 (n : Nat), .int .u32 uid, .int .u32 seq, .int .u16 met]
  have hb := below_new w (.cells #[.int .u32 a, .int .i64 (n : Nat), .int .u32 uid, .int .u32 seq, .int .u16 met] 123)
  have hsz := size_new w (.cells #[.int .u32 a, .int .i64 (n : Nat), .int .u32 uid, .int .u32 seq, .int .u16 met] 123)
  have c1 : (w.alloc (.cells #[.int .u32 a, .int .i64 (n : Nat), .int .u32 uid, .int .u32 seq, .int .u16 met] 123)).cell? ⟨w.heap.size, 2, none⟩ = some (.int .u32 uid) := hX.at_ 2
  have X := Lib.hid (And.intro hX (And.intro hb hsz))
  clear hX hb hsz
  have hpa : parts ⟨a, (n : Nat), uid, seq, met⟩ id = (if uid = id then [] else 2 :: 4 :: four uid) ++ 3 :: (7 + nb n) :: body ⟨a, (n : Nat), uid, seq, met⟩ := rfl
  obtain ⟨PP, hPP⟩ : ∃ PP, PP = parts ⟨a, (n : Nat), uid, seq, met⟩ id := ⟨_, rfl⟩
  rw [← hPP]
  rw [← hPP] at hpa
  have PH := Lib.hid hpa
  clear hPP hpa
  go_enter Tryz.func169, Tryz.ntmps169
  go_upto_if 10 with (fail)
  generalize w.alloc _ = W1 at *
  go_cut [5] from 7 (fun v u => Lb w.heap.size v (if uid = id then [] else 2 :: 4 :: four uid) u ∧ Blk 123 u w.heap.size #[.int .u32 a, .int .i64 (n : Nat), .int .u32 uid, .int .u32 seq, .int .u16 met] ∧ Below w.heap.size w u)
  case first =>
    cases he : ((uid : Int) != (id : Int))
    · have e : uid = id := by
        have h2 : (uid : Int) = id := by simpa using he
        omega
      go_wp2_with fail
      go_meet
      case rel =>
        obtain ⟨hX, hb, -⟩ := X.out
        rw [if_pos e]
        exact ⟨Lb.nil _ _, hX, hb⟩
    · have e : ¬ uid = id := fun e => by subst e; simp at he
      clear he
      obtain ⟨hX, hb, hsz⟩ := X.out
      obtain ⟨o, ho⟩ : ∃ o, o = Obj.cells #[.int .u8 2, .int .u8 4, .int .u8 0, .int .u8 0, .int .u8 0, .int .u8 0] 5 := ⟨_, rfl⟩
      have hN : Blk 5 (W1.alloc o) W1.heap.size (cls [2, 4, 0, 0, 0, 0]) := by rw [ho]; exact Blk.new W1 _ _
      have hX2 := hX.more o
      have hb2 := next hb (below_new W1 o)
      have hle := hb2.size
      have hBy := BytesAt.cls hN (by decide) (by decide)
      obtain ⟨g', cap', W3, hrun, hO3, hg3, hB3, hat⟩ := run_lb (B := w.heap.size) (Lb.nil w.heap.size (W1.alloc o)) hle (c := 6) hBy (by simp) (by simp) 79
      have hrun2 : (Builtin.append_ #[79, 79] 79 #[.slice none 0 0, .slice (some ⟨W1.heap.size, 0, none⟩) 6 6]).run Tryz.prog (W1.alloc (.cells #[.int .u8 2, .int .u8 4, .int .u8 0, .int .u8 0, .int .u8 0, .int .u8 0] 5)) = .ok (.slice (some ⟨g', 0, none⟩) 6 cap') W3 := by rw [← ho]; exact hrun
      have hO3' : Ob W3 g' cap' [2, 4, 0, 0, 0, 0] := hO3
      obtain ⟨A', hA'⟩ : ∃ A' : Option Addr, A' = some ⟨g', 2, none⟩ := ⟨_, rfl⟩
      obtain ⟨c', hc'⟩ : ∃ c', c' = cap' - 2 := ⟨_, rfl⟩
      have hcap' : 6 ≤ cap' := by obtain ⟨_, _, _, h, _⟩ := hO3'; simpa using h
      have s2 : ∀ W : World, (Instr.slice 79 (.slice (some ⟨g', 0, none⟩) 6 cap') (some (.int .i64 2)) none none).run Tryz.prog W = .ok (.slice (some ⟨g', 2, none⟩) 4 c') W := fun W => cut_low_run _ 6 cap' 2 (by omega) hcap' W (z := 2) rfl (by rw [if_neg (by omega)]; rfl) rfl hc'
      have hX3 : Blk 123 W3 w.heap.size #[.int .u32 a, .int .i64 (n : Nat), .int .u32 uid, .int .u32 seq, .int .u16 met] := (hg3.block _ hX2.lt (by simp [Value.ownBlock])).trans hX2
      have hb3 := hb2.grown hg3 hle (fun kk e => by cases e)
      have hne : g' ≠ w.heap.size := by
        rcases hat with h | h
        · cases h
        · have := hX2.lt
          omega
      have c3 : W3.cell? ⟨w.heap.size, 1 + 1, none⟩ = some (.int .u32 uid) := hX3.at_ 2
      have P := put_ob4 (u := W3.drew) hO3'.drew (off := 2) hu (by simp) c'
      have Y := Lib.hid (And.intro hX3 (And.intro hb3 (And.intro hne hB3)))
      clear hN hX2 hb2 hle hBy hrun hO3 hO3' hg3 hat hA' A' hX3 hb3 hne hc' hcap' hX hb hsz
      go_wp2_with (first | (at_builtin; refine Lib.wpList_append_run _ rfl (.tmp 11) (.tmp 12) 79 79 rfl _ _ rfl rfl _ _ hrun2 ?_) | fail)
      go_still_tail 4, (by kernel_rfl)
      change wpList _ _ _ _ _ W3.drew
      go_wp2_with fail
      refine P.mono ?_
      rintro e w4 ⟨rfl, hO4, hT4⟩
      go_wp2_with fail
      go_meet
      case rel =>
        obtain ⟨hX3, hb3, hne, hB3⟩ := Y.out
        rw [if_neg e]
        exact ⟨Lb.of_ob hO4 hB3, hX3.drew.turn hT4 (by simp; omega), hb3.drew.trans (hT4.below (B := w.heap.size) (by simp; omega) hb3.size)⟩
  case rest =>
    clear X c1
    obtain ⟨hL, hX, hb⟩ := hcut
    have hbl : (body ⟨a, (n : Nat), uid, seq, met⟩).length = 7 + nb n := body_length hr
    have hbt := body_lt hr
    have hnb := nb_le hn32
    have hpa := PH.out
    clear PH
    have hpl : (if uid = id then ([] : List Nat) else 2 :: 4 :: four uid).length ≤ 6 := by split <;> simp [four_length]
    generalize (if uid = id then ([] : List Nat) else 2 :: 4 :: four uid) = pre at *
    obtain ⟨p, cap, hv, hcap⟩ := hL.form
    obtain ⟨q, hq⟩ : ∃ q, q = pre.length := ⟨_, rfl⟩
    rw [← hq] at hv hpl hcap
    subst hv
    have c0 : wc.cell? ⟨w.heap.size, 0, none⟩ = some (.int .u32 a) := hX.at_ 0
    have c1 : wc.cell? ⟨w.heap.size, 1, none⟩ = some (.int .i64 (n : Nat)) := hX.at_ 1
    have c2 : wc.cell? ⟨w.heap.size, 2, none⟩ = some (.int .u32 uid) := hX.at_ 2
    have c3 : wc.cell? ⟨w.heap.size, 3, none⟩ = some (.int .u32 seq) := hX.at_ 3
    have c4 : wc.cell? ⟨w.heap.size, 4, none⟩ = some (.int .u16 met) := hX.at_ 4
    have B := body_any a n uid seq met ha hn32 hs hm wc
    generalize body ⟨a, (n : Nat), uid, seq, met⟩ = bd at *
    have PH := Lib.hid hpa
    have Y := Lib.hid (And.intro hL (And.intro hb (And.intro hbl (And.intro hbt (And.intro hq hcap)))))
    clear hpa hL hb hbl hbt hq hcap hX hr
    go_wp2_with fail
    refine B.mono ?_
    rintro e w5 ⟨g5, L5, rfl, hL5, hg5, hG5, hb5⟩
    clear B c0 c1 c2 c3 c4
    obtain ⟨hL, hb, hbl, hbt, hq, hcap⟩ := Y.out
    have hL2 := hL.held hb5
    have hb2 := next hb hb5
    have hlt : ∀ b, (Value.slice p q cap).ownBlock = some b → b ≠ g5 := fun b e h => by have := (hL.lt e).1; omega
    clear Y hL hb hg5 hb5
    rw [← hL5] at hbl
    have hL5a : L5 ≤ 11 := by omega
    have hL57 : 7 ≤ L5 := by omega
    have q5 : IntKind.u8.wrap (L5 : Int) = L5 := by simp [IntKind.wrap, IntKind.bits, IntKind.signed]; omega
    obtain ⟨o, ho⟩ : ∃ o, o = Obj.cells #[.int .u8 3, .int .u8 (L5 : Nat)] 5 := ⟨_, rfl⟩
    have hN : Blk 5 (w5.alloc o) w5.heap.size (cls [3, L5]) := by rw [ho]; exact Blk.new w5 _ _
    have hL3 := hL2.held (below_new w5 o)
    have hG3 := hG5.more o
    have hb3 := next hb2 (below_new w5 o)
    have hle := hb3.size
    have hBy := BytesAt.cls hN (by intro c hc; simp at hc; omega) (by simp)
    obtain ⟨g6, cap6, W6, hrun, hO6, hg6, hB6, hat⟩ := run_lb hL3 hle (c := 2) hBy (by simp) (by simp; omega) 79
    have hrun2 : (Builtin.append_ #[79, 79] 79 #[.slice p q cap, .slice (some ⟨w5.heap.size, 0, none⟩) 2 2]).run Tryz.prog (w5.alloc (.cells #[.int .u8 3, .int .u8 (L5 : Nat)] 5)) = .ok (.slice (some ⟨g6, 0, none⟩) (q + 2) cap6) W6 := by rw [← ho, hq]; rw [hq] at hrun; exact hrun
    have hG6 : Blk 5 W6 g5 (cls bd) := (hg6.block _ hG3.lt (fun e => hlt _ e.symm rfl)).trans hG3
    have hb6 := hb3.grown hg6 hle (fun kk e => (hL3.lt e).2)
    have hBd : BytesAt W6 (some ⟨g5, 0, none⟩) L5 bd := by rw [← hbl]; exact BytesAt.cls hG6 hbt (by omega)
    obtain ⟨g7, cap7, W7, hrun3, hO7, hT7, hat7⟩ := run_app hO6 hBd (by simp; omega) L5 79
    have hb7 := hb6.trans (hT7.below (B := w.heap.size) (by simp; exact hB6) hb6.size)
    have hB7 : w.heap.size ≤ g7 := by rcases hat7 with rfl | h; exact hB6; exact Nat.le_trans hb6.size h
    obtain ⟨q7, hq7⟩ : ∃ q7, q7 = q + 2 + L5 := ⟨_, rfl⟩
    have hrun4 : (Builtin.append_ #[79, 79] 79 #[.slice (some ⟨g6, 0, none⟩) (q + 2) cap6, .slice (some ⟨g5, 0, none⟩) L5 L5]).run Tryz.prog W6 = .ok (.slice (some ⟨g7, 0, none⟩) q7 cap7) W7 := by
      rw [hq7, hq]; simpa using hrun3
    have hql : q7 = (pre ++ 3 :: L5 :: bd).length := by rw [hq7, hq]; simp; omega
    have hO8 : Ob W7 g7 cap7 (pre ++ 3 :: L5 :: bd) := by simpa using hO7
    have Z := Lib.hid (And.intro hL5 (And.intro hql (And.intro hB7 (And.intro hO8 hb7))))
    obtain ⟨q6, hq6⟩ : ∃ q6, q6 = q + 2 := ⟨_, rfl⟩
    rw [← hq6] at hrun2 hrun4
    clear hL5 hG5 hbl hbt hq hcap hL2 hb2 hlt hN hL3 hG3 hb3 hle hBy hrun hO6 hg6 hB6 hat hG6 hb6 hBd hrun3 hO7 hT7 hat7 hb7 hB7 hq7 hql hO8 hq6
    go_wp2_with (first
      | (at_builtin; refine Lib.wpList_append_run _ rfl (.tmp 21) (.tmp 25) 79 79 rfl _ _ rfl rfl _ _ hrun2 ?_)
      | (at_builtin; refine Lib.wpList_append_run _ rfl (.tmp 27) (.tmp 28) 79 79 rfl _ _ rfl rfl _ _ hrun4 ?_)
      | fail)
    go_ret
    obtain ⟨hL5, hql, hB7, hO8, hb7⟩ := Z.out
    rw [PH.out, ← hL5]
    exact ⟨g7, cap7, q7, rfl, hql, hB7, hO8, hb7⟩
end Go.Proofs.YtkchckeecfalhaaGreat.T

set_option maxRecDepth 20000
namespace Go.Proofs.YtkchckeecfalhaaGreat.T
open Go.RowKit Tm

/-- a row's value -/
def rv (g cap : Nat → Nat) (rows : List (List Nat)) (i : Nat) : Value := .slice (some ⟨g i, 0, none⟩) (rows.getD i []).length (cap i)
def rvs (g cap : Nat → Nat) (rows : List (List Nat)) : List Value := (List.range rows.length).map (rv g cap rows)
theorem rvs_length (g cap : Nat → Nat) (rows : List (List Nat)) : (rvs g cap rows).length = rows.length := by simp [rvs]
theorem rvs_get {g cap : Nat → Nat} {rows : List (List Nat)} {i : Nat} (hi : i < rows.length) : (rvs g cap rows)[i]? = some (rv g cap rows i) := by simp [rvs, hi]
theorem infoSl : (Tryz.prog.info? 79).map (fun i => (i.zero, i.size, i.bytes)) = some (some (.slice none 0 0), 1, 24) := by kernel_rfl

structure Lag (B : Nat) (v : Value) (rows : List (List Nat)) (g cap : Nat → Nat) (W : World) : Prop where
  own : W.ownsRow B 79 1 v rows.length (rvs g cap rows)
  ob : ∀ i, i < rows.length → Ob W (g i) (cap i) (rows.getD i [])
  ge : ∀ i, i < rows.length → B ≤ g i
  inj : ∀ i j, i < rows.length → j < rows.length → g i = g j → i = j
  out : ∀ i, i < rows.length → v.ownBlock ≠ some (g i)
def Las (B : Nat) (v : Value) (rows : List (List Nat)) (W : World) : Prop := ∃ g cap, Lag B v rows g cap W
section
variable {B : Nat} {v : Value} {rows : List (List Nat)} {g cap : Nat → Nat} {W W' : World}
theorem Las.nil (B : Nat) (W : World) : Las B (.slice none 0 0) [] W := ⟨fun _ => 0, fun _ => 0, ⟨rfl, .inl ⟨rfl, rfl⟩⟩, fun i h => by simp at h, fun i h => by simp at h, fun i j h => by simp at h, fun i h => by simp at h⟩
theorem Lag.of_block (h : Lag B v rows g cap W) (hb : ∀ b, v.ownBlock = some b → W'.heap[b]? = W.heap[b]?) (hg : ∀ i, i < rows.length → W'.heap[g i]? = W.heap[g i]?) : Lag B v rows g cap W' := by
  refine ⟨⟨h.own.1, ?_⟩, fun i hi => (h.ob i hi).of_block (hg i hi), h.ge, h.inj, h.out⟩
  rcases h.own.2 with h2 | ⟨gb, cp, cur, rfl, h4, h5, h6⟩
  · exact .inl h2
  · exact .inr ⟨gb, cp, cur, rfl, h4, (hb gb rfl).trans h5, h6⟩
theorem Lag.lt (h : Lag B v rows g cap W) {b : Nat} (hb : v.ownBlock = some b) : b < W.heap.size ∧ B ≤ b := by
  rcases h.own.2 with ⟨rfl, _⟩ | ⟨gb, cp, cur, rfl, h4, h5, _⟩
  · cases hb
  · cases hb
    exact ⟨(Array.getElem?_eq_some_iff.1 h5).1, h4⟩
theorem Lag.held (h : Lag B v rows g cap W) (hb : Below W.heap.size W W') : Lag B v rows g cap W' := h.of_block (fun b e => hb.block b (h.lt e).1) (fun i hi => hb.block _ (h.ob i hi).lt)
theorem Las.held (h : Las B v rows W) (hb : Below W.heap.size W W') : Las B v rows W' := by obtain ⟨g, cap, h⟩ := h; exact ⟨g, cap, h.held hb⟩
theorem Lag.form (h : Lag B v rows g cap W) : ∃ p cp, v = .slice p rows.length cp ∧ rows.length ≤ cp := by
  rcases h.own.2 with ⟨rfl, h0⟩ | ⟨gb, cp, cur, rfl, _, _, h6, _⟩
  · exact ⟨none, 0, by rw [h0], by omega⟩
  · exact ⟨_, cp, rfl, h6⟩
theorem Las.form (h : Las B v rows W) : ∃ p cp, v = .slice p rows.length cp ∧ rows.length ≤ cp := by obtain ⟨g, cap, h⟩ := h; exact h.form
/-- the block with its row, where there is one -/
theorem Lag.block (h : Lag B v rows g cap W) (h0 : 0 < rows.length) : ∃ gb cp cur, v = .slice (some ⟨gb, 0, none⟩) rows.length cp ∧ B ≤ gb ∧ Blk 79 W gb cur ∧ rows.length ≤ cp ∧ cp ≤ maxLen ∧ cur.size = cp ∧ cur.toList.take rows.length = rvs g cap rows := by
  rcases h.own.2 with ⟨rfl, h1⟩ | ⟨gb, cp, cur, rfl, h4, h5, h6, h7, h8, h9⟩
  · omega
  · exact ⟨gb, cp, cur, rfl, h4, h5, h6, h7, by omega, by rw [Nat.mul_one] at h9; exact h9⟩
theorem take_at {cur : Array Value} {l : List Value} {n i : Nat} (h : cur.toList.take n = l) (hi : i < n) : cur[i]? = l[i]? := by
  rw [← h, List.getElem?_take, if_pos hi]; simp
/-- 'append(all, row)' -/
theorem Las.push (h : Las B v rows W) (hb : Below W.heap.size W W') (hB : B ≤ W.heap.size) {ad : Addr} {gn cn c : Nat} {new : List Nat} (hc : W'.cell? ad = some (.slice (some ⟨gn, 0, none⟩) new.length cn)) (hO : Ob W' gn cn new) (hn : W.heap.size ≤ gn) (hl : rows.length ≤ 100000) (ty : TypeId) :
    ∃ g' cap' W2, (Builtin.append_ #[220, 220] ty #[v, .slice (some ad) 1 c]).run Tryz.prog W' = .ok (.slice (some ⟨g', 0, none⟩) (rows.length + 1) cap') W2 ∧ Las B (.slice (some ⟨g', 0, none⟩) (rows.length + 1) cap') (rows ++ [new]) W2 ∧ Below B W W2 ∧ ∀ x t C, Blk t W' x C → t ≠ 79 → Blk t W2 x C := by
  obtain ⟨g, cap, h⟩ := h
  obtain ⟨i0, hi, hz0, hz1, hz2⟩ := info_parts infoSl
  have h' := h.held hb
  have hB' : B ≤ W'.heap.size := Nat.le_trans hB hb.size
  obtain ⟨v', W2, hr, hown, hgr, hnil, hat⟩ := run_append_own_at (P := Tryz.prog) W' B 220 ty 79 i0 _ 1 24 (by kernel_rfl) hi hz0 hz1 hz2 rfl (by decide) v rows.length (rvs g cap rows) h'.own ad 1 c [.slice (some ⟨gn, 0, none⟩) new.length cn] rfl (fun j u hu => by
      match j, hu with
      | 0, hu =>
        rw [show ad.add 0 = ad by cases ad; simp [Addr.add]; try (split <;> rfl), hc]
        simpa using hu
      | j + 1, hu => simp at hu) (by simp [Value.oneCell']) (by unfold maxLen; omega) (by omega) hB'
  have hne : ¬ v' = .slice none 0 0 := fun e => by have := (hnil.1 e).2; omega
  have hbl : ∀ k, v.ownBlock = some k → B ≤ k := fun k e => (h'.lt e).2
  have hlt := hO.lt
  have hf : ∀ i, i < rows.length → g i ≠ gn := fun i hi e => by have := (h.ob i hi).lt; omega
  have hfo : v.ownBlock ≠ some gn := fun e => by have := (h.lt e).1; omega
  have ho : ∀ b, b < W'.heap.size → v.ownBlock ≠ some b → v'.ownBlock ≠ some b := fun b hb hv e => by
    rcases hat with h1 | h1
    · rw [h1] at e; exact hv e
    · rw [h1] at e; cases e; omega
  rcases hown.2 with ⟨rfl, _⟩ | ⟨g', cap', cur, rfl, h4, h5, h6, h7, h8, h9⟩
  · exact absurd rfl hne
  · have hgt : ∀ (b x : Nat), (fun i => if i = rows.length then x else g i) rows.length = x := fun _ x => by simp
    refine ⟨g', cap', W2, hr, ⟨fun i => if i = rows.length then gn else g i, fun i => if i = rows.length then cn else cap i, ?_, ?_, ?_, ?_, ?_⟩, (hb.mono hB).grown hgr hB' hbl, fun x t C hx ht => (hgr.block x hx.lt (fun e => by
      rcases h'.own.2 with ⟨rfl, _⟩ | ⟨gq, _, curq, rfl, _, hq, _⟩
      · cases e
      · cases e
        have e2 := hx.symm.trans hq
        cases e2
        exact ht rfl)).trans hx⟩
    · have e : rvs (fun i => if i = rows.length then gn else g i) (fun i => if i = rows.length then cn else cap i) (rows ++ [new]) = rvs g cap rows ++ [.slice (some ⟨gn, 0, none⟩) new.length cn] := by
        simp only [rvs, List.length_append, List.length_cons, List.length_nil, Nat.zero_add, List.range_succ, List.map_append, List.map_cons, List.map_nil]
        congr 1
        · refine List.map_congr_left fun i hi => ?_
          have hi' : i < rows.length := by simpa using hi
          have : i ≠ rows.length := by omega
          simp [rv, this, List.getD, List.getElem?_append_left hi']
        · simp [rv, List.getD]
      rw [List.length_append, e]
      exact hown
    · intro i hi
      rw [List.length_append] at hi
      by_cases e : i = rows.length
      · subst e
        simp only [if_true]
        rw [show (rows ++ [new]).getD rows.length [] = new by simp [List.getD]]
        exact hO.of_block (hgr.block _ hlt (fun e => hfo e.symm))
      · have hi' : i < rows.length := by simp at hi; omega
        simp only [if_neg e]
        rw [show (rows ++ [new]).getD i [] = rows.getD i [] by simp [List.getD, List.getElem?_append_left hi']]
        exact (h'.ob i hi').of_block (hgr.block _ (h'.ob i hi').lt (fun e => h.out i hi' e.symm))
    · intro i hi
      rw [List.length_append] at hi
      split
      · omega
      · exact h.ge i (by simp at hi; omega)
    · intro i j hi hj e
      rw [List.length_append] at hi hj
      simp only [List.length_cons, List.length_nil] at hi hj e
      split at e <;> split at e
      · omega
      · exact absurd e.symm (hf j (by omega))
      · exact absurd e (hf i (by omega))
      · exact h.inj i j (by omega) (by omega) e
    · intro i hi
      rw [List.length_append] at hi
      simp only [List.length_cons, List.length_nil] at hi
      split
      · exact ho _ hlt hfo
      · exact ho _ (h'.ob i (by omega)).lt (h.out i (by omega))
/-- a row replaced: 'all[i] = append(all[i], x...)' -/
theorem Las.app {gb n cp : Nat} (h : Las B (.slice (some ⟨gb, 0, none⟩) n cp) rows W) {i : Nat} (hi : i < rows.length) (hBW : B ≤ W.heap.size) {ad : Addr} {m : Nat} {news : List Nat} (hx : BytesAt W (some ad) m news) (hm : (rows.getD i []).length + m ≤ 5000) (c : Nat) (ty : TypeId) :
    ∃ gi ci g' cap' W1, W.cell? ⟨gb, i, none⟩ = some (.slice (some ⟨gi, 0, none⟩) (rows.getD i []).length ci) ∧
      (Builtin.append_ #[79, 79] ty #[.slice (some ⟨gi, 0, none⟩) (rows.getD i []).length ci, .slice (some ad) m c]).run Tryz.prog W = .ok (.slice (some ⟨g', 0, none⟩) ((rows.getD i []).length + m) cap') W1 ∧
      W1.cell? ⟨gb, i, none⟩ = some (.slice (some ⟨gi, 0, none⟩) (rows.getD i []).length ci) ∧ W1.frozen? ⟨gb, i, none⟩ = false ∧
      Las B (.slice (some ⟨gb, 0, none⟩) n cp) (rows.set i (rows.getD i [] ++ news)) (W1.setCell ⟨gb, i, none⟩ (.slice (some ⟨g', 0, none⟩) ((rows.getD i []).length + m) cap')) ∧
      Below B W (W1.setCell ⟨gb, i, none⟩ (.slice (some ⟨g', 0, none⟩) ((rows.getD i []).length + m) cap')) ∧
      ∀ x t C, Blk t W x C → t ≠ 5 → t ≠ 79 → Blk t (W1.setCell ⟨gb, i, none⟩ (.slice (some ⟨g', 0, none⟩) ((rows.getD i []).length + m) cap')) x C := by
  obtain ⟨g, cap, h⟩ := h
  obtain ⟨gb', cp', cur, hv, hB, hblk, hle, hmx, hsz, htk⟩ := h.block (by omega)
  simp only [Value.slice.injEq, Option.some.injEq, Addr.mk.injEq, and_true] at hv
  obtain ⟨rfl, rfl, rfl⟩ := hv
  have hci : W.cell? ⟨gb, i, none⟩ = some (rv g cap rows i) := by rw [hblk.at_ i, take_at htk hi, rvs_get hi]
  obtain ⟨g', cap', W1, hr, hO, hT, hat⟩ := run_app (h.ob i hi) hx hm c ty
  have hgb : gb ≠ g i := fun e => h.out i hi (by rw [e]; rfl)
  have hblk1 : Blk 79 W1 gb cur := hblk.turn hT (by simpa using hgb)
  have hlt' : g' < W1.heap.size := hO.lt
  have hg'B : B ≤ g' := by rcases hat with e | e; exact e ▸ h.ge i hi; omega
  have hg'gb : gb ≠ g' := by
    rcases hat with e | e
    · rw [e]; exact hgb
    · have := hblk.lt; omega
  have hg'j : ∀ j, j < rows.length → j ≠ i → g j ≠ g' := fun j hj hne => by
    rcases hat with e | e
    · rw [e]; exact fun e2 => hne (h.inj j i hj hi e2)
    · have := (h.ob j hj).lt; omega
  refine ⟨g i, cap i, g', cap', W1, hci, hr, by rw [hblk1.at_ i, take_at htk hi, rvs_get hi]; rfl, hblk1.free i, ⟨fun j => if j = i then g' else g j, fun j => if j = i then cap' else cap j, ?_, ?_, ?_, ?_, ?_⟩, ?_, fun x t C hx ht ht2 => ?_⟩
  · rw [List.length_set]
    refine ⟨by rw [rvs_length, List.length_set, Nat.mul_one], .inr ⟨gb, cp, _, rfl, hB, hblk1.store i _, hle, hmx, by simpa using hsz, ?_⟩⟩
    rw [Nat.mul_one, Array.toList_setIfInBounds, List.take_set, htk]
    refine List.ext_getElem? fun j => ?_
    by_cases hj : j < rows.length
    · rw [rvs_get (rows := rows.set i _) (by simpa using hj), List.getElem?_set]
      by_cases e : i = j
      · subst e
        rw [if_pos rfl, if_pos (by rw [rvs_length]; exact hi)]
        simp [rv, List.getD, hi, hx.1]
      · rw [if_neg e, rvs_get hj]
        have e' : ¬ j = i := fun e2 => e e2.symm
        simp [rv, List.getD, e, e']
    · rw [List.getElem?_eq_none (by simp [rvs_length]; omega), List.getElem?_eq_none (by simp [rvs_length]; omega)]
  · intro j hj
    rw [List.length_set] at hj
    by_cases e : j = i
    · subst e
      simp only [if_true]
      rw [show (rows.set j (rows.getD j [] ++ news)).getD j [] = rows.getD j [] ++ news by simp [List.getD, hj]]
      exact hO.of_block (Below.heap_setCell _ _ _ _ (fun e => hg'gb e.symm))
    · simp only [if_neg e]
      have e' : ¬ i = j := fun e2 => e e2.symm
      rw [show (rows.set i (rows.getD i [] ++ news)).getD j [] = rows.getD j [] by simp [List.getD, e']]
      refine (h.ob j hj).of_block ?_
      rw [Below.heap_setCell _ _ _ _ (fun e2 => h.out j hj (by rw [e2]; rfl))]
      exact hT.block _ (h.ob j hj).lt (by simp; exact fun e2 => e (h.inj j i hj hi e2))
  · intro j hj
    split
    · exact hg'B
    · exact h.ge j (by simpa using hj)
  · intro j k hj hk e
    rw [List.length_set] at hj hk
    split at e <;> split at e
    · omega
    · exact absurd e.symm (hg'j k hk (by assumption))
    · exact absurd e (hg'j j hj (by assumption))
    · exact h.inj j k hj hk e
  · intro j hj
    split
    · simpa [Value.ownBlock] using hg'gb
    · exact h.out j (by simpa using hj)
  · refine Below.setCell ?_ (p := ⟨gb, i, none⟩) hB _
    exact hT.below (B := B) (by simpa using h.ge i hi) hBW
  · have n1 : x ≠ g i := fun e => by
      obtain ⟨_, h1, _⟩ := h.ob i hi
      subst e
      have e2 := hx.symm.trans h1
      cases e2
      exact ht rfl
    have n2 : x ≠ gb := fun e => by
      subst e
      have e2 := hx.symm.trans hblk
      cases e2
      exact ht2 rfl
    exact (hx.turn hT (by simpa using n1)).away (p := ⟨gb, i, none⟩) n2 _
end
end Go.Proofs.YtkchckeecfalhaaGreat.T

