/-
  Package net: New.
  Package net: what is under way; Waiting, send.
  Package net: send.
  Package net: Tick of a machine that runs.
  Package net: waits, Again.
  Package net: slices.Delete of one datagram: what the block's cells are behind it.
-/
import Derived.Test.YtkchckeecfalhaaGreatS26
import Derived.Test.YtkchckeecfalhaaGreatS17
namespace Go.Proofs.YtkchckeecfalhaaGreat
open Go.RowKit Go.Maps Rm
attribute [local go_sem] Oper.semAt_some

/-- a machine as New lays it: a disk of noughts, nothing else -/
structure Fresh (w : World) (k i : Nat) (m : Ma) : Prop where
  r : m.r = none
  c : m.c = fun _ => 0
  z : m.z = ⟨i + 1, k / 2 - 1, sm0⟩
  ex : ∃ S Mp, m.F = [m.d, S, Mp] ∧ Dk w m.d S Mp k (fun _ => List.replicate 48 0) (fun _ => none) (-1)
theorem Fresh.held {w w' : World} {k i : Nat} {m : Ma} (h : Fresh w k i m) (hb : Below w.heap.size w w') : Fresh w' k i m := by
  obtain ⟨S, Mp, h1, h2⟩ := h.ex
  exact ⟨h.r, h.c, h.z, S, Mp, h1, h2.held hb⟩
theorem Fresh.ok {w : World} {k i : Nat} {m : Ma} (h : Fresh w k i m) (hk : 4 ≤ k) (hk2 : k ≤ 512) : m.ok w := by
  obtain ⟨S, Mp, h1, h2⟩ := h.ex
  refine .of_none h.r h1 ⟨k, _, h2, hk, ?_, .inl ⟨?_, ?_, fun i _ => recAt_zero⟩⟩
  · rw [h.z]; show k / 2 - 1 ≤ 500; omega
  · rw [h.z]
  · rw [h.z]; show k / 2 - 1 + 1 ≤ k / 2; omega
def zma : List Value := [.pointer none, .pointer none, .int .i64 0, .int .i64 0, .int .i64 0, .int .i64 0, .int .i64 0, .int .i64 0, .int .i64 0, .int .i64 0]
theorem machine_parts : ∃ i, Tryz.prog.info? 130 = some i ∧ i.zero = some (.agg zma.toArray) ∧ i.size = 10 ∧ i.bytes = 80 := by
  have h : (Tryz.prog.info? 130).map (fun i => (i.zero, i.size, i.bytes)) = some (some (.agg zma.toArray), 10, 80) := by kernel_rfl
  exact info_parts h
def zms (n : Nat) : Array Value := madeCells zma.toArray (n * 10)
theorem zms_size (n : Nat) : (zms n).size = n * 10 := size_madeCells _ _
theorem zms_get {n i j : Nat} (hi : i < n) (hj : j < 10) : (zms n)[i * 10 + j]? = zma[j]? := by
  have hs := zms_size n
  rw [Array.getElem?_eq_getElem (by omega)]
  unfold zms madeCells
  have hm : (i * 10 + j) % 10 = j := by omega
  have : j = 0 ∨ j = 1 ∨ j = 2 ∨ j = 3 ∨ j = 4 ∨ j = 5 ∨ j = 6 ∨ j = 7 ∨ j = 8 ∨ j = 9 := by omega
  rcases this with rfl | rfl | rfl | rfl | rfl | rfl | rfl | rfl | rfl | rfl <;> simp [zma, hm]
theorem run_make_machines (n : Nat) (hn : n ≤ 512) (w : World) : (Instr.makeSlice 124 (.int .i64 (n : Int)) (.int .i64 (n : Int))).run Tryz.prog w = .ok (.slice (some ⟨w.heap.size, 0, none⟩) n n) (w.alloc (.cells (zms n) 130)) := by
  obtain ⟨i, h1, h2, h3, h4⟩ := machine_parts
  have h := run_make (P := Tryz.prog) w 124 130 i _ (by kernel_rfl) h1 h2 .i64 .i64 (n : Int) (n : Int) (by omega) (by omega) (by rw [h4]; omega) (by omega)
  simpa [h3, zms, Value.cells] using h
/-- so many machines have their disks -/
structure Laying (w : World) (MB N n sec k : Nat) (wr : World) : Prop where
  head : Blk 126 wr N #[.slice (some ⟨MB, 0, none⟩) n n, .slice none 0 0]
  ex : ∃ ms : Nat → Ma, (∃ C, Blk 130 wr MB C ∧ C.size = n * 10 ∧ ∀ i, i < n → ∀ j v, (if i < k then (ms i).cells else zma)[j]? = some v → C[i * 10 + j]? = some v) ∧ (∀ i, i < k → Fresh wr sec i (ms i)) ∧
    (∀ i x, i < k → x ∈ (ms i).F → MB < x ∧ N < x ∧ x < wr.heap.size) ∧ (∀ i j, i < k → j < k → i ≠ j → ∀ x, x ∈ (ms i).F → x ∉ (ms j).F)
  below : Below w.heap.size w wr
  lt : MB < wr.heap.size ∧ N < wr.heap.size
  ne : N ≠ MB ∧ w.heap.size ≤ MB ∧ w.heap.size ≤ N
theorem Laying.next {w : World} {MB N n sec k : Nat} {wr w2 : World} (h : Laying w MB N n sec k wr) (hk : k < n) {d S Mp : Nat} (hS : S = wr.heap.size) (hM : Mp = wr.heap.size + 1) (hd : d = wr.heap.size + 2)
    (hD : Dk w2 d S Mp sec (fun _ => List.replicate 48 0) (fun _ => none) (-1)) (hb : Below wr.heap.size wr w2) : Laying w MB N n sec (k + 1) (w2.setCell ⟨MB, k * 10 + 1, none⟩ (.pointer (some ⟨d, 0, none⟩))) := by
  obtain ⟨ms, ⟨C, hC, hs, hr⟩, hf, hx, ha⟩ := h.ex
  have hlt := h.lt
  have hne := h.ne
  have hMB : Turn [MB] w2 (w2.setCell ⟨MB, k * 10 + 1, none⟩ (.pointer (some ⟨d, 0, none⟩))) := Turn.setCell w2 (by simp) _
  have hdlt := hD.head.lt
  have hsz : (w2.setCell ⟨MB, k * 10 + 1, none⟩ (.pointer (some ⟨d, 0, none⟩))).heap.size = w2.heap.size := by simp [World.setCell]
  refine ⟨(h.head.held hb).turn hMB (by simp; exact hne.1), ⟨puts ms k ⟨d, none, [d, S, Mp], fun _ => 0, ⟨k + 1, sec / 2 - 1, sm0⟩⟩, ⟨_, (hC.held hb).store _ _, by rw [Array.size_setIfInBounds, hs], fun i hi j v hv => ?_⟩, fun i hi => ?_, fun i x hi hxm => ?_, fun i j hi hj hij x hxm => ?_⟩, h.below.trans ((hb.mono h.below.size).trans (hMB.below (by simp; exact hne.2.1) (Nat.le_trans h.below.size hb.size))), ?_, hne⟩
  · have hj : j < 10 := by
      split at hv
      · obtain ⟨h1, _⟩ := List.getElem?_eq_some_iff.1 hv; exact h1
      · obtain ⟨h1, _⟩ := List.getElem?_eq_some_iff.1 hv; exact h1
    rw [Array.getElem?_setIfInBounds]
    by_cases e : i = k
    · subst e
      rw [if_pos (by omega), puts_same] at hv
      by_cases e2 : j = 1
      · subst e2
        rw [if_pos rfl, if_pos (by rw [hs]; omega)]
        exact hv
      · rw [if_neg (by omega)]
        refine hr i hi j v ?_
        rw [if_neg (by omega)]
        have : j = 0 ∨ j = 2 ∨ j = 3 ∨ j = 4 ∨ j = 5 ∨ j = 6 ∨ j = 7 ∨ j = 8 ∨ j = 9 := by omega
        rcases this with rfl | rfl | rfl | rfl | rfl | rfl | rfl | rfl | rfl <;> exact hv
    · rw [if_neg (by omega)]
      refine hr i hi j v ?_
      by_cases e2 : i < k
      · rw [if_pos (by omega), puts_other e] at hv
        rw [if_pos e2]
        exact hv
      · rw [if_neg (by omega)] at hv
        rw [if_neg e2]
        exact hv
  · by_cases e : i = k
    · subst e
      rw [puts_same]
      exact ⟨rfl, rfl, rfl, S, Mp, rfl, hD.turn hMB (by simp; omega) (by simp; omega) (by simp; omega)⟩
    · rw [puts_other e]
      obtain ⟨f1, f2, f0, S', M', f3, f4⟩ := hf i (by omega)
      refine ⟨f1, f2, f0, S', M', f3, (f4.held hb).turn hMB ?_ ?_ ?_⟩
      · have := hx i _ (by omega) (by rw [f3]; simp : (ms i).d ∈ (ms i).F); simp; omega
      · have := hx i S' (by omega) (by rw [f3]; simp); simp; omega
      · have := hx i M' (by omega) (by rw [f3]; simp); simp; omega
  · rw [hsz]
    by_cases e : i = k
    · subst e
      rw [puts_same] at hxm
      simp only [List.mem_cons, List.not_mem_nil, or_false] at hxm
      rcases hxm with rfl | rfl | rfl <;> omega
    · rw [puts_other e] at hxm
      have := hx i x (by omega) hxm
      have := hb.size
      omega
  · by_cases e : i = k
    · subst e
      rw [puts_same] at hxm
      rw [puts_other (Ne.symm hij)]
      intro h2
      have := hx j x (by omega) h2
      simp only [List.mem_cons, List.not_mem_nil, or_false] at hxm
      rcases hxm with rfl | rfl | rfl <;> omega
    · rw [puts_other e] at hxm
      by_cases e2 : j = k
      · subst e2
        rw [puts_same]
        intro h2
        have := hx i x (by omega) hxm
        simp only [List.mem_cons, List.not_mem_nil, or_false] at h2
        rcases h2 with rfl | rfl | rfl <;> omega
      · rw [puts_other e2]
        exact ha i j (by omega) (by omega) hij x hxm
  · rw [hsz]
    have := hb.size
    omega
theorem Laying.done {w : World} {MB N n sec : Nat} {wr : World} (h : Laying w MB N n sec n wr) (h1 : 1 ≤ n) (h8 : n ≤ 8) (hk : 4 ≤ sec) (hk2 : sec ≤ 512) : ∃ ms, Nt wr N MB n ms (.slice none 0 0) ∧ (∀ i, i < n → Fresh wr sec i (ms i)) ∧ (∀ i, i < n → ∀ x, x ∈ (ms i).F → w.heap.size ≤ x) := by
  obtain ⟨ms, ⟨C, hC, hs, hr⟩, hf, hx, ha⟩ := h.ex
  have hne := h.ne
  refine ⟨ms, ⟨h.head, ⟨⟨C, hC, hs, fun i hi j v hv => hr i hi j v (by rw [if_pos hi]; exact hv)⟩, fun i hi => (hf i hi).ok hk hk2, ha, fun i hi hm => ?_⟩, hne.1, fun i hi hm => ?_, h1, h8⟩, hf, fun i hi x hm => ?_⟩
  · have := hx i _ hi hm; omega
  · have := hx i _ hi hm; omega
  · have := hx i _ hi hm; omega
theorem Laying.start {w : World} {n sec : Nat} : Laying w w.heap.size (w.heap.size + 1) n sec 0 ((w.alloc (.cells (zms n) 130)).alloc (.cells #[.slice (some ⟨w.heap.size, 0, none⟩) n n, .slice none 0 0] 126)) := by
  have hs1 := size_new w (.cells (zms n) 130)
  have hX := Blk.new w 130 (zms n)
  have hb0 := below_new w (.cells (zms n) 130)
  generalize w.alloc (.cells (zms n) 130) = w1 at *
  have hs2 := size_new w1 (.cells #[.slice (some ⟨w.heap.size, 0, none⟩) n n, .slice none 0 0] 126)
  have hH := Blk.new w1 126 #[.slice (some ⟨w.heap.size, 0, none⟩) n n, .slice none 0 0]
  have hb1 := below_new w1 (.cells #[.slice (some ⟨w.heap.size, 0, none⟩) n n, .slice none 0 0] 126)
  rw [hs1] at hH
  refine ⟨hH, ⟨fun _ => ⟨0, none, [], fun _ => 0, ⟨0, 0, sm0⟩⟩, ⟨_, hX.held hb1, zms_size n, fun i hi j v hv => ?_⟩, fun i hi => by omega, fun i x hi => by omega, fun i j hi => by omega⟩, hb0.trans (hb1.mono hb0.size), by omega, by omega⟩
  rw [if_neg (by omega)] at hv
  have hj : j < 10 := by obtain ⟨h1, _⟩ := List.getElem?_eq_some_iff.1 hv; exact h1
  rw [zms_get hi hj]
  exact hv
theorem Laying.cell {w wr : World} {MB N n sec k : Nat} (h : Laying w MB N n sec k wr) (hk : k < n) : wr.cell? ⟨MB, k * 10 + 1, none⟩ = some (.pointer none) := by
  obtain ⟨ms, ⟨C, hC, hs, hr⟩, _⟩ := h.ex
  exact (hC.at_ _).trans (hr k hk 1 _ (by rw [if_neg (by omega)]; rfl))
theorem Laying.drew {w wr : World} {MB N n sec k : Nat} (h : Laying w MB N n sec k wr) : Laying w MB N n sec k wr.drew := by
  obtain ⟨ms, ⟨C, hC, hs, hr⟩, hf, hx, ha⟩ := h.ex
  exact ⟨h.head.drew, ⟨ms, ⟨C, hC.drew, hs, hr⟩, fun i hi => (hf i hi).held (Below.refl _ _).drew, hx, ha⟩, h.below.drew, h.lt, h.ne⟩
set_option maxRecDepth 100000 in
set_option maxHeartbeats 1000000 in
theorem net_new (n : Nat) (h1 : 1 ≤ n) (h8 : n ≤ 8) (sec : Nat) (hs1 : 4 ≤ sec) (hs2 : sec ≤ 512) (w : World) : Calls Tryz.prog 18 #[.int .i64 (n : Int), .int .i64 (sec : Int)] w fun e w' =>
    ∃ ms, e = .returned (.pointer (some ⟨w.heap.size + 1, 0, none⟩)) ∧ Nt w' (w.heap.size + 1) w.heap.size n ms (.slice none 0 0) ∧ (∀ i, i < n → Fresh w' sec i (ms i)) ∧ (∀ i, i < n → ∀ x, x ∈ (ms i).F → w.heap.size ≤ x) ∧ Below w.heap.size w w' := by
  have hmk := run_make_machines n (by omega)
  have e1 : max (n : Int) 1 = (n : Int) := by omega
  have e2 : min (n : Int) 8 = (n : Int) := by omega
  go_enter Tryz.func18, Tryz.ntmps18
  go_wp2_with fail
  have hL := Laying.start (w := w) (n := n) (sec := sec)
  generalize (w.alloc (.cells (zms n) 130)).alloc (.cells #[.slice (some ⟨w.heap.size, 0, none⟩) n n, .slice none 0 0] 126) = w1 at *
  have L := Lib.hid hL
  clear hL hmk e1 e2
  go_loopw [18] (fun ix wr => ∃ k : Nat, ix = .int .i64 k ∧ k ≤ n ∧ Hid (Laying w w.heap.size (w.heap.size + 1) n sec k wr)) (fun ix _ => n - (intOf ix).toNat)
  case atStart => exact ⟨0, rfl, by omega, L⟩
  case round =>
    obtain ⟨k, rfl, hk, hB⟩ := hrel
    by_cases hkn : k < n
    · have hin : (k : Int) < (n : Int) := by omega
      have c0 : wr.drew.cell? ⟨w.heap.size + 1, 0, none⟩ = some (.slice (some ⟨w.heap.size, 0, none⟩) n n) := hB.out.head.drew.at_ 0
      have HD := new_in sec (by omega) hs2 wr.drew
      clear L
      go_wp2_with fail
      refine wp_region_held_drew (S := fun u => u.cell? ⟨w.heap.size + 1, 0, none⟩ = some (.slice (some ⟨w.heap.size, 0, none⟩) n n)) (by kernel_rfl) c0 (fun hHeld => ?_)
      refine take_list (i := 0) (v := .pointer (some ⟨w.heap.size + 1, 0, none⟩)) rfl (by kernel_rfl) (by kernel_rfl) (by kernel_rfl) (fun _ _ _ h => h) (.inl ⟨rfl, ?_⟩) hHeld ?_
      · (intro w hSw; go_simp)
      go_frame
      refine take_list (i := 1) (v := .pointer (some ⟨w.heap.size + 1, 0, none⟩)) rfl (by kernel_rfl) (by kernel_rfl) (by kernel_rfl) (fun _ _ _ h => h) (.inl ⟨rfl, ?_⟩) hHeld ?_
      · (intro w hSw; go_simp)
      go_frame
      refine take_list (i := 2) (v := .pointer (some ⟨w.heap.size + 1, 0, none⟩)) rfl (by kernel_rfl) (by kernel_rfl) (by kernel_rfl) (fun _ _ _ h => h) (.inl ⟨rfl, ?_⟩) hHeld ?_
      · (intro w hSw; go_simp)
      go_frame
      refine take_list (i := 3) (v := .slice (some ⟨w.heap.size, 0, none⟩) n n) rfl (by kernel_rfl) (by kernel_rfl) (by kernel_rfl) (fun _ _ _ h => h) (.inl ⟨rfl, ?_⟩) hHeld ?_
      · (intro w hSw; go_simp)
      go_frame
      refine take_list (i := 4) (v := .int .i64 k) rfl (by kernel_rfl) (by kernel_rfl) (by kernel_rfl) (fun _ _ _ h => h) (.inl ⟨rfl, ?_⟩) hHeld ?_
      · (intro w hSw; go_simp)
      go_frame
      refine take_list (i := 5) (v := .int .i64 sec) rfl (by kernel_rfl) (by kernel_rfl) (by kernel_rfl) (fun _ _ _ h => h) (.inl ⟨rfl, ?_⟩) hHeld ?_
      · (intro w hSw; go_simp)
      go_frame
      refine ready_list (i := 6) rfl (by kernel_rfl) (fun K hK => ?_)
      go_simp
      refine HD.mono ?_
      rintro e w2 ⟨rfl, hD, hb⟩
      have hN := hB.out.drew.next hkn rfl rfl rfl hD hb
      have c1 : w2.cell? ⟨w.heap.size, k * 10 + 1, none⟩ = some (.pointer none) := held hb (hB.out.drew.cell hkn)
      have f1 : w2.frozen? ⟨w.heap.size, k * 10 + 1, none⟩ = false := by
        obtain ⟨ms, ⟨C, hC, _⟩, _⟩ := hB.out.drew.ex
        exact (hC.held hb).free _
      have hH2 := held hb c0
      have M := Lib.hid hN
      clear hN hD
      refine hK.out _ _ hH2 (fun hHeld => ?_)
      clear hK K HD c0 hb
      try go_frame
      refine take_list (i := 7) (v := .pointer (some ⟨w.heap.size, k * 10, none⟩)) rfl (by kernel_rfl) (by kernel_rfl) (by kernel_rfl) (fun _ _ _ h => h) (.inl ⟨rfl, ?_⟩) hHeld ?_
      · (intro w hSw; go_simp)
      go_frame
      refine take_list (i := 8) (v := .pointer (some ⟨w.heap.size, k * 10 + 1, none⟩)) rfl (by kernel_rfl) (by kernel_rfl) (by kernel_rfl) (fun _ _ _ h => h) (.inl ⟨rfl, ?_⟩) hHeld ?_
      · (intro w hSw; go_simp)
      go_frame
      refine ready_list (i := 9) rfl (by kernel_rfl) (fun K hK => ?_)
      go_simp
      refine hK.out _ _ (M.out.head.at_ 0) (fun hHeld => ?_)
      clear hK K c1 f1 hH2
      refine wpAnyH_done (by kernel_rfl) ?_ _
      try go_frame
      clear hHeld
      go_wp2_with fail
      go_roundw
      case rel => exact ⟨k + 1, by go_num, by omega, M⟩
      case measure => simp [intOf]; omega
    · obtain rfl : k = n := by omega
      have hB2 := hB.out.done h1 h8 hs1 hs2
      have hbl := hB.out.below
      have X := Lib.hid (And.intro hB2 hbl)
      clear L hB hB2 hbl
      go_wp2_with fail
      go_ret
      obtain ⟨⟨ms, a1, a2, a3⟩, a4⟩ := X.out
      exact ⟨ms, rfl, a1, a2, a3, a4⟩
end Go.Proofs.YtkchckeecfalhaaGreat

namespace Go.Proofs.YtkchckeecfalhaaGreat
open Go.RowKit Go.Maps Rm
attribute [local go_sem] Oper.semAt_some

/-- a datagram under way: from, to, and where its bytes lie -/
structure Pe where
  frm : Nat
  dst : Nat
  g : Nat
  n : Nat
  cap : Nat
def pcl (x : Pe) : List Value := [.int .i64 x.frm, .int .i64 x.dst, .slice (some ⟨x.g, 0, none⟩) x.n x.cap]
theorem elemW : Elem Tryz.prog 51 109 pcl 3 40 := ⟨by kernel_rfl, elem_info (z := .agg #[.int .i64 0, .int .i64 0, .slice none 0 0]) (by kernel_rfl) rfl, by omega, fun _ => rfl, fun x v hv => by simp only [pcl, List.mem_cons, List.not_mem_nil, or_false] at hv; rcases hv with rfl | rfl | rfl <;> rfl, by omega⟩
/-- v lists these datagrams; their bytes lie in blocks that others may share, but not v's own -/
structure Wy (v : Value) (os : List (Nat × Nat × List Nat)) (xs : List Pe) (W : World) : Prop where
  own : Ol 109 pcl 3 0 v xs W
  len : xs.length = os.length
  row : ∀ i (h : i < xs.length) (h' : i < os.length), xs[i].frm = os[i].1 ∧ xs[i].dst = os[i].2.1 ∧ xs[i].n = os[i].2.2.length ∧ T.Ob W xs[i].g xs[i].cap os[i].2.2 ∧ v.ownBlock ≠ some xs[i].g
/-- a block of the list -/
def inW (v : Value) (xs : List Pe) (x : Nat) : Prop := v.ownBlock = some x ∨ ∃ p, p ∈ xs ∧ p.g = x
theorem Wy.nil (W : World) : Wy (.slice none 0 0) [] [] W := ⟨Ol.nil _ _, rfl, fun i h => by simp at h⟩
section
variable {v : Value} {os : List (Nat × Nat × List Nat)} {xs : List Pe} {W W' : World}
theorem Wy.turn {L : List Nat} (h : Wy v os xs W) (t : Turn L W W') (hL : ∀ x, inW v xs x → x ∉ L) : Wy v os xs W' :=
  ⟨h.own.turn t fun b e => hL b (.inl e), h.len, fun i hi hi' => by obtain ⟨a, b, c, d, e⟩ := h.row i hi hi'; exact ⟨a, b, c, d.turn t (hL _ (.inr ⟨_, List.getElem_mem hi, rfl⟩)), e⟩⟩
theorem Wy.held (h : Wy v os xs W) (hb : Below W.heap.size W W') : Wy v os xs W' :=
  ⟨h.own.held hb, h.len, fun i hi hi' => by obtain ⟨a, b, c, d, e⟩ := h.row i hi hi'; exact ⟨a, b, c, d.held hb, e⟩⟩
theorem Wy.lt (h : Wy v os xs W) {x : Nat} (hx : inW v xs x) : x < W.heap.size := by
  rcases hx with e | ⟨p, hp, rfl⟩
  · exact (h.own.lt e).1
  · obtain ⟨i, hi, rfl⟩ := List.mem_iff_getElem.1 hp
    exact (h.row i hi (by rw [← h.len]; exact hi)).2.2.2.1.lt
theorem Wy.push (h : Wy v os xs W) {a b g cap : Nat} {bs : List Nat} (hv : v.ownBlock ≠ some g) (ho : T.Ob W g cap bs) (hbig : os.length ≤ 100000) :
    ∃ g' cap' W', (Builtin.append_ #[51, 51] 51 #[v, .slice (some ⟨W.heap.size, 0, none⟩) 1 1]).run Tryz.prog (W.alloc (.cells #[.int .i64 a, .int .i64 b, .slice (some ⟨g, 0, none⟩) bs.length cap] 109)) = .ok (.slice (some ⟨g', 0, none⟩) (os.length + 1) cap') W' ∧
      Wy (.slice (some ⟨g', 0, none⟩) (os.length + 1) cap') (os ++ [(a, b, bs)]) (xs ++ [⟨a, b, g, bs.length, cap⟩]) W' ∧ Turn v.ownBlock.toList W W' ∧ (v.ownBlock = some g' ∨ W.heap.size < g') := by
  obtain ⟨g', cap', W', hrun, hO, hT, hat⟩ := Ol.push1 elemW h.own (Nat.zero_le _) ⟨a, b, g, bs.length, cap⟩ (by rw [h.len]; omega) 51
  rw [h.len] at hrun hO
  refine ⟨g', cap', W', hrun, ⟨hO, by simp [h.len], fun i hi hi' => ?_⟩, hT, hat⟩
  have away : ∀ x, v.ownBlock ≠ some x → x ∉ v.ownBlock.toList := fun x hx hm => hx (by simpa using hm)
  have new : ∀ x, v.ownBlock ≠ some x → x < W.heap.size → (Value.slice (some ⟨g', 0, none⟩) (os.length + 1) cap').ownBlock ≠ some x := fun x hx hl e => by
    have e2 : g' = x := by simpa [Value.ownBlock] using e
    subst e2
    rcases hat with h1 | h1
    · exact hx h1
    · omega
  by_cases hl : i < xs.length
  · have hl' : i < os.length := by rw [← h.len]; exact hl
    obtain ⟨a, b, c, d, f⟩ := h.row i hl hl'
    rw [List.getElem_append_left hl, List.getElem_append_left hl']
    exact ⟨a, b, c, d.turn hT (away _ f), new _ f d.lt⟩
  · have e1 : i = xs.length := by simp at hi; omega
    subst e1
    rw [List.getElem_append_right (by omega), List.getElem_append_right (by rw [h.len]; omega)]
    simp only [h.len, Nat.sub_self, List.getElem_cons_zero]
    exact ⟨trivial, trivial, trivial, ho.turn hT (away _ hv), new _ hv ho.lt⟩
end
/-- a Net and what is under way -/
structure Nw (w : World) (N MB n : Nat) (ms : Nat → Ma) (v : Value) (xs : List Pe) (os : List (Nat × Nat × List Nat)) : Prop where
  nt : Nt w N MB n ms v
  wy : Wy v os xs w
  apart : ∀ x, inW v xs x → x ≠ N ∧ x ≠ MB ∧ ∀ i, i < n → x ∉ (ms i).F
section
variable {w w' : World} {N MB n : Nat} {ms : Nat → Ma} {v : Value} {xs : List Pe} {os : List (Nat × Nat × List Nat)}
theorem Nw.held (h : Nw w N MB n ms v xs os) (hb : Below w.heap.size w w') : Nw w' N MB n ms v xs os := ⟨h.nt.held hb, h.wy.held hb, h.apart⟩
/-- one machine's blocks turn -/
theorem Nw.one (h : Nw w N MB n ms v xs os) {i : Nat} (hi : i < n) {m : Ma} {L : List Nat} (hN : Nt w' N MB n (puts ms i m) v) (t : Turn L w w') (hL : ∀ x, x ∈ L → x = MB ∨ x ∈ (ms i).F) (hF : ∀ y, y ∈ m.F → y ∈ (ms i).F ∨ w.heap.size ≤ y) : Nw w' N MB n (puts ms i m) v xs os := by
  refine ⟨hN, h.wy.turn t fun x hx hm => ?_, fun x hx => ⟨(h.apart x hx).1, (h.apart x hx).2.1, fun k hk hm => ?_⟩⟩
  · rcases hL x hm with e | e
    · exact (h.apart x hx).2.1 e
    · exact (h.apart x hx).2.2 i hi e
  · by_cases e : k = i
    · subst e
      rw [puts_same] at hm
      rcases hF x hm with e2 | e2
      · exact (h.apart x hx).2.2 k hk e2
      · have := h.wy.lt hx; omega
    · rw [puts_other e] at hm
      exact (h.apart x hx).2.2 k hk hm
theorem net_waiting (h : Nw w N MB n ms v xs os) : Calls Tryz.prog 36 #[.pointer (some ⟨N, 0, none⟩)] w fun e w' => e = .returned (.int .i64 os.length) ∧ w' = w := by
  obtain ⟨p, cap, rfl, hc⟩ := h.wy.own.form
  have c0 : w.cell? ⟨N, 1, none⟩ = some (.slice p xs.length cap) := h.nt.head.at_ 1
  rw [h.wy.len] at c0
  have H := Lib.hid h
  clear h hc
  go_enter Tryz.func36, Tryz.ntmps36
  go_wp2_with fail
  go_ret
  exact ⟨rfl, rfl⟩
/-- the list is stored -/
theorem Nw.listed (h : Nw w N MB n ms v xs os) (hT : Turn v.ownBlock.toList w w') {v' : Value} {os' : List (Nat × Nat × List Nat)} {p : Pe} (hW : Wy v' os' (xs ++ [p]) w') (hv : v'.ownBlock = v.ownBlock ∨ ∃ b, v'.ownBlock = some b ∧ w.heap.size ≤ b) (hp : p.g ≠ N ∧ p.g ≠ MB ∧ ∀ i, i < n → p.g ∉ (ms i).F) :
    Nw (w'.setCell ⟨N, 1, none⟩ v') N MB n ms v' (xs ++ [p]) os' ∧ Turn (N :: v.ownBlock.toList) w (w'.setCell ⟨N, 1, none⟩ v') := by
  have hNl := h.nt.head.lt
  have hMl := h.nt.mas.lt
  have t2 : Turn [N] w' (w'.setCell ⟨N, 1, none⟩ v') := Turn.setCell w' (by simp) _
  have away : ∀ x, x ∈ v.ownBlock.toList → x ≠ N ∧ x ≠ MB ∧ ∀ i, i < n → x ∉ (ms i).F := fun x hx => h.apart x (.inl (by simpa using hx))
  have hN1 := (h.nt.head.turn hT fun hm => (away _ hm).1 rfl).store 1 v'
  have hap : ∀ x, inW v' (xs ++ [p]) x → x ≠ N ∧ x ≠ MB ∧ ∀ i, i < n → x ∉ (ms i).F := fun x hx => by
    rcases hx with e | ⟨q, hq, e⟩
    · rcases hv with e2 | ⟨b, e2, hb⟩
      · exact h.apart x (.inl (by rw [← e2]; exact e))
      · rw [e2] at e
        cases e
        exact ⟨by omega, by omega, fun i hi hm => by have := (h.nt.mas.ok i hi).lt hm; omega⟩
    · rcases List.mem_append.1 hq with e2 | e2
      · exact h.apart x (.inr ⟨q, e2, e⟩)
      · simp only [List.mem_cons, List.not_mem_nil, or_false] at e2
        subst e2; subst e
        exact hp
  refine ⟨⟨⟨hN1, (h.nt.mas.turn hT (fun hm => (away _ hm).2.1 rfl) (fun i hi x hx hm => (away x hm).2.2 i hi hx)).turn t2 (by simp; exact fun e => h.nt.ne e.symm) (fun i hi x hx => by simp; exact fun e => h.nt.nF i hi (e ▸ hx)), h.nt.ne, h.nt.nF, h.nt.n1, h.nt.n8⟩, hW.turn t2 fun x hx => by simp; exact (hap x hx).1, hap⟩, (hT.mono fun x hx => List.mem_cons_of_mem _ hx).trans (t2.mono fun x hx => by simp at hx; simp [hx])⟩
end
end Go.Proofs.YtkchckeecfalhaaGreat

namespace Go.Proofs.YtkchckeecfalhaaGreat
open Go.RowKit Go.Maps Rm
attribute [local go_sem] Oper.semAt_some

section
variable {w : World} {N MB n : Nat} {ms : Nat → Ma} {v : Value} {xs : List Pe} {os : List (Nat × Nat × List Nat)}
/-- behind a datagram sent -/
structure Sent (w : World) (N MB n : Nat) (ms : Nat → Ma) (v : Value) (xs : List Pe) (os : List (Nat × Nat × List Nat)) (p : Pe) (bs : List Nat) (w' : World) : Prop where
  ex : ∃ v' xs', Nw w' N MB n ms v' xs' (if os.length < 256 then os ++ [(p.frm, p.dst, bs)] else os) ∧ Turn (N :: v.ownBlock.toList) w w' ∧ (v'.ownBlock = v.ownBlock ∨ ∃ b, v'.ownBlock = some b ∧ w.heap.size ≤ b) ∧ (∀ x, x ∈ xs' → x ∈ xs ∨ x = p)
set_option maxRecDepth 100000 in
set_option maxHeartbeats 1000000 in
theorem net_send (h : Nw w N MB n ms v xs os) {a b g cap : Nat} {bs : List Nat} (ho : T.Ob w g cap bs) (hv : v.ownBlock ≠ some g) (hg : g ≠ N ∧ g ≠ MB ∧ ∀ i, i < n → g ∉ (ms i).F) (hbig : os.length ≤ 256) :
    Calls Tryz.prog 81 #[.pointer (some ⟨N, 0, none⟩), .agg #[.int .i64 a, .int .i64 b, .slice (some ⟨g, 0, none⟩) bs.length cap]] w fun e w' => e = .returned (.tuple #[]) ∧ Sent w N MB n ms v xs os ⟨a, b, g, bs.length, cap⟩ bs w' := by
  obtain ⟨p, vc, rfl, hvc⟩ := h.wy.own.form
  have hln := h.wy.len
  rw [hln] at h hv ⊢
  have hb1 := below_new w (.cells #[.int .i64 a, .int .i64 b, .slice (some ⟨g, 0, none⟩) bs.length cap] 109)
  have PB := Blk.new w 109 #[.int .i64 a, .int .i64 b, .slice (some ⟨g, 0, none⟩) bs.length cap]
  have hs1 := size_new w (.cells #[.int .i64 a, .int .i64 b, .slice (some ⟨g, 0, none⟩) bs.length cap] 109)
  have h1 := h.held hb1
  have ho1 := ho.held hb1
  have HW := net_waiting h1
  have hlt : ∀ x, (Value.slice p os.length vc).ownBlock = some x → x < w.heap.size := fun x hx => h.wy.lt (.inl hx)
  have X := Lib.hid (And.intro h (And.intro h1 (And.intro ho1 (And.intro hv (And.intro hg (And.intro hb1 (And.intro hs1 hlt)))))))
  have c2 : (w.alloc (.cells #[.int .i64 a, .int .i64 b, .slice (some ⟨g, 0, none⟩) bs.length cap] 109)).cell? ⟨w.heap.size, 0, none⟩ = some (.int .i64 a) := PB.at_ 0
  have c3 : (w.alloc (.cells #[.int .i64 a, .int .i64 b, .slice (some ⟨g, 0, none⟩) bs.length cap] 109)).cell? ⟨w.heap.size, 1, none⟩ = some (.int .i64 b) := PB.at_ 1
  have c4 : (w.alloc (.cells #[.int .i64 a, .int .i64 b, .slice (some ⟨g, 0, none⟩) bs.length cap] 109)).cell? ⟨w.heap.size, 2, none⟩ = some (.slice (some ⟨g, 0, none⟩) bs.length cap) := PB.at_ 2
  clear h h1 ho ho1 hv hg hb1 hs1 hlt PB hvc hln
  go_enter Tryz.func81, Tryz.ntmps81
  go_wp2_with fail
  generalize w.alloc (.cells #[.int .i64 a, .int .i64 b, .slice (some ⟨g, 0, none⟩) bs.length cap] 109) = w1 at *
  refine HW.mono ?_
  rintro e w2 ⟨rfl, rfl⟩
  clear HW
  by_cases hl : os.length < 256
  · have d1 : decide ((os.length : Int) < 256) = true := decide_eq_true (by omega)
    have hi : (os.length : Int) < 256 := by omega
    have h2 := X.out.2.1.held (Below.refl _ _).drew
    have ho2 := X.out.2.2.1.held (Below.refl _ _).drew
    obtain ⟨g', cap', w7, hrun, hW, hT, hat⟩ := h2.wy.push (a := a) (b := b) X.out.2.2.2.1 ho2 (by omega)
    have hba := below_new w2.drew (.cells #[.int .i64 a, .int .i64 b, .slice (some ⟨g, 0, none⟩) bs.length cap] 109)
    have q0 : w2.drew.cell? ⟨N, 1, none⟩ = some (.slice p os.length vc) := h2.nt.head.at_ 1
    have q1 : w2.drew.cell? ⟨w.heap.size, 0, none⟩ = some (.int .i64 a) := c2
    have q2 : w2.drew.cell? ⟨w.heap.size, 1, none⟩ = some (.int .i64 b) := c3
    have q3 : w2.drew.cell? ⟨w.heap.size, 2, none⟩ = some (.slice (some ⟨g, 0, none⟩) bs.length cap) := c4
    have a0 := held hba q0
    have b0 : (w2.alloc (.cells #[.int .i64 a, .int .i64 b, .slice (some ⟨g, 0, none⟩) bs.length cap] 109)).cell? ⟨N, 1, none⟩ = some (.slice p os.length vc) := a0
    have a1 := held hba q1
    have a2 := held hba q2
    have a3 := held hba q3
    have hNv : N ∉ (Value.slice p os.length vc).ownBlock.toList := fun hm => (h2.apart N (.inl (by simpa using hm))).1 rfl
    have hPv : w.heap.size ∉ (Value.slice p os.length vc).ownBlock.toList := fun hm => by have := X.out.2.2.2.2.2.2.2 _ (by simpa using hm); omega
    have e0 := hT.cell q0 hNv
    have e1 := hT.cell q1 hPv
    have e2 := hT.cell q2 hPv
    have e3 := hT.cell q3 hPv
    have f0 : w7.frozen? ⟨N, 1, none⟩ = false := (h2.nt.head.turn hT hNv).free 1
    have hL := h2.listed hT hW (hat.elim (fun e => .inl e.symm) (fun e => .inr ⟨g', rfl, by omega⟩)) X.out.2.2.2.2.1
    have hPN : w.heap.size ≠ N := fun e => by have := X.out.1.nt.head.lt; omega
    have t9 : Turn [N] w7 (w7.setCell ⟨N, 1, none⟩ (.slice (some ⟨g', 0, none⟩) (os.length + 1) cap')) := Turn.setCell w7 (by simp) _
    have s1 := t9.cell e1 (by simp; exact hPN)
    have s2 := t9.cell e2 (by simp; exact hPN)
    have s3 := t9.cell e3 (by simp; exact hPN)
    have Z := Lib.hid (show Sent w N MB n ms (.slice p os.length vc) xs os ⟨a, b, g, bs.length, cap⟩ bs (w7.setCell ⟨N, 1, none⟩ (.slice (some ⟨g', 0, none⟩) (os.length + 1) cap')) from ⟨.slice (some ⟨g', 0, none⟩) (os.length + 1) cap', xs ++ [⟨a, b, g, bs.length, cap⟩], by rw [if_pos hl]; exact hL.1, (Turn.of_below _ (X.out.2.2.2.2.2.1.trans ((Below.refl _ _).drew.mono X.out.2.2.2.2.2.1.size))).trans hL.2, hat.elim (fun e => .inl e.symm) (fun e => .inr ⟨g', rfl, by have h1 : w2.drew.heap.size < g' := e; have h2 : w2.drew.heap.size = w2.heap.size := rfl; have := X.out.2.2.2.2.2.2.1; omega⟩), fun x hx => by simpa using hx⟩)
    clear hL hat hW hT h2 ho2 hba hNv hPv c2 c3 c4 t9 hPN
    go_wp2_with fail
    refine wp_region_held_drew (S := fun u => (u.cell? ⟨w.heap.size, 0, none⟩ = some (.int .i64 a) ∧ u.cell? ⟨w.heap.size, 1, none⟩ = some (.int .i64 b) ∧ u.cell? ⟨w.heap.size, 2, none⟩ = some (.slice (some ⟨g, 0, none⟩) bs.length cap))) (by kernel_rfl) ⟨q1, q2, q3⟩ (fun hHeld => ?_)
    refine take_list (i := 0) (v := .pointer (some ⟨N, 0, none⟩)) rfl (by kernel_rfl) (by kernel_rfl) (by kernel_rfl) (fun _ _ _ h => h) (.inl ⟨rfl, ?_⟩) hHeld ?_
    · (intro w hSw; go_simp)
    go_frame
    refine take_list (i := 1) (v := .pointer (some ⟨N, 0, none⟩)) rfl (by kernel_rfl) (by kernel_rfl) (by kernel_rfl) (fun _ _ _ h => h) (.inl ⟨rfl, ?_⟩) hHeld ?_
    · (intro w hSw; go_simp)
    go_frame
    refine take_list (i := 2) (v := .pointer (some ⟨N, 0, none⟩)) rfl (by kernel_rfl) (by kernel_rfl) (by kernel_rfl) (fun _ _ _ h => h) (.inl ⟨rfl, ?_⟩) hHeld ?_
    · (intro w hSw; go_simp)
    go_frame
    refine take_list (i := 3) (v := .pointer (some ⟨N, 1, none⟩)) rfl (by kernel_rfl) (by kernel_rfl) (by kernel_rfl) (fun _ _ _ h => h) (.inl ⟨rfl, ?_⟩) hHeld ?_
    · (intro w hSw; go_simp)
    go_frame
    refine take_list (i := 5) (v := .agg #[.int .i64 a, .int .i64 b, .slice (some ⟨g, 0, none⟩) bs.length cap]) rfl (by kernel_rfl) (by kernel_rfl) (by kernel_rfl) (fun _ _ _ h => h) (.inl ⟨rfl, ?_⟩) hHeld ?_
    · (intro w hSw; go_simp)
    go_frame
    refine wpAnyH_ready (rs := [4, 6]) (by kernel_rfl) (by simp) (AllReadyH.cons (list_at rfl) (fun K hK => ?_) (AllReadyH.cons (list_at rfl) (fun K hK => ?_) AllReadyH.nil))
    · go_simp
      refine hK.out _ _ ⟨q1, q2, q3⟩ (fun hHeld => ?_)
      clear hK K
      try go_frame
      refine ready_list (i := 6) rfl (by kernel_rfl) (fun K hK => ?_)
      go_simp
      refine hK.out _ _ ⟨a1, a2, a3⟩ (fun hHeld => ?_)
      clear hK K
      try go_frame
      refine ready_list (i := 7) rfl (by kernel_rfl) (fun K hK => ?_)
      refine step_append_run rfl _ _ _ rfl _ _ _ _ _ ?_ ?_ ?_ hrun ?_ <;> first | rfl | skip
      refine hK.out _ _ ⟨e1, e2, e3⟩ (fun hHeld => ?_)
      clear hK K a0 b0 a1 a2 a3 hrun q0 q1 q2 q3
      try go_frame
      refine take_list (i := 8) (v := .pointer (some ⟨N, 0, none⟩)) rfl (by kernel_rfl) (by kernel_rfl) (by kernel_rfl) (fun _ _ _ h => h) (.inl ⟨rfl, ?_⟩) hHeld ?_
      · (intro w hSw; go_simp)
      go_frame
      refine take_list (i := 9) (v := .pointer (some ⟨N, 1, none⟩)) rfl (by kernel_rfl) (by kernel_rfl) (by kernel_rfl) (fun _ _ _ h => h) (.inl ⟨rfl, ?_⟩) hHeld ?_
      · (intro w hSw; go_simp)
      go_frame
      refine ready_list (i := 10) rfl (by kernel_rfl) (fun K hK => ?_)
      go_simp
      refine hK.out _ _ ⟨s1, s2, s3⟩ (fun hHeld => ?_)
      clear hK K
      refine wpAnyH_done (by kernel_rfl) ?_ _
      try go_frame
      clear hHeld
      go_wp2_with fail
      go_end0
      exact ⟨rfl, Z.out⟩
    · go_simp
      refine hK.out _ _ ⟨a1, a2, a3⟩ (fun hHeld => ?_)
      clear hK K
      try go_frame
      refine ready_list (i := 4) rfl (by kernel_rfl) (fun K hK => ?_)
      go_simp
      refine hK.out _ _ ⟨a1, a2, a3⟩ (fun hHeld => ?_)
      clear hK K
      try go_frame
      refine ready_list (i := 7) rfl (by kernel_rfl) (fun K hK => ?_)
      refine step_append_run rfl _ _ _ rfl _ _ _ _ _ ?_ ?_ ?_ hrun ?_ <;> first | rfl | skip
      refine hK.out _ _ ⟨e1, e2, e3⟩ (fun hHeld => ?_)
      clear hK K a0 b0 a1 a2 a3 hrun q0 q1 q2 q3
      try go_frame
      refine take_list (i := 8) (v := .pointer (some ⟨N, 0, none⟩)) rfl (by kernel_rfl) (by kernel_rfl) (by kernel_rfl) (fun _ _ _ h => h) (.inl ⟨rfl, ?_⟩) hHeld ?_
      · (intro w hSw; go_simp)
      go_frame
      refine take_list (i := 9) (v := .pointer (some ⟨N, 1, none⟩)) rfl (by kernel_rfl) (by kernel_rfl) (by kernel_rfl) (fun _ _ _ h => h) (.inl ⟨rfl, ?_⟩) hHeld ?_
      · (intro w hSw; go_simp)
      go_frame
      refine ready_list (i := 10) rfl (by kernel_rfl) (fun K hK => ?_)
      go_simp
      refine hK.out _ _ ⟨s1, s2, s3⟩ (fun hHeld => ?_)
      clear hK K
      refine wpAnyH_done (by kernel_rfl) ?_ _
      try go_frame
      clear hHeld
      go_wp2_with fail
      go_end0
      exact ⟨rfl, Z.out⟩
  · have d1 : decide ((os.length : Int) < 256) = false := decide_eq_false (by omega)
    clear c2 c3 c4
    go_wp2_with fail
    go_end0
    refine ⟨rfl, _, _, by rw [if_neg hl]; exact X.out.2.1, .of_below _ X.out.2.2.2.2.2.1, .inl rfl, fun x hx => .inl hx⟩
end
end Go.Proofs.YtkchckeecfalhaaGreat

namespace Go.Proofs.YtkchckeecfalhaaGreat
open Go.RowKit Go.Maps Rm
attribute [local go_sem] Oper.semAt_some

theorem Ot.turn {L : List Nat} {B : Nat} {v : Value} {os : List (Nat × List Nat)} {xs : List Oe} {W W' : World} (h : Ot B v os xs W) (t : Turn L W W') (hL : ∀ x, B ≤ x → (v.ownBlock = some x ∨ ∃ q, ∃ (h : q < xs.length), xs[q].g = x) → x ∉ L) : Ot B v os xs W' :=
  ⟨h.own.turn t fun b e => hL b (h.own.lt e).2 (.inl e), h.len, fun i hi hi' => by obtain ⟨a, b, c, d, e⟩ := h.row i hi hi'; exact ⟨a, b, c.turn t (hL _ d (.inr ⟨i, hi, rfl⟩)), d, e⟩⟩
/-- one datagram more, unless there are too many -/
def sent1 (frm : Nat) (os : List (Nat × Nat × List Nat)) (d : Nat × List Nat) : List (Nat × Nat × List Nat) := if os.length < 256 then os ++ [(frm, d.1, d.2)] else os
def sendAll (frm : Nat) (os : List (Nat × Nat × List Nat)) (ds : List (Nat × List Nat)) : List (Nat × Nat × List Nat) := ds.foldl (sent1 frm) os
theorem sent1_len {frm : Nat} {os : List (Nat × Nat × List Nat)} (d : Nat × List Nat) (h : os.length ≤ 256) : (sent1 frm os d).length ≤ 256 := by
  unfold sent1
  split
  · simp; omega
  · exact h
theorem sendAll_len {frm : Nat} : ∀ (ds : List (Nat × List Nat)) (os : List (Nat × Nat × List Nat)), os.length ≤ 256 → (sendAll frm os ds).length ≤ 256
  | [], _, h => h
  | d :: r, os, h => sendAll_len r (sent1 frm os d) (sent1_len d h)
theorem sendAll_succ {frm : Nat} (os : List (Nat × Nat × List Nat)) {ds : List (Nat × List Nat)} {k : Nat} (hk : k < ds.length) : sendAll frm os (ds.take (k + 1)) = sent1 frm (sendAll frm os (ds.take k)) ds[k] := by
  unfold sendAll
  rw [List.take_succ_eq_append_getElem hk, List.foldl_append]
  rfl
/-- so many of a router's datagrams are sent -/
structure Ticking (w w1 : World) (N MB n : Nat) (ms : Nat → Ma) (i : Nat) (v : Value) (F : List Nat) (os : List (Nat × Nat × List Nat)) (B : Nat) (vt : Value) (ds : List (Nat × List Nat)) (xt : List Oe) (k : Nat) (wr : World) : Prop where
  ex : ∃ v' xs', Nw wr N MB n ms v' xs' (sendAll i os (ds.take k)) ∧ (∀ b, v'.ownBlock = some b → v.ownBlock = some b ∨ w1.heap.size ≤ b)
  ot : Ot B vt ds xt wr
  sz : w1.heap.size ≤ wr.heap.size
  old : w.heap.size ≤ B
  tn : Turn (N :: (v.ownBlock.toList ++ F)) w wr
  hv : ∀ b, v.ownBlock = some b → b < w.heap.size
  Nl : N < w.heap.size ∧ MB < w.heap.size
  F : ∀ j, j < n → ∀ x, x ∈ (ms j).F → x < B
  top : w.heap.size ≤ w1.heap.size ∧ ∀ q (h : q < xt.length), xt[q].g < w1.heap.size
  vt : ∀ b, vt.ownBlock = some b → b < w1.heap.size
  len : os.length ≤ 256
section
variable {w w1 : World} {N MB n : Nat} {ms : Nat → Ma} {i : Nat} {v : Value} {F : List Nat} {os : List (Nat × Nat × List Nat)} {B : Nat} {vt : Value} {ds : List (Nat × List Nat)} {xt : List Oe} {k : Nat} {wr : World}
theorem Ticking.held (h : Ticking w w1 N MB n ms i v F os B vt ds xt k wr) {w2 : World} (hb : Below wr.heap.size wr w2) : Ticking w w1 N MB n ms i v F os B vt ds xt k w2 := by
  obtain ⟨v', xs', h1, h2⟩ := h.ex
  exact ⟨⟨v', xs', h1.held hb, h2⟩, h.ot.held hb, Nat.le_trans h.sz hb.size, h.old, h.tn.and_below hb, h.hv, h.Nl, h.F, h.top, h.vt, h.len⟩
theorem Ticking.send (h : Ticking w w1 N MB n ms i v F os B vt ds xt k wr) (hk : k < ds.length) (hk2 : k < xt.length) :
    Calls Tryz.prog 81 #[.pointer (some ⟨N, 0, none⟩), .agg #[.int .i64 i, .int .i64 xt[k].dst, .slice (some ⟨xt[k].g, 0, none⟩) xt[k].n xt[k].cap]] wr fun e w' => e = .returned (.tuple #[]) ∧ Ticking w w1 N MB n ms i v F os B vt ds xt (k + 1) w' := by
  obtain ⟨v', xs', h1, h2⟩ := h.ex
  obtain ⟨a1, a2, a3, a4, a5⟩ := h.ot.row k hk2 hk
  have hN := h.Nl
  have ht := h.top
  have hold := h.old
  rw [a1, a2]
  have hv' : v'.ownBlock ≠ some xt[k].g := fun e => by
    rcases h2 _ e with e2 | e2
    · have := h.hv _ e2; omega
    · have := ht.2 k hk2; omega
  refine (net_send h1 a3 hv' ⟨by omega, by omega, fun j hj hm => by have := h.F j hj _ hm; omega⟩ (sendAll_len _ _ h.len)).mono ?_
  rintro e w2 ⟨rfl, ⟨v2, xs2, g1, g2, g3, g4⟩⟩
  have hsz := g2.size
  refine ⟨rfl, ⟨⟨v2, xs2, by rw [sendAll_succ _ hk]; exact g1, fun b e => ?_⟩, h.ot.turn g2 fun x hx hx2 hm => ?_, Nat.le_trans h.sz hsz, hold, h.tn.beyond g2 fun y hy => ?_, h.hv, hN, h.F, ht, h.vt, h.len⟩⟩
  · rcases g3 with e2 | ⟨b', e2, hb'⟩
    · exact h2 b (by rw [← e2]; exact e)
    · rw [e2] at e; cases e
      exact .inr (Nat.le_trans h.sz hb')
  · have hxl : x < w1.heap.size := by
      rcases hx2 with e | ⟨q, hq, rfl⟩
      · exact h.vt x e
      · exact ht.2 q hq
    rcases List.mem_cons.1 hm with e | e
    · omega
    · rcases h2 x (by simpa using e) with e2 | e2
      · have := h.hv x e2; omega
      · omega
  · rcases List.mem_cons.1 hy with e | e
    · exact .inl (by simp [e])
    · rcases h2 y (by simpa using e) with e2 | e2
      · exact .inl (by simp [e2])
      · exact .inr (by have := h.top; omega)
/-- what Tick makes: M2 is the router behind its advance, rs what it tells of -/
theorem Ticking.start {d R room sp : Nat} {M : Mr} {c : Nat → Int} {z : Dz} {room0 sp0 : Nat} {M0 : Mr} {xs : List Pe} (h : Nw w N MB n ms v xs os) (hi : i < n) (hm : ms i = ⟨d, some ⟨R, room0, sp0, M0⟩, F, c, z⟩) (hlen : os.length ≤ 256)
    {F' : List Nat} (hz : Rz F' w1 R room sp M) (t : Turn F w w1) (hn : ∀ y, y ∈ F' → (y ∈ F ∨ w.heap.size ≤ y) ∧ y < B) (hB : w.heap.size ≤ B) (hO : Ot B vt ds xt w1) (hMd : M.d = M0.d) :
    Ticking w w1 N MB n (puts ms i ⟨d, some ⟨R, room, sp, M⟩, F', c, z⟩) i v F os B vt ds xt 0 w1 := by
  obtain ⟨F2, hg⟩ : ∃ F2, Nt w1 N MB n (puts ms i ⟨d, some ⟨R, room, sp, M⟩, F2, c, z⟩) v ∧ F2 = F' := by
    refine ⟨F', ?_, rfl⟩
    refine h.nt.one hi (by rw [hm]; exact t) (.of_some rfl hz (hMd.trans (by have := (h.nt.mas.ok i hi).disk (x := ⟨R, room0, sp0, M0⟩) (by rw [hm]); rw [this, hm]))) (fun y hy => by rw [hm]; exact (hn y hy).1) (by rw [hm]; rfl)
  have hg1 := hg.1
  rw [hg.2] at hg1
  have hN := h.nt.head.lt
  have hM := h.nt.mas.lt
  refine ⟨⟨v, xs, by rw [List.take_zero]; exact h.one hi hg1 t (fun x hx => .inr (by rw [hm]; exact hx)) (fun y hy => by rw [hm]; exact (hn y hy).1), fun b e => .inl e⟩, hO, Nat.le_refl _, hB, t.mono fun x hx => by simp [hx], fun b e => h.wy.lt (.inl e), ⟨hN, hM⟩, fun j hj x hx => ?_, ?_, fun b e => (hO.own.lt e).1, hlen⟩
  · by_cases e : j = i
    · subst e
      rw [puts_same] at hx
      exact (hn x hx).2
    · rw [puts_other e] at hx
      have := (h.nt.mas.ok j hj).lt hx
      omega
  · refine ⟨?_, fun q hq => ?_⟩
    · exact t.size
    · exact (hO.row q hq (by rw [← hO.len]; exact hq)).2.2.1.lt
end
section
variable {w : World} {N MB n : Nat} {ms : Nat → Ma} {v : Value} {xs : List Pe} {os : List (Nat × Nat × List Nat)}
set_option maxRecDepth 100000 in
set_option maxHeartbeats 1000000 in
theorem net_tick (h : Nw w N MB n ms v xs os) {i : Nat} (hi : i < n) (hlen : os.length ≤ 256) {d R room0 sp0 room sp : Nat} {M : Mr} {F : List Nat} {c : Nat → Int} {z : Dz} (hm : ms i = ⟨d, some ⟨R, room0, sp0, M⟩, F, c, z⟩)
    (HT : Calls Tryz.prog 80 #[.pointer (some ⟨R, 0, none⟩)] w fun e w' => ∃ v, e = .returned v ∧ Tkd F w R room sp M v w') :
    Calls Tryz.prog 34 #[.pointer (some ⟨N, 0, none⟩), .int .i64 i] w fun e w' => e = .returned (.int .i64 0) ∧ ∃ M2 rs F' v' xs', Ticks M M2 ∧ Subj M2 rs ∧ Nw w' N MB n (puts ms i ⟨d, some ⟨R, room, sp, (M2.tellS rs).2⟩, F', c, z⟩) v' xs' (sendAll i os (sends M.c (T.Tm.encode (M2.tellS rs).1) 8)) ∧
      Turn (N :: (v.ownBlock.toList ++ F)) w w' ∧ (∀ y, y ∈ F' → y ∈ F ∨ w.heap.size ≤ y) ∧ (∀ b, v'.ownBlock = some b → v.ownBlock = some b ∨ w.heap.size ≤ b) := by
  have H2 := net_runs h.nt hi
  rw [hm] at H2
  replace H2 : Calls Tryz.prog 66 #[.pointer (some ⟨N, 0, none⟩), .int .i64 i] w fun e w' => e = .returned (.bool true) ∧ w' = w := H2
  have c0 : w.cell? ⟨N, 0, none⟩ = some (.slice (some ⟨MB, 0, none⟩) n n) := h.nt.head.at_ 0
  have c1 : w.cell? ⟨MB, i * 10, none⟩ = some (.pointer (some ⟨R, 0, none⟩)) := h.nt.cell hi (j := 0) (by rw [hm]; rfl)
  have hin : (i : Int) < (n : Int) := by omega
  have X := Lib.hid (And.intro h (And.intro hm hlen))
  clear h hm hlen
  go_enter Tryz.func34, Tryz.ntmps34
  go_wp2_with fail
  refine H2.mono ?_
  rintro e w2 ⟨rfl, rfl⟩
  clear H2
  go_wp2_with fail
  refine HT.mono ?_
  rintro e w1 ⟨vt, rfl, ⟨F', B, M2, rs, xt, hk1, hk2, hz, ht, hn, hB, hO⟩⟩
  have hS := Ticking.start X.out.1 hi X.out.2.1 X.out.2.2 hz ht hn hB hO ((Mr.tellS_kin _ _).2.trans hk1.kin.2)
  obtain ⟨tp, vc, rfl, hvc⟩ := hO.own.form
  have hln := hO.len
  generalize hds : sends M.c (T.Tm.encode (M2.tellS rs).1) 8 = ds at *
  generalize hM3 : (M2.tellS rs).2 = M3 at *
  rw [hln] at hS
  have Y := Lib.hid (And.intro hS (And.intro hk1 (And.intro hk2 (And.intro hn (And.intro hln (And.intro hM3 (And.intro ht.size hds)))))))
  rw [hln]
  clear hS hk1 hk2 hn hz ht hB hO HT c0 c1 hvc hM3 hln hds
  go_wp2_with fail
  go_loopw [21] (fun ix wr => ∃ k : Nat, ix = .int .i64 k ∧ k ≤ ds.length ∧ Hid (Ticking w2 w1 N MB n (puts ms i ⟨d, some ⟨R, room, sp, M3⟩, F', c, z⟩) i v F os B (.slice tp ds.length vc) ds xt k wr)) (fun ix _ => ds.length - (intOf ix).toNat)
  case atStart => exact ⟨0, rfl, by omega, Lib.hid Y.out.1⟩
  case round =>
    obtain ⟨k, rfl, hk, hB⟩ := hrel
    by_cases hkn : k < ds.length
    · have hin2 : (k : Int) < (ds.length : Int) := by omega
      have hkx : k < xt.length := by rw [Y.out.2.2.2.2.1]; exact hkn
      obtain ⟨g0, cap0, e0, h1, h2, hc⟩ := hB.out.ot.own.at_ elemO.len hkx
      injection e0 with e1 e2 e3
      subst e1
      subst e3
      clear e2
      have q0 : wr.cell? ⟨g0, k * 2, none⟩ = some (.int .i64 xt[k].dst) := hc 0 (by omega)
      have q1 : wr.cell? ⟨g0, k * 2 + 1, none⟩ = some (.slice (some ⟨xt[k].g, 0, none⟩) xt[k].n xt[k].cap) := hc 1 (by omega)
      have hba := below_new wr (.cells #[.int .i64 xt[k].dst, .slice (some ⟨xt[k].g, 0, none⟩) xt[k].n xt[k].cap] 154)
      have HS := (hB.out.held hba).send hkn hkx
      have hsm : ds.length ≤ maxLen := by have := Y.out.2.2.2.2.1; omega
      unfold maxLen at hsm
      clear hc h1 h2 hba
      go_wp2_with fail
      refine HS.mono ?_
      rintro e w5 ⟨rfl, hT5⟩
      have R := Lib.hid hT5
      clear hT5 HS q0 q1 hB
      go_wp2_with fail
      go_roundw
      case rel => exact ⟨k + 1, by go_num, by omega, R⟩
      case measure => simp [intOf]; omega
    · obtain rfl : k = ds.length := by omega
      have hE := hB.out.ex
      rw [List.take_length] at hE
      obtain ⟨v', xs', g1, g2⟩ := hE
      have Z := Lib.hid (And.intro g1 (And.intro g2 hB.out.tn))
      clear hB g1 g2
      go_wp2_with fail
      go_ret
      have hsz := Y.out.2.2.2.2.2.2.1
      exact ⟨rfl, M2, rs, F', v', xs', Y.out.2.1, Y.out.2.2.1, by rw [Y.out.2.2.2.2.2.1, Y.out.2.2.2.2.2.2.2]; exact Z.out.1, Z.out.2.2, fun y hy => (Y.out.2.2.2.1 y hy).1, fun b e => (Z.out.2.1 b e).imp id (Nat.le_trans hsz)⟩
end
end Go.Proofs.YtkchckeecfalhaaGreat

namespace Go.Proofs.YtkchckeecfalhaaGreat
open Go.RowKit Go.Maps Rm
attribute [local go_sem] Oper.semAt_some

section
variable {w : World} {N MB n : Nat} {ms : Nat → Ma} {v : Value} {xs : List Pe} {os : List (Nat × Nat × List Nat)}
theorem net_waits (h : Nw w N MB n ms v xs os) (z : Int) : Calls Tryz.prog 85 #[.pointer (some ⟨N, 0, none⟩), .int .i64 z] w fun e w' => e = .returned (.bool (decide (0 ≤ z ∧ z < (os.length : Int)))) ∧ w' = w := by
  have HS := net_waiting h
  clear h
  by_cases h0 : 0 ≤ z
  · have d0 : decide (0 ≤ z) = true := decide_eq_true h0
    have E := Lib.hid (show decide (0 ≤ z ∧ z < (os.length : Int)) = decide (z < (os.length : Int)) by simp [h0])
    obtain ⟨q, hq⟩ : ∃ q, decide (z < (os.length : Int)) = q := ⟨_, rfl⟩
    rw [hq] at E
    go_enter Tryz.func85, Tryz.ntmps85
    go_wp2_with fail
    refine HS.mono ?_
    rintro e w2 ⟨rfl, rfl⟩
    go_wp2_with fail
    go_ret
    exact ⟨ret_bool E.out.symm, rfl⟩
  · have d0 : decide (0 ≤ z) = false := decide_eq_false h0
    have E := Lib.hid (show decide (0 ≤ z ∧ z < (os.length : Int)) = false by simp [h0])
    go_enter Tryz.func85, Tryz.ntmps85
    go_wp2
    go_ret
    exact ⟨rfl, rfl⟩
theorem net_waits_in (h : Nw w N MB n ms v xs os) {k : Nat} (hk : k < os.length) : Calls Tryz.prog 85 #[.pointer (some ⟨N, 0, none⟩), .int .i64 k] w fun e w' => e = .returned (.bool true) ∧ w' = w :=
  (net_waits h k).mono fun _ _ ⟨he, hw⟩ => ⟨by rw [he, decide_eq_true (by omega)], hw⟩
end
end Go.Proofs.YtkchckeecfalhaaGreat

namespace Go.Proofs.YtkchckeecfalhaaGreat
open Go.RowKit Go.Maps Rm

/-- clear of one element, however many cells it has -/
theorem run_clear_one {P : Program} (w : World) (t e ty : TypeId) (z : Value) (ht : P.underlying t = some (.slice e)) (hv : ∀ w, (zeroValue e).run P w = .ok z w) (h1 : ∀ v ∈ z.cells.toList, v.oneCell' = true) (b o c : Nat)
    (hc : ∀ j, j < z.cells.size → (w.cell? ⟨b, o + j, none⟩).isSome = true) (hf : ∀ j, j < z.cells.size → w.frozen? ⟨b, o + j, none⟩ = false) :
    (Builtin.clear_ #[t] ty #[.slice (some ⟨b, o, none⟩) 1 c]).run P w = .ok (.tuple #[]) (w.setCells b o z.cells.toList) := by
  have hzc : (Builtin.zeroCells z.cells 1).toList = z.cells.toList := by
    apply List.ext_getElem
    · simp [Builtin.zeroCells]
    · intro i h1 h2
      have h3 : i < z.cells.size := by simpa using h2
      simp [Builtin.zeroCells, Nat.mod_eq_of_lt h3]
      exact getElem!_pos z.cells i h3
  have hst := run_storeCells_cells (P := P) b o z.cells.toList 0 w (by simpa using hc) (by simpa using hf) h1
  simp only [Nat.add_zero] at hst
  simp [Builtin.clear_, run_underlying ht, hv, hzc, hst]

/-- a list whose k-th is taken out, its cells moved to the left -/
theorem drop_cells (xs : List Pe) {k : Nat} (hk : k < xs.length) (cur : Array Value) (ht : cur.toList.take (xs.length * 3) = xs.flatMap pcl) :
    (cur.toList.take (k * 3) ++ (xs.drop (k + 1)).flatMap pcl ++ cur.toList.drop (k * 3 + ((xs.drop (k + 1)).flatMap pcl).length)).take ((xs.length - 1) * 3) = (xs.eraseIdx k).flatMap pcl := by
  have hl : ∀ x : Pe, (pcl x).length = 3 := elemW.len
  have e1 : cur.toList.take (k * 3) = (xs.take k).flatMap pcl := by
    have : cur.toList.take (k * 3) = (cur.toList.take (xs.length * 3)).take (k * 3) := by rw [List.take_take, Nat.min_eq_left (by omega)]
    rw [this, ht]
    conv => lhs; arg 2; rw [← List.take_append_drop k xs, List.flatMap_append]
    rw [List.take_left' (by rw [cl_flat_len hl, List.length_take, Nat.min_eq_left (by omega)])]
  rw [e1, List.eraseIdx_eq_take_drop_succ, List.flatMap_append, List.take_left']
  rw [List.length_append, cl_flat_len hl, cl_flat_len hl, List.length_take, List.length_drop, Nat.min_eq_left (by omega)]
  omega
attribute [local go_sem] Oper.semAt_some
def zpk : Value := .agg #[.int .i64 0, .int .i64 0, .slice none 0 0]
set_option maxRecDepth 100000 in
set_option maxHeartbeats 1000000 in
theorem del_any {w : World} {g cap : Nat} {xs : List Pe} (h : Ol 109 pcl 3 0 (.slice (some ⟨g, 0, none⟩) xs.length cap) xs w) {k : Nat} (hk : k < xs.length) :
    Calls Tryz.prog 86 #[.slice (some ⟨g, 0, none⟩) xs.length cap, .int .i64 k, .int .i64 ((k + 1 : Nat) : Int)] w fun e w' => e = .returned (.slice (some ⟨g, 0, none⟩) (xs.length - 1) cap) ∧ Ol 109 pcl 3 0 (.slice (some ⟨g, 0, none⟩) (xs.length - 1) cap) (xs.eraseIdx k) w' ∧ Turn [g] w w' := by
  have H := Lib.hid h
  obtain ⟨hl, h2⟩ := h
  rcases h2 with ⟨e, _⟩ | ⟨g', cap', cur, e, h4, h5, h6, h7, h8, h9⟩
  · cases e
  cases e
  have hi1 : (k : Int) < (xs.length : Int) := by omega
  have hne : ((k : Int) == ((k + 1 : Nat) : Int)) = false := beq_eq_false_iff_ne.2 (by omega)
  have hcur : ∀ (q : Nat) (u : Value), (xs.flatMap pcl)[q]? = some u → cur[q]? = some u := fun q u hq => by
    rw [← h9, List.getElem?_take] at hq
    split at hq
    · simpa using hq
    · cases hq
  obtain ⟨news, hnews⟩ : ∃ news, news = (xs.drop (k + 1)).flatMap pcl := ⟨_, rfl⟩
  have hnl : news.length = (xs.length - (k + 1)) * 3 := by rw [hnews, cl_flat_len elemW.len, List.length_drop]
  obtain ⟨ad, hA, hsrc⟩ : ∃ ad : Addr, (if cap = k + 1 then some (⟨g, 0, none⟩ : Addr) else some ⟨g, (k + 1) * 3, none⟩) = some ad ∧ ∀ j u, news[j]? = some u → w.drew.cell? (ad.add j) = some u := by
    by_cases e : cap = k + 1
    · refine ⟨_, if_pos e, fun j u hu => ?_⟩
      have : news = [] := List.eq_nil_of_length_eq_zero (by rw [hnl]; omega)
      rw [this] at hu
      simp at hu
    · refine ⟨_, if_neg e, fun j u hu => ?_⟩
      rw [Addr.add_lit]
      have hb : Blk 109 w.drew g cur := h5
      rw [hb.at_]
      refine hcur _ _ ?_
      rw [← List.take_append_drop (k + 1) xs, List.flatMap_append, List.getElem?_append_right (by rw [cl_flat_len elemW.len, List.length_take]; omega), cl_flat_len elemW.len, List.length_take, Nat.min_eq_left (by omega), Nat.add_sub_cancel_left, ← hnews]
      exact hu
  obtain ⟨i0, z0, hi0, hz0, hz1, hz2, hz3⟩ := elemW.info
  have hone : ∀ u ∈ news, u.oneCell' = true := fun u hu => by
    rw [hnews] at hu
    obtain ⟨x, _, hx⟩ := List.mem_flatMap.1 hu
    exact elemW.one x u hx
  have hrun := run_append_room (P := Tryz.prog) w.drew 51 51 109 i0 (by kernel_rfl) hi0 g k cap cur h5 ad (xs.length - (k + 1)) (cap - (k + 1)) news (by rw [hz1]; exact hnl) hsrc hone (by omega) (by rw [hz1, hnl, h8]; omega)
  obtain ⟨m1, hm1⟩ : ∃ m1, m1 = xs.length - 1 := ⟨_, rfl⟩
  rw [show k + (xs.length - (k + 1)) = m1 by omega, hz1] at hrun
  obtain ⟨W1, hW1⟩ : ∃ W1, W1 = w.drew.setRow g (cur.toList.take (k * 3) ++ news ++ cur.toList.drop (k * 3 + news.length)).toArray := ⟨_, rfl⟩
  rw [← hW1] at hrun
  have hB1 : Blk 109 W1 g (cur.toList.take (k * 3) ++ news ++ cur.toList.drop (k * 3 + news.length)).toArray := by
    rw [hW1]
    exact setRow_heap w.drew g cur _ 109 (0, 0) h5
  have hsz1 : (cur.toList.take (k * 3) ++ news ++ cur.toList.drop (k * 3 + news.length)).length = cap * 3 := by
    simp only [List.length_append, List.length_take, List.length_drop, Array.length_toList, hnl, h8]
    omega
  have hd := drop_cells xs hk cur h9
  rw [← hnews] at hd
  have hT1 : Turn [g] w W1 := by
    rw [hW1]
    exact ⟨rfl, rfl, rfl, by rw [setRow_size]; exact Nat.le_refl _, fun q _ hq => (setRow_other w.drew g q _ (fun e => hq (by simp [e])))⟩
  generalize cur.toList.take (k * 3) ++ news ++ cur.toList.drop (k * 3 + news.length) = L1 at *
  have hcl : (Builtin.clear_ #[51] 0 #[.slice (some ⟨g, (xs.length - 1) * 3, none⟩) (xs.length - (xs.length - 1)) (cap - (xs.length - 1))]).run Tryz.prog W1 = .ok (.tuple #[]) (W1.setCells g ((xs.length - 1) * 3) [Value.int .i64 0, Value.int .i64 0, Value.slice none 0 0]) := by
    rw [show xs.length - (xs.length - 1) = 1 by omega]
    refine run_clear_one W1 51 109 0 zpk (by kernel_rfl) (fun w => by kernel_rfl) (fun v hv => ?_) g _ _ (fun j hj => ?_) (fun j _ => hB1.free _)
    · simp only [zpk, Value.cells, List.mem_cons, List.not_mem_nil, or_false] at hv
      rcases hv with rfl | rfl | rfl <;> rfl
    · rw [hB1.at_]
      have h3 : j < 3 := hj
      rw [List.getElem?_toArray, List.getElem?_eq_getElem (by rw [hsz1]; omega)]
      rfl
  have hB2 := hB1.setCells [Value.int .i64 0, Value.int .i64 0, Value.slice none 0 0] ((xs.length - 1) * 3)
  have hO2 : Ol 109 pcl 3 0 (.slice (some ⟨g, 0, none⟩) (xs.length - 1) cap) (xs.eraseIdx k) (W1.setCells g ((xs.length - 1) * 3) [Value.int .i64 0, Value.int .i64 0, Value.slice none 0 0]) := by
    have hel : (xs.eraseIdx k).length = xs.length - 1 := by rw [List.length_eraseIdx, if_pos hk]
    have hz3 : [Value.int .i64 0, Value.int .i64 0, Value.slice none 0 0].length = 3 := rfl
    refine ⟨by rw [cl_flat_len elemW.len], .inr ⟨g, cap, _, by rw [hel], Nat.zero_le _, hB2, by omega, h7, by rw [over_size]; simpa using hsz1, ?_⟩⟩
    rw [hel, ← hd]
    apply List.ext_getElem?
    intro q
    rw [List.getElem?_take, List.getElem?_take]
    split
    · rw [Array.getElem?_toList, over_get _ _ _ (by rw [hz3]; simp only [List.size_toArray, hsz1]; omega), if_neg (by omega), List.getElem?_toArray]
    · rfl
  have hT2 : Turn [g] w (W1.setCells g ((xs.length - 1) * 3) [Value.int .i64 0, Value.int .i64 0, Value.slice none 0 0]) := hT1.trans (Turn.setCells W1 (by simp) _ _)
  have M := Lib.hid (And.intro hO2 hT2)
  have hm : cap ≤ 9223372036854775807 := by unfold maxLen at h7; omega
  clear hl h4 h5 h8 h9 H h7 hcur hsrc hone hi0 hz0 hz1 hz2 hz3 hW1 hnews hnl hB1 hsz1 hd hT1 hB2 hO2 hT2
  go_enter Tryz.func86, Tryz.ntmps86
  go_wp2_with fail
  refine wp_region_held_drew (S := fun u => True) (by kernel_rfl) trivial (fun hHeld => ?_)
  refine take_list (i := 0) (v := .slice (some ⟨g, 0, none⟩) xs.length cap) rfl (by kernel_rfl) (by kernel_rfl) (by kernel_rfl) (fun _ _ _ h => h) (.inl ⟨rfl, ?_⟩) hHeld ?_
  · (intro w hSw; go_simp)
  go_frame
  refine take_list (i := 1) (v := .int .i64 k) rfl (by kernel_rfl) (by kernel_rfl) (by kernel_rfl) (fun _ _ _ h => h) (.inl ⟨rfl, ?_⟩) hHeld ?_
  · (intro w hSw; go_simp)
  go_frame
  refine take_list (i := 2) (v := .slice (some ⟨g, 0, none⟩) k cap) rfl (by kernel_rfl) (by kernel_rfl) (by kernel_rfl) (fun _ _ _ h => h) (.inl ⟨rfl, ?_⟩) hHeld ?_
  · (intro w hSw; go_simp; try (intro e0; omega))
  go_frame
  refine take_list (i := 3) (v := .slice (some ⟨g, 0, none⟩) xs.length cap) rfl (by kernel_rfl) (by kernel_rfl) (by kernel_rfl) (fun _ _ _ h => h) (.inl ⟨rfl, ?_⟩) hHeld ?_
  · (intro w hSw; go_simp)
  go_frame
  refine take_list (i := 4) (v := .int .i64 ((k + 1 : Nat) : Int)) rfl (by kernel_rfl) (by kernel_rfl) (by kernel_rfl) (fun _ _ _ h => h) (.inl ⟨rfl, ?_⟩) hHeld ?_
  · (intro w hSw; go_simp)
  go_frame
  refine take_list (i := 5) (v := .slice (some ad) (xs.length - (k + 1)) (cap - (k + 1))) rfl (by kernel_rfl) (by kernel_rfl) (by kernel_rfl) (fun _ _ _ h => h) (.inl ⟨rfl, ?_⟩) hHeld ?_
  · (intro w hSw; go_simp; try (intro e0; have := e0 (by omega); omega))
  go_frame
  refine ready_list (i := 6) rfl (by kernel_rfl) (fun K hK => ?_)
  refine step_append_run rfl _ _ _ rfl _ _ _ _ _ ?_ ?_ ?_ hrun ?_ <;> first | rfl | skip
  refine hK.out _ _ trivial (fun hHeld => ?_)
  clear hK K hrun
  try go_frame
  refine take_list (i := 7) (v := .slice (some ⟨g, 0, none⟩) m1 cap) rfl (by kernel_rfl) (by kernel_rfl) (by kernel_rfl) (fun _ _ _ h => h) (.inl ⟨rfl, ?_⟩) hHeld ?_
  · (intro w hSw; go_simp)
  go_frame
  refine wpAnyH_done (by kernel_rfl) ?_ _
  try go_frame
  clear hHeld
  go_wp2_with fail
  go_ret
  subst hm1
  exact ⟨rfl, M.out⟩
end Go.Proofs.YtkchckeecfalhaaGreat

