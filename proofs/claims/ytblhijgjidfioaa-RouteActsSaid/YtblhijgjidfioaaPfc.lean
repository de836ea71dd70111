/-
  The statement's two closures over Prefixes: one lists, one looks and leaves.
-/
import Derived.Test.YtblhijgjidfioaaPfy
import Derived.Deep.AppendLies
namespace Go.Proofs.Ytblhijgjidfioaa
open Go.RowKit Go.Maps

/-- a list of prefixes that a function owns, in a box -/
structure LP (W : World) (base A g cap : Nat) (xs : List Pk) : Prop where
  box : Blk 60 W A #[.slice (some ⟨g, 0, none⟩) xs.length cap]
  row : W.ownsRow base 32 2 (.slice (some ⟨g, 0, none⟩) xs.length cap) xs.length (xs.flatMap clP)
theorem LP.ne {W : World} {base A g cap : Nat} {xs : List Pk} (h : LP W base A g cap xs) : g ≠ A := fun e => by
  obtain ⟨_, _, hk⟩ := Lib.ownsRow_kind h.row g rfl
  have := h.box
  unfold Blk at this
  rw [e, this] at hk
  cases hk
theorem LP.lt {W : World} {base A g cap : Nat} {xs : List Pk} (h : LP W base A g cap xs) : g < W.heap.size := (h.row.lt g rfl).2
theorem LP.turn {W W' : World} {base A g cap : Nat} {xs : List Pk} {L : List Nat} (h : LP W base A g cap xs) (ht : Turn L W W') (h1 : A ∉ L) (h2 : g ∉ L) : LP W' base A g cap xs := by
  refine ⟨h.box.turn ht h1, h.row.1, ?_⟩
  rcases h.row.2 with h3 | ⟨g', cap', cur, e1, e2, e3, r⟩
  · exact .inl h3
  · cases e1
    exact .inr ⟨g, cap, cur, rfl, e2, (ht.block g h.lt h2).trans e3, r⟩
theorem LP.pr {W : World} {base A g cap : Nat} {xs : List Pk} (h : LP W base A g cap xs) : PR W g (fun i => xs[i]!) xs.length := by
  have key : ∀ i, i < xs.length → ∀ j, j < 2 → W.cell? ⟨g, i * 2 + j, none⟩ = (clP xs[i]!)[j]? := fun i hi j hj => by
    rcases Row.of_owns clP_length h.row with ⟨h0, -⟩ | ⟨g', cap', h0, -, -, h3⟩
    · cases h0
    · cases h0
      rw [h3 i hi j hj]
      simp [hi]
  exact ⟨fun i hi => key i hi 0 (by omega), fun i hi => key i hi 1 (by omega), fun i hi => h.row.frozenAt _, fun i hi => h.row.frozenAt _⟩

set_option maxHeartbeats 2000000 in
theorem cl1_any {W : World} {base A g cap : Nat} {xs : List Pk} (h : LP W base A g cap xs) (hl : xs.length ≤ 1000) (hb : base ≤ W.heap.size) (a : Nat) (n : Int) :
    Calls Try.prog 22 #[.agg #[.int .u32 a, .int .i64 n], .pointer (some ⟨A, 0, none⟩)] W fun e W' => e = .returned (.bool true) ∧ ∃ g' cap', LP W' base A g' cap' (xs ++ [⟨a, n⟩]) ∧ Turn [A, g] W W' ∧ (g' = g ∨ W.heap.size ≤ g') := by
  obtain ⟨i0, hi0, hz0, hz1, hz2⟩ := info_parts infoP
  have II := Lib.hid (And.intro hi0 (And.intro hz0 (And.intro hz1 hz2)))
  clear hi0 hz0 hz1 hz2
  have hlt := h.box.lt
  have c0 := h.box.at_ 0
  have c1 := (h.box.more (.cells #[.int .u32 a, .int .i64 n] 32)).at_ 0
  have H := Lib.hid h
  clear h
  go_enter Try.func22, Try.ntmps22
  go_wp2_with (first | (at_builtin; refine wpList_append_lies _ rfl (.tmp 4) (.tmp 6) 60 rfl base 32 i0 (.agg #[.int .u32 0, .int .i64 0]) 2 16 (by kernel_rfl) II.out.1 II.out.2.1 II.out.2.2.1 II.out.2.2.2 rfl (by decide) _ _ _ rfl ((H.out.row.alloc _).alloc _) ⟨W.heap.size + 1, 0, none⟩ 1 1 [.int .u32 a, .int .i64 n] rfl ?c1 ?c2 ?c3 (by decide) ?c4 ?c5 ?c6 _ rfl ?_))
  case c1 => rfl
  case c2 =>
    intro j u hj
    rw [Addr.add_mid, Nat.zero_add, show W.heap.size + 1 = (W.alloc (.cells #[.int .u32 a, .int .i64 n] 32)).heap.size from (size_new _ _).symm, new_cell]
    simpa using hj
  case c3 =>
    intro u hu
    simp only [List.mem_cons, List.not_mem_nil, or_false] at hu
    rcases hu with rfl | rfl <;> rfl
  case c4 => unfold maxLen; omega
  case c5 => omega
  case c6 => rw [size_new, size_new]; omega
  intro g2 cap2 w3 hown hgr hat hlt3
  have bx : Blk 60 w3 A #[.slice (some ⟨g, 0, none⟩) xs.length cap] := (hgr.block A (by rw [size_new, size_new]; omega) (fun e => H.out.ne (by simpa [Value.ownBlock] using e.symm))).trans ((H.out.box.more _).more _)
  have hat2 : g2 = g ∨ W.heap.size ≤ g2 := by
    rcases hat with e | e
    · exact .inl (by simpa [Value.ownBlock] using e.symm)
    · refine .inr ?_
      rw [e]
      omega
  have hT : Turn [A, g] W w3 := (((Turn.refl [A, g] W).alloc _).alloc _).trans (Turn.of_grown hgr (by simp))
  have Z := Lib.hid (And.intro hown (And.intro bx (And.intro hat2 hT)))
  have b0 := bx.at_ 0
  have b1 := bx.free 0
  clear hown hgr hat bx hat2 hT c0 c1
  go_wp2_with fail
  go_ret
  have hl2 : (xs ++ [(⟨a, n⟩ : Pk)]).length = xs.length + 1 := by simp
  refine ⟨rfl, g2, cap2, ⟨by rw [hl2]; exact Z.out.2.1.store 0 _, ?_⟩, Z.out.2.2.2.trans (Turn.setCell _ (by simp) _), Z.out.2.2.1⟩
  rw [hl2, List.flatMap_append]
  refine ownsRow_setCell_other Z.out.1 (fun e => ?_) _
  have e2 : g2 = A := by simpa [Value.ownBlock] using e
  obtain ⟨_, _, hk⟩ := Lib.ownsRow_kind Z.out.1 g2 rfl
  have hbx := Z.out.2.1
  unfold Blk at hbx
  rw [e2, hbx] at hk
  cases hk

set_option maxHeartbeats 4000000 in
theorem cl2_any {W : World} {base A g cap : Nat} {xs : List Pk} (h : LP W base A g cap xs) (hl : xs.length ≤ 1000) {S N K j kk : Nat} (hS : Blk 4 W S #[.bool true]) (hN : Blk 3 W N #[.int .i64 j]) (hK : Blk 3 W K #[.int .i64 kk]) (hNK : N ≠ K) (hj : j < xs.length) {a : Nat} {n : Int} (hx : xs[j]! = ⟨a, n⟩) {c : Bool} (hc : decide ((j : Int) + 1 ≤ kk) = c) :
    Calls Try.prog 23 #[.agg #[.int .u32 a, .int .i64 n], .pointer (some ⟨S, 0, none⟩), .pointer (some ⟨N, 0, none⟩), .pointer (some ⟨A, 0, none⟩), .pointer (some ⟨K, 0, none⟩)] W fun e W' =>
      e = .returned (.bool c) ∧ Blk 4 W' S #[.bool true] ∧ Blk 3 W' N #[.int .i64 ((j : Int) + 1)] ∧ Turn [S, N] W W' := by
  have mixed := mixed_orders2
  have hjz : (j : Int) < (xs.length : Int) := by omega
  have hSN : S ≠ N := fun e => by
    unfold Blk at hS hN
    rw [e, hN] at hS
    cases hS
  have hSK : S ≠ K := fun e => by
    unfold Blk at hS hK
    rw [e, hK] at hS
    cases hS
  have p0 := h.pr.c0 j hj
  have p1 := h.pr.c1 j hj
  simp only [hx] at p0 p1
  have hb := below_new W (.cells #[.int .u32 a, .int .i64 n] 32)
  have q0 := held hb p0
  have q1 := held hb p1
  have bA := (h.box.held hb).at_ 0
  have bS := (hS.held hb).at_ 0
  have fS := (hS.held hb).free 0
  have bN := (hN.held hb).at_ 0
  have BP := Blk.new W 32 #[.int .u32 a, .int .i64 n]
  have k0 := BP.at_ 0
  have k1 := BP.at_ 1
  have HS := (hS.held hb)
  have HN := (hN.held hb).away (p := ⟨S, 0, none⟩) hSN.symm (.bool true)
  have HK := (hK.held hb).away (p := ⟨S, 0, none⟩) hSK.symm (.bool true)
  have hT : Turn [S, N] W (W.alloc (.cells #[.int .u32 a, .int .i64 n] 32)) := Turn.of_below _ hb
  have Z := Lib.hid (And.intro HS (And.intro HN (And.intro HK hT)))
  clear h hS hN hK hb p0 p1 HS HN HK hT BP hx
  go_enter Try.func23, Try.ntmps23
  go_wp2_with fail
  generalize W.alloc (.cells #[.int .u32 a, .int .i64 n] 32) = w2 at *
  go_big_region_o
  have BS : Blk 4 (w2.setCell ⟨S, 0, none⟩ (.bool true)).drew S #[.bool true] := (Z.out.1.store 0 (.bool true)).drew
  have BN := Z.out.2.1.drew
  have BK := Z.out.2.2.1.drew
  have hT : Turn [S, N] W (w2.setCell ⟨S, 0, none⟩ (.bool true)).drew := (Z.out.2.2.2.trans (Turn.setCell _ (by simp) _)).drew
  clear q0 q1 bA bS fS bN k0 k1 Z
  generalize (w2.setCell ⟨S, 0, none⟩ (.bool true)).drew = w3 at *
  have m0 := BN.at_ 0
  have m1 := BN.free 0
  have BK2 := BK.away (p := ⟨N, 0, none⟩) hNK.symm (.int .i64 ((j : Int) + 1))
  have m2 := BK2.at_ 0
  have jw : IntKind.i64.wrap ((j : Int) + 1) = (j : Int) + 1 := by rw [IntKind.wrap_i64]; omega
  have Y := Lib.hid (And.intro BS (And.intro BN hT))
  clear BS BN BK BK2 hT
  go_wp2_with fail
  go_ret
  exact ⟨rfl, Y.out.1.away (p := ⟨N, 0, none⟩) hSN _, Y.out.2.1.store 0 _, Y.out.2.2.trans (Turn.setCell _ (by simp) _)⟩
end Go.Proofs.Ytblhijgjidfioaa
