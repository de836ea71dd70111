/-
  Package router: New, over a disk without records.
  All that the statements about one router lean on.
-/
import Derived.Test.YtmhcjhbmeohjdaaGreatS13
import Derived.Test.YtmhcjhbmeohjdaaGreatS09
import Derived.Test.YtmhcjhbmeohjdaaGreatS25
import Derived.Test.YtmhcjhbmeohjdaaGreatS24
import Derived.Test.YtmhcjhbmeohjdaaGreatS22
import Derived.Test.YtmhcjhbmeohjdaaGreatS21
import Derived.Test.YtmhcjhbmeohjdaaGreatS11
namespace Go.Proofs.YtmhcjhbmeohjdaaGreat
open Go.RowKit Go.Maps Rm
attribute [local go_sem] Oper.semAt_some

theorem dec_neverN : dec (dec (-1)) = -1 := by decide
/-- a new router -/
def mr0 (id : Nat) : Mr := ⟨id, sm0, fun _ => none, fun _ => 0, 0, 0, 0⟩
set_option maxRecDepth 100000 in
set_option maxHeartbeats 2000000 in
theorem rz_new {w : World} {d S Mp n : Nat} {safe : Nat → List UInt8} {wn : Int → Option (List UInt8)} (h : Dk w d S Mp n safe wn (-1)) (hN : ∀ i, i < n → recAt (synced safe wn i) = none) {id : Nat} (h0 : 0 < id) (h1 : id < 4294967296) (hn : 4 ≤ n) (hn2 : n ≤ 512) :
    Calls Tryz.prog 8 #[.pointer (some ⟨d, 0, none⟩), .int .u32 id] w fun e w' => ∃ R, e = .returned (.tuple #[.pointer (some ⟨R, 0, none⟩), .int .i64 0]) ∧ w.heap.size ≤ R ∧ Rz ([d, S, Mp] ++ rp R none none none) w' R (n / 2 - 1) 90000 (mr0 id) ∧ Turn [d, S, Mp] w w' := by
  have HO := open_well h hN (by decide) (by decide) h0 h1 hn
  have hlt := h.head.lt
  have hltS := h.ltS
  have hltM := h.map.lt
  obtain ⟨half, hh⟩ : ∃ half, n / 2 = half := ⟨_, rfl⟩
  rw [hh] at HO ⊢
  have HH := Lib.hid hh
  clear hh h hN
  go_enter Tryz.func8, Tryz.ntmps8
  go_wp2_with fail
  refine HO.mono ?_
  rintro e w1 ⟨lb, rfl, hlb, hNt, hD, hT⟩
  obtain ⟨cn, cm, hnm, hSt⟩ := hNt
  have LB : Blk 80 w1 lb #[.int .u32 id, .int .u32 0, .map none, .map none, .pointer (some ⟨d, 0, none⟩), .int .i64 0, .int .i64 half, .int .u32 1, .int .i64 0, .bool false] := hSt.head
  rw [dec_neverN] at hD
  have X := Lib.hid (And.intro hD (And.intro hT (And.intro hlb LB)))
  clear HO hD hT hSt hnm
  have l0 : w1.drew.cell? ⟨lb, 0, none⟩ = some (.int .u32 id) := LB.at_ 0
  have l1 : w1.drew.cell? ⟨lb, 1, none⟩ = some (.int .u32 0) := LB.at_ 1
  have l2 : w1.drew.cell? ⟨lb, 2, none⟩ = some (.map none) := LB.at_ 2
  have l3 : w1.drew.cell? ⟨lb, 3, none⟩ = some (.map none) := LB.at_ 3
  have l4 : w1.drew.cell? ⟨lb, 4, none⟩ = some (.pointer (some ⟨d, 0, none⟩)) := LB.at_ 4
  have l5 : w1.drew.cell? ⟨lb, 5, none⟩ = some (.int .i64 0) := LB.at_ 5
  have l6 : w1.drew.cell? ⟨lb, 6, none⟩ = some (.int .i64 half) := LB.at_ 6
  have l7 : w1.drew.cell? ⟨lb, 7, none⟩ = some (.int .u32 1) := LB.at_ 7
  have l8 : w1.drew.cell? ⟨lb, 8, none⟩ = some (.int .i64 0) := LB.at_ 8
  have l9 : w1.drew.cell? ⟨lb, 9, none⟩ = some (.bool false) := LB.at_ 9
  clear LB
  go_upto_region 4 with fail
  refine wp_region_held_drew (S := fun u => u.cell? ⟨lb, 0, none⟩ = some (.int .u32 id) ∧ u.cell? ⟨lb, 1, none⟩ = some (.int .u32 0) ∧ u.cell? ⟨lb, 2, none⟩ = some (.map none) ∧ u.cell? ⟨lb, 3, none⟩ = some (.map none) ∧ u.cell? ⟨lb, 4, none⟩ = some (.pointer (some ⟨d, 0, none⟩)) ∧ u.cell? ⟨lb, 5, none⟩ = some (.int .i64 0) ∧ u.cell? ⟨lb, 6, none⟩ = some (.int .i64 half) ∧ u.cell? ⟨lb, 7, none⟩ = some (.int .u32 1) ∧ u.cell? ⟨lb, 8, none⟩ = some (.int .i64 0) ∧ u.cell? ⟨lb, 9, none⟩ = some (.bool false)) (by kernel_rfl) ⟨l0, l1, l2, l3, l4, l5, l6, l7, l8, l9⟩ (fun hHeld => ?_)
  refine take_list (i := 0) (v := .pointer (some ⟨lb, 0, none⟩)) rfl (by kernel_rfl) (by kernel_rfl) (by kernel_rfl) (fun _ _ _ h => h) (.inl ⟨rfl, ?_⟩) hHeld ?_
  · (intro w hSw; go_simp)
  go_frame
  refine take_list (i := 1) (v := .pointer (some ⟨lb, 0, none⟩)) rfl (by kernel_rfl) (by kernel_rfl) (by kernel_rfl) (fun _ _ _ h => h) (.inl ⟨rfl, ?_⟩) hHeld ?_
  · (intro w hSw; go_simp)
  go_frame
  refine take_list (i := 2) (v := .agg #[.int .u32 id, .int .u32 0, .map none, .map none, .pointer (some ⟨d, 0, none⟩), .int .i64 0, .int .i64 half, .int .u32 1, .int .i64 0, .bool false]) rfl (by kernel_rfl) (by kernel_rfl) (by kernel_rfl) (fun _ _ _ h => h) (.inl ⟨rfl, ?_⟩) hHeld ?_
  · (intro w hSw; go_simp)
  go_frame
  refine ready_list (i := 3) rfl (by kernel_rfl) (fun K hK => ?_)
  go_simp
  refine (rt_new _).mono ?_
  rintro e w2 ⟨rfl, rfl⟩
  have hb2 := below_new w1.drew (.cells #[.map none] 83)
  have TB := Blk.new w1.drew 83 #[.map none]
  have hz2 := size_new w1.drew (.cells #[.map none] 83)
  generalize w1.drew.alloc (.cells #[.map none] 83) = w2 at *
  have hh2 : w2.cell? ⟨lb, 0, none⟩ = some (.int .u32 id) ∧ w2.cell? ⟨lb, 1, none⟩ = some (.int .u32 0) ∧ w2.cell? ⟨lb, 2, none⟩ = some (.map none) ∧ w2.cell? ⟨lb, 3, none⟩ = some (.map none) ∧ w2.cell? ⟨lb, 4, none⟩ = some (.pointer (some ⟨d, 0, none⟩)) ∧ w2.cell? ⟨lb, 5, none⟩ = some (.int .i64 0) ∧ w2.cell? ⟨lb, 6, none⟩ = some (.int .i64 half) ∧ w2.cell? ⟨lb, 7, none⟩ = some (.int .u32 1) ∧ w2.cell? ⟨lb, 8, none⟩ = some (.int .i64 0) ∧ w2.cell? ⟨lb, 9, none⟩ = some (.bool false) := ⟨held hb2 l0, held hb2 l1, held hb2 l2, held hb2 l3, held hb2 l4, held hb2 l5, held hb2 l6, held hb2 l7, held hb2 l8, held hb2 l9⟩
  refine hK.out _ _ hh2 (fun hHeld => ?_)
  clear hK K l0 l1 l2 l3 l4 l5 l6 l7 l8 l9
  have htb : w.heap.size ≤ w1.drew.heap.size := X.out.2.1.size
  have Z := Lib.hid (And.intro (X.out.1.drew.held hb2) (X.out.2.1.drew.and_below hb2))
  clear hb2
  generalize w1.drew.heap.size = tb at *
  have k0 := TB.at_ 0
  refine take_list (i := 4) (v := .pointer (some ⟨tb, 0, none⟩)) rfl (by kernel_rfl) (by kernel_rfl) (by kernel_rfl) (fun _ _ _ h => h) (.inl ⟨rfl, ?_⟩) hHeld ?_
  · (intro w hSw; go_simp)
  go_frame
  refine ready_list (i := 5) rfl (by kernel_rfl) (fun K hK => ?_)
  go_simp
  refine hK.out _ _ hh2 (fun hHeld => ?_)
  clear hK K
  refine take_list (i := 6) (v := .agg #[.int .u32 id, .int .u32 0, .map none, .map none, .pointer (some ⟨d, 0, none⟩), .int .i64 0, .int .i64 half, .int .u32 1, .int .i64 0, .bool false, .map none, .int .i64 0, .int .i64 0, .int .i64 0, .int .i64 0, .int .i64 0, .int .i64 0, .int .i64 0, .int .i64 0, .int .i64 0, .int .u32 0, .int .i64 0]) rfl (by kernel_rfl) (by kernel_rfl) (by kernel_rfl) (fun _ _ _ h => h) (.inl ⟨rfl, ?_⟩) hHeld ?_
  · (intro w hSw; go_simp)
  go_frame
  refine ready_list (i := 7) rfl (by kernel_rfl) (fun K hK => ?_)
  go_simp
  have hb3 := below_new w2 (.cells #[.int .u32 id, .int .u32 0, .map none, .map none, .pointer (some ⟨d, 0, none⟩), .int .i64 0, .int .i64 half, .int .u32 1, .int .i64 0, .bool false, .map none, .int .i64 0, .int .i64 0, .int .i64 0, .int .i64 0, .int .i64 0, .int .i64 0, .int .i64 0, .int .i64 0, .int .i64 0, .int .u32 0, .int .i64 0] 88)
  have RB := Blk.new w2 88 #[.int .u32 id, .int .u32 0, .map none, .map none, .pointer (some ⟨d, 0, none⟩), .int .i64 0, .int .i64 half, .int .u32 1, .int .i64 0, .bool false, .map none, .int .i64 0, .int .i64 0, .int .i64 0, .int .i64 0, .int .i64 0, .int .i64 0, .int .i64 0, .int .i64 0, .int .i64 0, .int .u32 0, .int .i64 0]
  obtain ⟨g0, g1, g2, g3, g4, g5, g6, g7, g8, g9⟩ := hh2
  have hh3 := And.intro (held hb3 g0) (And.intro (held hb3 g1) (And.intro (held hb3 g2) (And.intro (held hb3 g3) (And.intro (held hb3 g4) (And.intro (held hb3 g5) (And.intro (held hb3 g6) (And.intro (held hb3 g7) (And.intro (held hb3 g8) (held hb3 g9)))))))))
  refine hK.out _ _ hh3 (fun hHeld => ?_)
  clear hK K g0 g1 g2 g3 g4 g5 g6 g7 g8 g9 k0
  rw [hz2] at RB
  have Y := Lib.hid (And.intro (Z.out.1.held hb3) (And.intro (Z.out.2.and_below hb3) RB))
  clear hb3 RB TB hz2
  generalize w2.alloc (.cells #[.int .u32 id, .int .u32 0, .map none, .map none, .pointer (some ⟨d, 0, none⟩), .int .i64 0, .int .i64 half, .int .u32 1, .int .i64 0, .bool false, .map none, .int .i64 0, .int .i64 0, .int .i64 0, .int .i64 0, .int .i64 0, .int .i64 0, .int .i64 0, .int .i64 0, .int .i64 0, .int .u32 0, .int .i64 0] 88) = w3 at *
  refine ready_list (i := 8) rfl (by kernel_rfl) (fun K hK => ?_)
  go_simp
  refine hK.out _ _ hh3 (fun hHeld => ?_)
  clear hK K
  refine ready_list (i := 9) rfl (by kernel_rfl) (fun K hK => ?_)
  go_simp
  refine hK.out _ _ hh3 (fun hHeld => ?_)
  clear hK K
  refine wpAnyH_done (by kernel_rfl) ?_ _
  try go_frame
  clear hh3 hHeld
  go_wp2_with fail
  go_ret2
  have hhalf := HH.out
  refine ⟨tb + 1, rfl, by omega, ⟨none, none, none, ⟨d, 0, half, 1, 0, false⟩, 0, 0, S, Mp, n, _, _, rfl, ⟨⟨0, 0, Nat.le_refl _, ⟨Y.out.2.2, ⟨rfl, fun _ => rfl⟩, ⟨rfl, fun _ => rfl⟩, fun a b e => (by cases e), fun k f e => (by cases e), by show 0 < 4294967296; omega, by omega⟩⟩, ⟨rfl, fun _ => rfl⟩, fun b e => (by cases e), ⟨⟨h0, h1⟩, fun k r e => (by cases e), fun k => ⟨Int.le_refl _, by show (0 : Int) ≤ 1000; decide⟩, ⟨Int.le_refl _, by show (0 : Int) ≤ 1000000; decide⟩, Nat.zero_le _, ⟨Int.le_refl _, Int.le_refl _⟩⟩⟩, Y.out.1, fun x hx => ?_, by show 0 + half ≤ n; omega, by show 0 + (half - 1) + 1 ≤ half; omega, by show 1 < 4294967296; omega, by omega, by omega⟩, Y.out.2.1⟩
  rcases mem_rp.1 hx with rfl | e | e | e
  · simp
    omega
  · cases e
  · cases e
  · cases e
end Go.Proofs.YtmhcjhbmeohjdaaGreat

namespace Go.Proofs.YtmhcjhbmeohjdaaGreat
open Go.RowKit

end Go.Proofs.YtmhcjhbmeohjdaaGreat

