/-
  DistPaths: the walk: over links one behind the other a distance grows by their sum, until it is lost.
-/
import Derived.Test.YtclfchdgagpahaaDistH
import Derived.Test.YtclfchdgagpahaaDistLnk
import Derived.Laws.BitsAllLaws
namespace Go.Proofs.Ytclfchdgagpahaa
open Go.RowKit

/-- A slice's value that reads as these numbers; nil let in. -/
def IntsAt (w : World) (A : Option Addr) (n : Nat) (zs : List Int) : Prop :=
  n ≤ maxLen ∧ ∀ k, k < n → ∃ ad, A = some ad ∧ w.cell? (ad.add k) = some (.int .i64 (zs.getD k 0))
theorem add_block (a : Addr) (n : Nat) : (a.add n).block = a.block := by unfold Addr.add; split <;> rfl
theorem IntsAt.held {w w' : World} {A : Option Addr} {n : Nat} {zs : List Int} (h : IntsAt w A n zs) (hb : Below w.heap.size w w') : IntsAt w' A n zs :=
  ⟨h.1, fun k hk => by
    obtain ⟨ad, e, hc⟩ := h.2 k hk
    exact ⟨ad, e, Go.Proofs.Ytclfchdgagpahaa.held hb hc⟩⟩

/-- The block g is just the struct of the two cells x and y. -/
def Pair (w : World) (g : Nat) (x y : Value) : Prop := w.heap[g]? = some (.cells #[x, y] 29 (0, 0))
theorem Pair.two {w : World} {g : Nat} {x y : Value} (h : Pair w g x y) : Two w g x y := ⟨by unfold Pair at h; simp [World.cell?, h], by unfold Pair at h; simp [World.cell?, h]⟩
theorem Pair.free {w : World} {g : Nat} {x y : Value} (h : Pair w g x y) (i : Nat) : w.frozen? ⟨g, i, none⟩ = false := by unfold Pair at h; simp [World.frozen?, h]
theorem Pair.lt {w : World} {g : Nat} {x y : Value} (h : Pair w g x y) : g < w.heap.size := cell_lt h.two.1
theorem Pair.held {w w' : World} {g : Nat} {x y : Value} (h : Pair w g x y) (hb : Below w.heap.size w w') : Pair w' g x y := (hb.block g h.lt).trans h
theorem Pair.new (w : World) (x y : Value) : Pair (w.alloc (.cells #[x, y] 29)) w.heap.size x y := heap_alloc_new w _
theorem Pair.store {w : World} {g : Nat} {x y x' y' : Value} (h : Pair w g x y) : Pair ((w.setCell ⟨g, 0, none⟩ x').setCell ⟨g, 1, none⟩ y') g x' y' := by
  unfold Pair at h ⊢
  simp [World.setCell, Array.getElem?_modify, h]
/-- what lies below g stays as it was while the block g is written -/
theorem store_far {w : World} {g : Nat} {x' y' : Value} {p : Addr} (hp : p.block ≠ g) : ((w.setCell ⟨g, 0, none⟩ x').setCell ⟨g, 1, none⟩ y').cell? p = w.cell? p := by
  rw [World.cell?_setCell_other _ _ _ _ (fun e => hp (by rw [← e])), World.cell?_setCell_other _ _ _ _ (fun e => hp (by rw [← e]))]

theorem mask_bound (z : Int) : 0 ≤ bits .and .i64 z 511 ∧ bits .and .i64 z 511 ≤ 511 := by
  have h : (BitVec.ofInt 64 z &&& BitVec.ofInt 64 511).toNat ≤ 511 := by
    rw [BitVec.toNat_and]
    exact Nat.and_le_right
  have e : bits .and .i64 z 511 = IntKind.i64.wrap ((BitVec.ofInt 64 z &&& BitVec.ofInt 64 511).toNat : Int) := rfl
  rw [e]
  generalize (BitVec.ofInt 64 z &&& BitVec.ofInt 64 511).toNat = n at h
  simp only [IntKind.wrap, IntKind.bits, IntKind.signed]
  simp
  omega

theorem far_step {S c : Int} (h1 : 1 ≤ c) (h2 : c ≤ 512) : far S c = if 65535 < S + c then 65535 else S + c := by
  have e : clampCost c = c := by unfold clampCost; rw [if_neg (by omega), if_neg (by omega)]
  unfold far
  rw [e]

set_option maxHeartbeats 1000000 in
theorem paths_any (A : Option Addr) (n cap : Nat) (zs : List Int) (s m : Int) (hm : 0 ≤ m) (hm2 : m ≤ 65535) (w : World) (h : IntsAt w A n zs) :
    Calls Try.prog 6 #[.agg #[.int .u32 s, .int .u16 m], .slice A n cap] w fun e w' => e = .returned (.bool true) ∧ Below w.heap.size w w' := by
  have hn : n ≤ 9223372036854775807 := by have := h.1; unfold maxLen at this; omega
  have H := Lib.hid h
  clear h
  go_enter Try.func6, Try.ntmps6
  go_wp2_with fail
  obtain ⟨a0, a1⟩ := two_new w 29 (.int .u32 s) (.int .u16 m)
  have hb := below_new w (.cells #[.int .u32 s, .int .u16 m] 29)
  generalize w.alloc (.cells #[.int .u32 s, .int .u16 m] 29) = v at *
  have HB := Lib.hid hb
  clear hb
  refine (dist_head _).mono ?_
  rintro e w1 ⟨rfl, hb⟩
  replace a0 := held hb a0; replace a1 := held hb a1
  replace HB := Lib.hid (next HB.out hb); clear hb
  by_cases hbig : 100 < n
  · go_wp2_with fail
    go_ret
    exact ⟨rfl, HB.out⟩
  · have hz : w.heap.size < w1.heap.size := cell_lt a0
    go_wp2_with fail
    have X := Pair.new w1 (.int .u32 s) (.int .u16 m)
    have hb := below_new w1 (.cells #[.int .u32 s, .int .u16 m] 29)
    generalize w1.alloc (.cells #[.int .u32 s, .int .u16 m] 29) = w2 at *
    replace a0 := held hb a0; replace a1 := held hb a1
    replace HB := Lib.hid (next HB.out hb); clear hb
    generalize w1.heap.size = g at *
    have K := Lib.hid (And.intro a0 (And.intro a1 X))
    clear a0 a1 X
    go_loopw [6, 20] (fun sm i wr => ∃ (k : Nat) (S : Int), k ≤ n ∧ 0 ≤ S ∧ S ≤ 65535 ∧ i = .int .i64 k ∧ sm = .int .i64 S ∧ (wr.cell? ⟨w.heap.size, 0, none⟩ = some (.int .u32 s) ∧ wr.cell? ⟨w.heap.size, 1, none⟩ = some (.int .u16 m) ∧ Pair wr g (.int .u32 s) (.int .u16 S)) ∧ Below w.heap.size w wr)
      (fun _ i _ => n - (intOf i).toNat)
    case atStart => exact ⟨0, m, by omega, hm, hm2, rfl, rfl, K.out, HB.out⟩
    case round =>
      clear K HB
      obtain ⟨k, S, hk, hS, hS2, rfl, rfl, ⟨a0, a1, X⟩, hB⟩ := hrel
      have HB := Lib.hid hB
      clear hB
      by_cases hlt : k < n
      · obtain ⟨ad, ha, hcell⟩ := (H.out.held HB.out).2 k hlt
        subst ha
        have hmask := mask_bound (zs.getD k 0)
        generalize zs.getD k 0 = z at hcell hmask
        have x0 := X.two.1
        have x1 := X.two.2
        go_wp2_with fail
        generalize bits BinOp.and IntKind.i64 z 511 = q at *
        obtain ⟨q1, q2⟩ := hmask
        by_cases hover : 65535 < S + (1 + q)
        · have F : Hid (far S (1 + q) = 65535) := Lib.hid (by rw [far_step (by omega) (by omega)]; rw [if_pos hover])
          have L : Hid (((65535 : Int) == 65535) = true) := Lib.hid rfl
          refine (beyond_eq hS hS2 F.out _).mono ?_
          rintro e w3 ⟨rfl, hb⟩
          replace a0 := held hb a0; replace a1 := held hb a1; replace X := X.held hb
          replace HB := Lib.hid (next HB.out hb); clear hb
          clear x0 x1
          have x0 := X.two.1
          have x1 := X.two.2
          have f0 := X.free 0
          have f1 := X.free 1
          go_wp2_with fail
          replace X := X.store (x' := .int .u32 s) (y' := .int .u16 (65535))
          replace a0 := (store_far (g := g) (x' := .int .u32 s) (y' := .int .u16 (65535)) (p := ⟨w.heap.size, 0, none⟩) (by simp; omega)).trans a0
          replace a1 := (store_far (g := g) (x' := .int .u32 s) (y' := .int .u16 (65535)) (p := ⟨w.heap.size, 1, none⟩) (by simp; omega)).trans a1
          have hB := (HB.out.setCell (p := ⟨g, 0, none⟩) (by simp; omega) (.int .u32 s)).setCell (p := ⟨g, 1, none⟩) (by simp; omega) (.int .u16 (65535))
          generalize (w3.setCell ⟨g, 0, none⟩ (.int .u32 s)).setCell ⟨g, 1, none⟩ (.int .u16 (65535)) = w4 at *
          clear HB
          have HB := Lib.hid hB
          clear hB f0 f1 x0 x1
          refine (lost_eq L.out _).mono ?_
          rintro e w5 ⟨rfl, hb⟩
          replace a0 := held hb a0; replace a1 := held hb a1; replace X := X.held hb
          replace HB := Lib.hid (next HB.out hb); clear hb
          go_wp2_with fail
          go_roundw
          case rel => exact ⟨k + 1, 65535, by omega, by omega, by omega, by go_num, rfl, ⟨a0, a1, X⟩, HB.out⟩
          case measure => simp [intOf]; omega
        · by_cases hl : S + (1 + q) = 65535
          · have F : Hid (far S (1 + q) = 65535) := Lib.hid (by rw [far_step (by omega) (by omega)]; rw [if_neg hover]; exact hl)
            have L : Hid (((65535 : Int) == 65535) = true) := Lib.hid rfl
            refine (beyond_eq hS hS2 F.out _).mono ?_
            rintro e w3 ⟨rfl, hb⟩
            replace a0 := held hb a0; replace a1 := held hb a1; replace X := X.held hb
            replace HB := Lib.hid (next HB.out hb); clear hb
            clear x0 x1
            have x0 := X.two.1
            have x1 := X.two.2
            have f0 := X.free 0
            have f1 := X.free 1
            go_wp2_with fail
            replace X := X.store (x' := .int .u32 s) (y' := .int .u16 (65535))
            replace a0 := (store_far (g := g) (x' := .int .u32 s) (y' := .int .u16 (65535)) (p := ⟨w.heap.size, 0, none⟩) (by simp; omega)).trans a0
            replace a1 := (store_far (g := g) (x' := .int .u32 s) (y' := .int .u16 (65535)) (p := ⟨w.heap.size, 1, none⟩) (by simp; omega)).trans a1
            have hB := (HB.out.setCell (p := ⟨g, 0, none⟩) (by simp; omega) (.int .u32 s)).setCell (p := ⟨g, 1, none⟩) (by simp; omega) (.int .u16 (65535))
            generalize (w3.setCell ⟨g, 0, none⟩ (.int .u32 s)).setCell ⟨g, 1, none⟩ (.int .u16 (65535)) = w4 at *
            clear HB
            have HB := Lib.hid hB
            clear hB f0 f1 x0 x1
            refine (lost_eq L.out _).mono ?_
            rintro e w5 ⟨rfl, hb⟩
            replace a0 := held hb a0; replace a1 := held hb a1; replace X := X.held hb
            replace HB := Lib.hid (next HB.out hb); clear hb
            go_wp2_with fail
            go_roundw
            case rel => exact ⟨k + 1, 65535, by omega, by omega, by omega, by go_num, rfl, ⟨a0, a1, X⟩, HB.out⟩
            case measure => simp [intOf]; omega
          · have F : Hid (far S (1 + q) = S + (1 + q)) := Lib.hid (by rw [far_step (by omega) (by omega)]; rw [if_neg hover])
            have e3 : (S + (1 + q) == 65535) = false := beq_eq_false_iff_ne.2 hl
            have L := Lib.hid e3
            clear hl
            refine (beyond_eq hS hS2 F.out _).mono ?_
            rintro e w3 ⟨rfl, hb⟩
            replace a0 := held hb a0; replace a1 := held hb a1; replace X := X.held hb
            replace HB := Lib.hid (next HB.out hb); clear hb
            clear x0 x1
            have x0 := X.two.1
            have x1 := X.two.2
            have f0 := X.free 0
            have f1 := X.free 1
            go_wp2_with fail
            replace X := X.store (x' := .int .u32 s) (y' := .int .u16 (S + (1 + q)))
            replace a0 := (store_far (g := g) (x' := .int .u32 s) (y' := .int .u16 (S + (1 + q))) (p := ⟨w.heap.size, 0, none⟩) (by simp; omega)).trans a0
            replace a1 := (store_far (g := g) (x' := .int .u32 s) (y' := .int .u16 (S + (1 + q))) (p := ⟨w.heap.size, 1, none⟩) (by simp; omega)).trans a1
            have hB := (HB.out.setCell (p := ⟨g, 0, none⟩) (by simp; omega) (.int .u32 s)).setCell (p := ⟨g, 1, none⟩) (by simp; omega) (.int .u16 (S + (1 + q)))
            generalize (w3.setCell ⟨g, 0, none⟩ (.int .u32 s)).setCell ⟨g, 1, none⟩ (.int .u16 (S + (1 + q))) = w4 at *
            clear HB
            have HB := Lib.hid hB
            clear hB f0 f1 x0 x1
            refine (lost_eq L.out _).mono ?_
            rintro e w5 ⟨rfl, hb⟩
            replace a0 := held hb a0; replace a1 := held hb a1; replace X := X.held hb
            replace HB := Lib.hid (next HB.out hb); clear hb
            go_wp2_with fail
            go_roundw
            case rel => exact ⟨k + 1, (S + (1 + q)), by omega, by omega, by omega, by go_num, rfl, ⟨a0, a1, X⟩, HB.out⟩
            case measure => simp [intOf]; omega
      · go_wp2_with fail
        go_ret
        exact ⟨rfl, HB.out⟩
end Go.Proofs.Ytclfchdgagpahaa
