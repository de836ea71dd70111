/-
  What is appended to bytes keeps lists of what is told, and the other way round; noughts of which there may be none.
-/
import Derived.Test.YtpdbaediepofjaaTlvU
import Derived.Test.YtpdbaediepofjaaTlvV
namespace Go.Proofs.Ytpdbaediepofjaa
open Go.RowKit Tm

section
variable {B : Nat} {v : Value} {us : List Up} {bs news : List Nat} {W W' : World} {p A : Option Addr} {n cap m : Nat}
theorem Lv.blk (h : Lv B v us W) {b : Nat} (hb : v.ownBlock = some b) : ∃ C, Blk 31 W b C := by
  rcases h.2 with ⟨rfl, _⟩ | ⟨g, cap, cur, rfl, h4, h5, _⟩
  · cases hb
  · cases hb; exact ⟨cur, h5⟩
theorem Lv.keep (h : Lv B v us W) (k : Keep W W') : Lv B v us W' := h.of_block fun b e => by
  obtain ⟨C, hC⟩ := h.blk e
  exact (k b _ C (by decide) hC).trans hC.symm
theorem Lb.blk (h : Lb B v bs W) {b : Nat} (hb : v.ownBlock = some b) : ∃ C, Blk 5 W b C := by
  rcases h.2 with ⟨rfl, _⟩ | ⟨g, cap, cur, rfl, h4, h5, _⟩
  · cases hb
  · cases hb; exact ⟨cur, h5⟩
/-- behind an append to a list of what is told -/
theorem Lb.grown (h : Lb B v bs W) {v2 : Value} {B2 : Nat} (hL : Lv B2 v2 us W) (hg : W.grownBy W' v2.ownBlock) : Lb B v bs W' := h.of_block fun b e => by
  obtain ⟨C, hC⟩ := h.blk e
  refine hg.block b hC.lt (fun e2 => ?_)
  obtain ⟨C2, hC2⟩ := hL.blk e2.symm
  have := hC.symm.trans hC2
  cases this
theorem Lb.ob' {g : Nat} (h : Lb B (.slice (some ⟨g, 0, none⟩) n cap) bs W) : n = bs.length ∧ B ≤ g ∧ Ob W g cap bs := by
  rcases h.2 with ⟨h0, _⟩ | ⟨g', cap', cur, e, h4, h5, h6, h7, h8, h9⟩
  · cases h0
  · cases e
    exact ⟨rfl, h4, cur, h5, by omega, h6, h7, by rw [Nat.mul_one] at h9; exact h9⟩
theorem Lb.bytes (h : Lb B (.slice p n cap) bs W) (hb : ∀ c ∈ bs, c < 256) (hl : bs.length ≤ 5000) : BytesAt W p n bs := by
  rcases h.2 with ⟨h0, h1⟩ | ⟨g', cap', cur, e, h4, h5, h6, h7, h8, h9⟩
  · cases h0
    obtain rfl := List.length_eq_zero_iff.1 h1
    exact ⟨rfl, by unfold maxLen; omega, by simp, fun k hk => by omega⟩
  · cases e
    have ho : Ob W g' cap bs := ⟨cur, h5, by omega, h6, h7, by rw [Nat.mul_one] at h9; exact h9⟩
    exact ho.bytes hb hl
/-- 'append(b, make([]byte, m)...)', where m may be nought -/
theorem Lb.zeros {g : Nat} (h : Lb B (.slice (some ⟨g, 0, none⟩) n cap) bs W) (hB : B ≤ W.heap.size) (m : Nat) (hm : bs.length + m ≤ 5000) :
    ∃ g' cap' W' q, q = n + m ∧ (Builtin.append_ #[35, 3] 35 #[.slice (some ⟨g, 0, none⟩) n cap, .int .i64 (m : Int)]).run Try.prog W = .ok (.slice (some ⟨g', 0, none⟩) q cap') W' ∧ Lb B (.slice (some ⟨g', 0, none⟩) q cap') (bs ++ List.replicate m 0) W' ∧ Below B W W' ∧ Keep W W' := by
  obtain ⟨rfl, hBg, hO⟩ := h.ob'
  by_cases h0 : 0 < m
  · obtain ⟨g', cap', W', hr, hO', hT, hat⟩ := run_app_zeros hO h0 hm 35
    have hB' : B ≤ g' := by rcases hat with rfl | h; exact hBg; omega
    refine ⟨g', cap', W', bs.length + m, rfl, hr, ?_, (Below.refl B W).trans (hT.below (by simp; exact hBg) hB), fun x t C ht hx => ?_⟩
    · have := Lb.of_ob hO' hB'
      rw [List.length_append, List.length_replicate] at this
      exact this
    · refine (hT.block x hx.lt (fun e => ?_)).trans hx
      rw [List.mem_singleton] at e
      subst e
      obtain ⟨cur, h1, _⟩ := hO
      have := hx.symm.trans h1
      cases this
      exact ht rfl
  · obtain rfl : m = 0 := by omega
    obtain ⟨i0, hi, hz0, hz1, hz2⟩ := info_parts byte_parts
    have ht : Try.prog.underlying 35 = some (.slice 5) := by kernel_rfl
    have htn : Try.prog.underlying 3 = some (.int .i64) := by kernel_rfl
    have hcap : bs.length ≤ cap := by obtain ⟨_, _, _, h, _⟩ := hO; exact h
    refine ⟨g, cap, W, bs.length, rfl, ?_, by simpa using h, .refl _ _, .refl _⟩
    have hw : IntKind.i64.wrap 0 = 0 := rfl
    have hs : ∀ (a : Addr) (W : World), (storeCells a []).run Try.prog W = .ok () W := fun a W => by simp [storeCells]
    simp [Builtin.append_, run_underlying ht, run_underlying htn, sizeOf, typeInfo, zeroValue, hi, hz0, hz2, asInt, asIntOf, hcap, hw, hs]
theorem Lv.push1 (h : Lv B v us W) (hB : B ≤ W.heap.size) (u : Up) (hbig : us.length + 1 ≤ 100000) {o : Obj} (ho : o = .cells u.cs 31) :
    ∃ g' cap' W', (Builtin.append_ #[22, 22] 22 #[v, .slice (some ⟨W.heap.size, 0, none⟩) 1 1]).run Try.prog (W.alloc o) = .ok (.slice (some ⟨g', 0, none⟩) (us.length + 1) cap') W' ∧ Lv B (.slice (some ⟨g', 0, none⟩) (us.length + 1) cap') (us ++ [u]) W' ∧ (W.alloc o).grownBy W' v.ownBlock ∧ Below B W W' := by
  subst ho
  have hb := below_new W (.cells u.cs 31)
  have hX := Blk.new W 31 u.cs
  have h5 := h.held hb
  obtain ⟨g', cap', W', hr, hL, hg, -⟩ := h5.push (Nat.le_trans hB hb.size) (ad := ⟨W.heap.size, 0, none⟩) (m := 1) (c := 1) (news := [u]) rfl (fun jj vv hv => by
    rw [Addr.add_mid, Nat.zero_add, hX.at_ jj]
    simpa [ucl] using hv) (by omega) hbig 22
  exact ⟨g', cap', W', hr, hL, hg, (hb.mono hB).grown hg (Nat.le_trans hB hb.size) (fun kk e => (h5.lt e).2)⟩
end
/-! ### noughts and parts of other kinds -/
theorem walk_zeros (z : Nat) (id : Nat) (r : List Nat) : walk id (List.replicate z 0 ++ r) = walk id r := by
  induction z with
  | zero => rfl
  | succ z ih => rw [List.replicate_succ, List.cons_append, walk_zero, ih]
theorem walk_odd {k : Nat} (h0 : k ≠ 0) (h2 : k ≠ 2) (h3 : k ≠ 3) (x : List Nat) (id : Nat) (r : List Nat) : walk id (k :: x.length :: x ++ r) = walk id r := by
  have := walk_part id k x.length x r h0 rfl
  rw [show k :: x.length :: x ++ r = k :: x.length :: (x ++ r) from rfl, this, if_neg h3, if_neg (fun h => h2 h.1)]
  cases walk id r <;> rfl
end Go.Proofs.Ytpdbaediepofjaa
