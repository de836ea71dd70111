/-
  Lists of what is told, two beside each other; strings of bytes in a region that draws its order.
-/
import Derived.Test.YtpdbaediepofjaaTlvC
namespace Go.Proofs.Ytpdbaediepofjaa
open Go.RowKit Tm

theorem and_seven (z : Int) : ∃ c : Nat, c ≤ 7 ∧ bits .and .i64 z 7 = (c : Int) := by
  have h : (BitVec.ofInt 64 z &&& BitVec.ofInt 64 7).toNat ≤ 7 := by
    rw [BitVec.toNat_and]
    exact Nat.and_le_right
  have e : bits .and .i64 z 7 = IntKind.i64.wrap ((BitVec.ofInt 64 z &&& BitVec.ofInt 64 7).toNat : Int) := rfl
  rw [e]
  generalize (BitVec.ofInt 64 z &&& BitVec.ofInt 64 7).toNat = n at h
  refine ⟨n, h, ?_⟩
  simp only [IntKind.wrap, IntKind.bits, IntKind.signed]
  simp
  omega
section
variable {B : Nat} {v v2 : Value} {us us2 news : List Up} {W W' : World}
theorem Lv.none' (h : Lv B v us W) (A : Option Addr) (c : Nat) (ty : TypeId) :
    (Builtin.append_ #[22, 22] ty #[v, .slice A 0 c]).run Try.prog W = .ok v W := by
  obtain ⟨i0, hi, hz0, hz1, hz2⟩ := info_parts infoUp
  have ht : Try.prog.underlying 22 = some (.slice 31) := by kernel_rfl
  have hl : ∀ (a : Addr) (W : World), (loadCells a 0).run Try.prog W = .ok #[] W := fun a W => by simp [loadCells, loadCellsFrom]
  have hs : ∀ (a : Addr) (W : World), (storeCells a []).run Try.prog W = .ok () W := fun a W => by simp [storeCells]
  rcases h.2 with ⟨rfl, h0⟩ | ⟨g, cap, cur, rfl, _, _, hnc, _⟩
  · cases A <;> simp [Builtin.append_, run_underlying ht, sizeOf, typeInfo, hi, Builtin.lenOf, Builtin.firstCells, hl]
  · cases A <;> simp [Builtin.append_, run_underlying ht, sizeOf, typeInfo, hi, Builtin.lenOf, Builtin.firstCells, hnc, hl, hs]
/-- the other list stays as it was, and apart -/
def Apart (B : Nat) (v v' : Value) (W W' : World) : Prop := ∀ v2 us2, Lv B v2 us2 W → v2.ownBlock ≠ v.ownBlock → Lv B v2 us2 W' ∧ (v2.ownBlock ≠ v'.ownBlock ∨ v2.ownBlock = none)
/-- behind 'append(list, news...)', where news may be none -/
theorem Lv.add' (h : Lv B v us W) (hB : B ≤ W.heap.size) {A : Option Addr} {m c : Nat} (hx : Ul W A m c news) (hbig : us.length + m ≤ 100000) (ty : TypeId) :
    ∃ v' W', (Builtin.append_ #[22, 22] ty #[v, .slice A m c]).run Try.prog W = .ok v' W' ∧ Lv B v' (us ++ news) W' ∧ Below B W W' ∧ Apart B v v' W W' := by
  by_cases h0 : 0 < m
  · obtain ⟨b, off, rfl⟩ := hx.plain h0
    obtain ⟨g', cap', W', hr, hL, hg, hat⟩ := h.push hB (ad := ⟨b, off, Option.none⟩) (c := c) hx.len (fun j u hu => by
      have hj : j < (news.flatMap ucl).length := (List.getElem?_eq_some_iff.1 hu).1
      rw [flat_length] at hj
      have e : j = 5 * (j / 5) + j % 5 := by omega
      have hi : j / 5 < news.length := by omega
      rw [Addr.add_mid]
      rw [e] at hu ⊢
      rw [flat_get hi (by omega)] at hu
      rw [← hu]
      exact hx.cells b off rfl (j / 5) hi (j % 5) (by omega)) h0 hbig ty
    refine ⟨_, W', hr, hL, (Below.refl B W).grown hg hB (fun k e => (h.lt e).2), fun v2 us2 h2 hne => ⟨h2.of_block fun b2 e2 => hg.block b2 (h2.lt e2).1 (fun e3 => hne (e2.trans e3)), ?_⟩⟩
    cases e2 : v2.ownBlock with
    | none => exact .inr rfl
    | some b2 =>
      refine .inl (fun e3 => ?_)
      have e4 : b2 = g' := by simpa [Value.ownBlock] using e3
      rcases hat with h4 | h4
      · exact hne (by rw [e2, e4, h4])
      · have := (h2.lt e2).1; omega
  · obtain rfl : m = 0 := by omega
    have e : news = [] := List.length_eq_zero_iff.1 hx.len
    subst e
    exact ⟨v, W, h.none' A c ty, by rw [List.append_nil]; exact h, .refl _ _, fun v2 us2 h2 hne => ⟨h2, .inl hne⟩⟩
theorem Lv.push1' (h : Lv B v us W) (hB : B ≤ W.heap.size) (u : Up) (hbig : us.length + 1 ≤ 100000) {o : Obj} (ho : o = .cells u.cs 31) :
    ∃ g' cap' W', (Builtin.append_ #[22, 22] 22 #[v, .slice (some ⟨W.heap.size, 0, none⟩) 1 1]).run Try.prog (W.alloc o) = .ok (.slice (some ⟨g', 0, none⟩) (us.length + 1) cap') W' ∧ Lv B (.slice (some ⟨g', 0, none⟩) (us.length + 1) cap') (us ++ [u]) W' ∧ Below B W W' ∧ Apart B v (.slice (some ⟨g', 0, none⟩) (us.length + 1) cap') W W' := by
  subst ho
  have hb := below_new W (.cells u.cs 31)
  have hX := Blk.new W 31 u.cs
  have h5 := h.held hb
  obtain ⟨g', cap', W', hr, hL, hg, hat⟩ := h5.push (Nat.le_trans hB hb.size) (ad := ⟨W.heap.size, 0, Option.none⟩) (m := 1) (c := 1) (news := [u]) rfl (fun jj vv hv => by
    rw [Addr.add_mid, Nat.zero_add, hX.at_ jj]
    simpa [ucl] using hv) (by omega) hbig 22
  refine ⟨g', cap', W', hr, hL, (hb.mono hB).grown hg (Nat.le_trans hB hb.size) (fun kk e => (h5.lt e).2), fun v2 us2 h2 hne => ?_⟩
  have h6 := h2.held hb
  refine ⟨h6.of_block fun b2 e2 => hg.block b2 (h6.lt e2).1 (fun e3 => hne (e2.trans e3)), ?_⟩
  cases e2 : v2.ownBlock with
  | none => exact .inr rfl
  | some b2 =>
    refine .inl (fun e3 => ?_)
    have e4 : b2 = g' := by simpa [Value.ownBlock] using e3
    rcases hat with h4 | h4
    · exact hne (by rw [e2, e4, h4])
    · have := (h6.lt e2).1; omega
end
theorem conv_op {P : Program} {C : World → Prop} {K : Act → Prop} {a : Act} {o : Oper} {t t' : TypeId} {x : Operand} {v s : Value} (ho : o.op = .convert t t' x) (ha : a.eval x = v)
    (hq : ∀ w, C w → (convert t t' v).run P w = .ok s w) (hk : K (a.put o.dst s)) : o.quiet P a C K :=
  ⟨_, fun w hw => by
    unfold Oper.quietAt execOp
    simp [ho, ha, hq w hw, Oper.quietUpon], hk⟩
theorem flat_take' {α : Type} {L : List (List α)} {i : Nat} (hi : i < L.length) : (L.take (i + 1)).flatten = (L.take i).flatten ++ L[i] := by
  rw [List.take_succ_eq_append_getElem hi, List.flatten_append]; simp
theorem flat_le' {α : Type} (L : List (List α)) (i : Nat) : (L.take i).flatten.length ≤ L.flatten.length := by
  have : L.flatten = (L.take i).flatten ++ (L.drop i).flatten := by rw [← List.flatten_append, List.take_append_drop]
  rw [this, List.length_append]; omega
theorem rep_length {α : Type} (us : List α) (j : Nat) : (List.replicate j us).flatten.length = j * us.length := by simp
theorem rep_mem {us : List Up} {j : Nat} {u : Up} (h : u ∈ (List.replicate j us).flatten) : u ∈ us := by
  obtain ⟨l, hl, hu⟩ := List.mem_flatten.1 h
  rw [(List.mem_replicate.1 hl).2] at hu
  exact hu
theorem rep_succ (us : List Up) (j : Nat) : (List.replicate j us).flatten ++ us = (List.replicate (j + 1) us).flatten := by
  rw [List.replicate_succ']
  simp
end Go.Proofs.Ytpdbaediepofjaa
