/-
  A map in order (state.Key): sortedKeys, Clone, inOrder.
-/
import Derived.Test.YtncliolkdkofhaaItsK
namespace Go.Proofs.Ytncliolkdkofhaa
open Go.RowKit Go.Maps Go.Sort

/-- the iterator over a map in order: its two variables lie in B1 and B2; the keys are xs -/
structure ItK (W : World) (B1 B2 : Nat) (v : Value) (o : Option Nat) (n : Nat) (f : Ky → Option (Nat × Nat)) (xs : List Ky) : Prop where
  b1 : Blk 96 W B1 #[v]
  b2 : Blk 49 W B2 #[.map o]
  row : Row clK 3 W v xs
  map : Mo kyE W o n (fun x => (f x).map dV)
  mem : ∀ x, x ∈ xs ↔ x.ok ∧ (f x).isSome = true
  srt : xs.Pairwise ltK
  len : xs.length ≤ 100000
  lt : ∀ b, b ∈ itL B1 B2 v o → b < W.heap.size

theorem ItK.keep {W W' : World} {B1 B2 n : Nat} {v : Value} {o : Option Nat} {f : Ky → Option (Nat × Nat)} {xs : List Ky} (h : ItK W B1 B2 v o n f xs) (k : Keep (itL B1 B2 v o) W W') (hs : W.heap.size ≤ W'.heap.size) : ItK W' B1 B2 v o n f xs :=
  ⟨(k _ (mem_itL.2 (.inl rfl))).trans h.b1, (k _ (mem_itL.2 (.inr (.inl rfl)))).trans h.b2, h.row.keep k (fun _ hb => mem_itL.2 (.inr (.inr (.inl hb)))), h.map.of_block (fun b hb => k b (mem_itL.2 (.inr (.inr (.inr hb))))), h.mem, h.srt, h.len, fun b hb => Nat.lt_of_lt_of_le (h.lt b hb) hs⟩
theorem ItK.held {W W' : World} {B1 B2 n : Nat} {v : Value} {o : Option Nat} {f : Ky → Option (Nat × Nat)} {xs : List Ky} (h : ItK W B1 B2 v o n f xs) (k : Below W.heap.size W W') : ItK W' B1 B2 v o n f xs := h.keep (.of_below h.lt k) k.size

theorem strictK {xs ys : List Ky} (hnd : xs.Nodup) (hp : ys.Perm xs) (hs : ys.Pairwise (fun x y => ltOf cfK y x = false)) : ys.Pairwise ltK := by
  have hnd' : ys.Nodup := hp.nodup_iff.2 hnd
  refine (hs.and hnd').imp ?_
  rintro x y ⟨h1, h2⟩
  rw [cfK_no] at h1
  unfold ltK ltP at h1 ⊢
  obtain ⟨xa, xn, xi⟩ := x
  obtain ⟨ya, yn, yi⟩ := y
  dsimp only at h1 ⊢
  have h3 : ¬ (xa = ya ∧ xn = yn ∧ xi = yi) := fun h => h2 (by rw [h.1, h.2.1, h.2.2])
  omega

set_option maxHeartbeats 1000000 in
theorem sortedKeysK {w : World} {o : Option Nat} {n : Nat} {f : Ky → Option (Nat × Nat)} (h : Mo kyE w o n (fun x => (f x).map dV)) (hn : n ≤ 100000) :
    Calls Try.prog 47 #[.map o, .func (.func 37) #[] #[]] w fun e w' => ∃ v ys, e = .returned v ∧ (∀ x, x ∈ ys ↔ x.ok ∧ (f x).isSome = true) ∧ ys.Pairwise ltK ∧ ys.length ≤ 100000 ∧ Row clK 3 w' v ys ∧ (∀ b, v.ownBlock = some b → w.heap.size ≤ b ∧ b < w'.heap.size) ∧ Below w.heap.size w w' := by
  have hsome : ∀ x, ((f x).map dV).isSome = (f x).isSome := fun x => by cases f x <;> rfl
  have cB : (w.alloc (.cells #[.map o] 49)).cell? ⟨w.heap.size, 0, none⟩ = some (.map o) := (new_cell w #[.map o] 49 0).trans rfl
  have hb0 := below_new w (.cells #[.map o] 49)
  have hz := size_new w (.cells #[.map o] 49)
  have hF : Calls Try.prog 55 #[.func (.func 62) #[] #[.pointer (some ⟨w.heap.size, 0, none⟩)], .func (.func 37) #[] #[]] (w.alloc (.cells #[.map o] 49)) fun e w' => ∃ v ys, e = .returned v ∧ (∀ x, x ∈ ys ↔ x.ok ∧ (f x).isSome = true) ∧ ys.Pairwise ltK ∧ ys.length ≤ 100000 ∧ Row clK 3 w' v ys ∧ (∀ b, v.ownBlock = some b → w.heap.size ≤ b ∧ b < w'.heap.size) ∧ Below w.heap.size w w' := by
    cases o with
    | none =>
      refine (sortedFuncK enter_keysK (N := 0) (by omega) (fun xs hx => by subst hx; simp) (keysK_stops_nil 8 _ _ cB)).mono ?_
      rintro e w' ⟨v, xs, ys, rfl, rfl, hp, hs, hR, hnl, hb, hB⟩
      have : ys = [] := hp.eq_nil
      subst this
      refine ⟨v, [], rfl, fun x => ?_, List.Pairwise.nil, by simp, hR, fun b hb' => ?_, next hb0 hB⟩
      · have : (f x).map dV = none := h.2 x
        rw [← hsome x, this]
        simp
      · have := hb b hb'
        omega
    | some r =>
      have h : Mk kyE w r n (fun x => (f x).map dV) := h
      refine (sortedFuncK enter_keysK hn (fun xs hx => ?_) (keysK_stops 8 _ r n _ _ cB (h.held hb0))).mono ?_
      · rw [h.card hx.1 hx.2]; exact hn
      rintro e w' ⟨v, xs, ys, rfl, hx, hp, hs, hR, hnl, hb, hB⟩
      refine ⟨v, ys, rfl, fun x => ?_, strictK hx.1 hp hs, ?_, hR, fun b hb' => ?_, next hb0 hB⟩
      · rw [hp.mem_iff, hx.2 x, hsome x]
      · rw [hp.length_eq, h.card hx.1 hx.2]; exact hn
      · have := hb b hb'
        omega
  clear h
  have HF := Lib.hid hF
  clear hF cB hsome
  go_enter Try.func47, Try.ntmps47
  go_wp2_with (first
    | (go_at_call 56; refine (keysK_fn o _).mono ?_; rintro e w' ⟨rfl, rfl⟩)
    | (go_at_call 55; refine HF.out.mono ?_; rintro e w2 ⟨v, ys, rfl, hm, hs, hl, hR, hb, hB⟩))
  go_ret
  exact ⟨v, ys, rfl, hm, hs, hl, hR, hb, hB⟩

theorem cloneK {w : World} {o : Option Nat} {n : Nat} {f : Ky → Option Value} (h : Mo kyE w o n f) :
    Calls Try.prog 46 #[.map o] w fun e w' => ∃ o', e = .returned (.map o') ∧ Mo kyE w' o' n f ∧ (∀ b, o' = some b → w.heap.size ≤ b ∧ b < w'.heap.size) ∧ Below w.heap.size w w' := by
  cases o with
  | none =>
    refine (AnyW.maps_Clone_nil Try.cloneK w).mono ?_
    rintro e w' ⟨rfl, rfl⟩
    exact ⟨none, rfl, h, (fun b hb => by cases hb), Below.refl _ _⟩
  | some r =>
    obtain ⟨D, hown, hn, S⟩ := h
    refine (AnyW.maps_Clone_owns Try.cloneK _ _ r _ D w hown).mono ?_
    rintro e w' ⟨rfl, h1, -, hB⟩
    exact ⟨some w.heap.size, rfl, ⟨D, h1, hn, S⟩, (fun b hb => by cases hb; exact ⟨Nat.le_refl _, h1.lt⟩), hB⟩

set_option maxHeartbeats 1000000 in
theorem inOrderK {w : World} {o : Option Nat} {n : Nat} {f : Ky → Option (Nat × Nat)} (h : Mo kyE w o n (fun x => (f x).map dV)) (hn : n ≤ 100000) :
    Calls Try.prog 36 #[.map o, .func (.func 37) #[] #[]] w fun e w' => ∃ B1 B2 v o' xs, e = .returned (.func (.func 48) #[] #[.pointer (some ⟨B1, 0, none⟩), .pointer (some ⟨B2, 0, none⟩)]) ∧ ItK w' B1 B2 v o' n f xs ∧ (∀ b, b ∈ itL B1 B2 v o' → w.heap.size ≤ b) ∧ Below w.heap.size w w' := by
  have HC := Lib.hid (cloneK h)
  clear h
  go_enter Try.func36, Try.ntmps36
  go_wp2_with (first
    | (go_at_call 46; refine HC.out.mono ?_; rintro e w1 ⟨o', rfl, hM, ho, hB1⟩; have HS := sortedKeysK (hM.of_block fun b hb => (below_new w1 (.cells #[.map o'] 49)).block b (ho b hb).2) hn; have HM := Lib.hid hM; have HO := Lib.hid ho; have HB1 := Lib.hid hB1; replace HS := Lib.hid HS; clear hM ho hB1)
    | (go_at_call 47; refine HS.out.mono ?_; rintro e w3 ⟨v, ys, rfl, hm, hs, hl, hR, hb, hB3⟩; obtain ⟨vp, vl, vc, rfl⟩ := hR.slice; have HY := Lib.hid (And.intro hm (And.intro hs (And.intro hl (And.intro hR (And.intro hb hB3))))); clear hm hs hl hR hb hB3))
  go_ret
  obtain ⟨hm, hs, hl, hR, hb, hB3⟩ := HY.out
  clear HY HC HS
  generalize Value.slice vp vl vc = v at *
  have hB1 := HB1.out
  have hb2 := below_new w1 (.cells #[.map o'] 49)
  have hb4 := below_new w3 (.cells #[v] 96)
  have hz1 := size_new w1 (.cells #[.map o'] 49)
  have hz3 := size_new w3 (.cells #[v] 96)
  have s1 := hB1.size
  have s3 := hB3.size
  have hlt : ∀ b, b ∈ itL w3.heap.size w1.heap.size v o' → w.heap.size ≤ b ∧ b < w3.heap.size + 1 := fun b hb' => by
    rcases mem_itL.1 hb' with rfl | rfl | h | h
    · omega
    · omega
    · have := hb b h; omega
    · have := HO.out b h; omega
  refine ⟨w3.heap.size, w1.heap.size, v, o', ys, rfl, ⟨Blk.new _ _ _, ((Blk.new w1 _ _).held hB3).held hb4, ?_, ?_, hm, hs, hl, fun b hb' => by rw [hz3]; exact (hlt b hb').2⟩, fun b hb' => (hlt b hb').1, next hB1 (next hb2 (next hB3 hb4))⟩
  · exact hR.keep (L := v.ownBlock.toList) (.of_below (fun b hb' => (hb b (by simpa using hb')).2) hb4) (fun b hb' => by simpa using hb')
  · exact HM.out.of_block fun b hb' => (next hb2 (next hB3 hb4)).block b (HO.out b hb').2
end Go.Proofs.Ytncliolkdkofhaa
