/-
  A map in order (addr.Prefix): sortedKeys, Clone, inOrder.
-/
import Derived.Test.YtncliolkdkofhaaItsP
namespace Go.Proofs.Ytncliolkdkofhaa
open Go.RowKit Go.Maps Go.Sort

/-- the iterator over a map in order: its two variables lie in B1 and B2; the keys are xs -/
structure ItP (W : World) (B1 B2 : Nat) (v : Value) (o : Option Nat) (n : Nat) (f : Pk → Option (Bool)) (xs : List Pk) : Prop where
  b1 : Blk 91 W B1 #[v]
  b2 : Blk 56 W B2 #[.map o]
  row : Row clP 2 W v xs
  map : Mo pkE W o n (fun x => (f x).map ownV)
  mem : ∀ x, x ∈ xs ↔ x.ok ∧ (f x).isSome = true
  srt : xs.Pairwise ltP
  len : xs.length ≤ 100000
  lt : ∀ b, b ∈ itL B1 B2 v o → b < W.heap.size

theorem ItP.keep {W W' : World} {B1 B2 n : Nat} {v : Value} {o : Option Nat} {f : Pk → Option (Bool)} {xs : List Pk} (h : ItP W B1 B2 v o n f xs) (k : Keep (itL B1 B2 v o) W W') (hs : W.heap.size ≤ W'.heap.size) : ItP W' B1 B2 v o n f xs :=
  ⟨(k _ (mem_itL.2 (.inl rfl))).trans h.b1, (k _ (mem_itL.2 (.inr (.inl rfl)))).trans h.b2, h.row.keep k (fun _ hb => mem_itL.2 (.inr (.inr (.inl hb)))), h.map.of_block (fun b hb => k b (mem_itL.2 (.inr (.inr (.inr hb))))), h.mem, h.srt, h.len, fun b hb => Nat.lt_of_lt_of_le (h.lt b hb) hs⟩
theorem ItP.held {W W' : World} {B1 B2 n : Nat} {v : Value} {o : Option Nat} {f : Pk → Option (Bool)} {xs : List Pk} (h : ItP W B1 B2 v o n f xs) (k : Below W.heap.size W W') : ItP W' B1 B2 v o n f xs := h.keep (.of_below h.lt k) k.size

theorem strictP {xs ys : List Pk} (hnd : xs.Nodup) (hp : ys.Perm xs) (hs : ys.Pairwise (fun x y => ltOf cfP y x = false)) : ys.Pairwise ltP := by
  have hnd' : ys.Nodup := hp.nodup_iff.2 hnd
  refine (hs.and hnd').imp ?_
  rintro x y ⟨h1, h2⟩
  rw [cfP_no] at h1
  unfold ltP at h1 ⊢
  obtain ⟨xa, xn⟩ := x
  obtain ⟨ya, yn⟩ := y
  dsimp only at h1 ⊢
  have h3 : ¬ (xa = ya ∧ xn = yn) := fun h => h2 (by rw [h.1, h.2])
  omega

set_option maxHeartbeats 1000000 in
theorem sortedKeysP {w : World} {o : Option Nat} {n : Nat} {f : Pk → Option (Bool)} (h : Mo pkE w o n (fun x => (f x).map ownV)) (hn : n ≤ 100000) :
    Calls Try.prog 43 #[.map o, .func (.func 34) #[] #[]] w fun e w' => ∃ v ys, e = .returned v ∧ (∀ x, x ∈ ys ↔ x.ok ∧ (f x).isSome = true) ∧ ys.Pairwise ltP ∧ ys.length ≤ 100000 ∧ Row clP 2 w' v ys ∧ (∀ b, v.ownBlock = some b → w.heap.size ≤ b ∧ b < w'.heap.size) ∧ Below w.heap.size w w' := by
  have hsome : ∀ x, ((f x).map ownV).isSome = (f x).isSome := fun x => by cases f x <;> rfl
  have cB : (w.alloc (.cells #[.map o] 56)).cell? ⟨w.heap.size, 0, none⟩ = some (.map o) := (new_cell w #[.map o] 56 0).trans rfl
  have hb0 := below_new w (.cells #[.map o] 56)
  have hz := size_new w (.cells #[.map o] 56)
  have hF : Calls Try.prog 52 #[.func (.func 59) #[] #[.pointer (some ⟨w.heap.size, 0, none⟩)], .func (.func 34) #[] #[]] (w.alloc (.cells #[.map o] 56)) fun e w' => ∃ v ys, e = .returned v ∧ (∀ x, x ∈ ys ↔ x.ok ∧ (f x).isSome = true) ∧ ys.Pairwise ltP ∧ ys.length ≤ 100000 ∧ Row clP 2 w' v ys ∧ (∀ b, v.ownBlock = some b → w.heap.size ≤ b ∧ b < w'.heap.size) ∧ Below w.heap.size w w' := by
    cases o with
    | none =>
      refine (sortedFuncP enter_keysP (N := 0) (by omega) (fun xs hx => by subst hx; simp) (keysP_stops_nil 8 _ _ cB)).mono ?_
      rintro e w' ⟨v, xs, ys, rfl, rfl, hp, hs, hR, hnl, hb, hB⟩
      have : ys = [] := hp.eq_nil
      subst this
      refine ⟨v, [], rfl, fun x => ?_, List.Pairwise.nil, by simp, hR, fun b hb' => ?_, next hb0 hB⟩
      · have : (f x).map ownV = none := h.2 x
        rw [← hsome x, this]
        simp
      · have := hb b hb'
        omega
    | some r =>
      have h : Mk pkE w r n (fun x => (f x).map ownV) := h
      refine (sortedFuncP enter_keysP hn (fun xs hx => ?_) (keysP_stops 8 _ r n _ _ cB (h.held hb0))).mono ?_
      · rw [h.card hx.1 hx.2]; exact hn
      rintro e w' ⟨v, xs, ys, rfl, hx, hp, hs, hR, hnl, hb, hB⟩
      refine ⟨v, ys, rfl, fun x => ?_, strictP hx.1 hp hs, ?_, hR, fun b hb' => ?_, next hb0 hB⟩
      · rw [hp.mem_iff, hx.2 x, hsome x]
      · rw [hp.length_eq, h.card hx.1 hx.2]; exact hn
      · have := hb b hb'
        omega
  clear h
  have HF := Lib.hid hF
  clear hF cB hsome
  go_enter Try.func43, Try.ntmps43
  go_wp2_with (first
    | (go_at_call 53; refine (keysP_fn o _).mono ?_; rintro e w' ⟨rfl, rfl⟩)
    | (go_at_call 52; refine HF.out.mono ?_; rintro e w2 ⟨v, ys, rfl, hm, hs, hl, hR, hb, hB⟩))
  go_ret
  exact ⟨v, ys, rfl, hm, hs, hl, hR, hb, hB⟩

theorem cloneP {w : World} {o : Option Nat} {n : Nat} {f : Pk → Option Value} (h : Mo pkE w o n f) :
    Calls Try.prog 42 #[.map o] w fun e w' => ∃ o', e = .returned (.map o') ∧ Mo pkE w' o' n f ∧ (∀ b, o' = some b → w.heap.size ≤ b ∧ b < w'.heap.size) ∧ Below w.heap.size w w' := by
  cases o with
  | none =>
    refine (AnyW.maps_Clone_nil Try.cloneP w).mono ?_
    rintro e w' ⟨rfl, rfl⟩
    exact ⟨none, rfl, h, (fun b hb => by cases hb), Below.refl _ _⟩
  | some r =>
    obtain ⟨D, hown, hn, S⟩ := h
    refine (AnyW.maps_Clone_owns Try.cloneP _ _ r _ D w hown).mono ?_
    rintro e w' ⟨rfl, h1, -, hB⟩
    exact ⟨some w.heap.size, rfl, ⟨D, h1, hn, S⟩, (fun b hb => by cases hb; exact ⟨Nat.le_refl _, h1.lt⟩), hB⟩

set_option maxHeartbeats 1000000 in
theorem inOrderP {w : World} {o : Option Nat} {n : Nat} {f : Pk → Option (Bool)} (h : Mo pkE w o n (fun x => (f x).map ownV)) (hn : n ≤ 100000) :
    Calls Try.prog 33 #[.map o, .func (.func 34) #[] #[]] w fun e w' => ∃ B1 B2 v o' xs, e = .returned (.func (.func 44) #[] #[.pointer (some ⟨B1, 0, none⟩), .pointer (some ⟨B2, 0, none⟩)]) ∧ ItP w' B1 B2 v o' n f xs ∧ (∀ b, b ∈ itL B1 B2 v o' → w.heap.size ≤ b) ∧ Below w.heap.size w w' := by
  have HC := Lib.hid (cloneP h)
  clear h
  go_enter Try.func33, Try.ntmps33
  go_wp2_with (first
    | (go_at_call 42; refine HC.out.mono ?_; rintro e w1 ⟨o', rfl, hM, ho, hB1⟩; have HS := sortedKeysP (hM.of_block fun b hb => (below_new w1 (.cells #[.map o'] 56)).block b (ho b hb).2) hn; have HM := Lib.hid hM; have HO := Lib.hid ho; have HB1 := Lib.hid hB1; replace HS := Lib.hid HS; clear hM ho hB1)
    | (go_at_call 43; refine HS.out.mono ?_; rintro e w3 ⟨v, ys, rfl, hm, hs, hl, hR, hb, hB3⟩; obtain ⟨vp, vl, vc, rfl⟩ := hR.slice; have HY := Lib.hid (And.intro hm (And.intro hs (And.intro hl (And.intro hR (And.intro hb hB3))))); clear hm hs hl hR hb hB3))
  go_ret
  obtain ⟨hm, hs, hl, hR, hb, hB3⟩ := HY.out
  clear HY HC HS
  generalize Value.slice vp vl vc = v at *
  have hB1 := HB1.out
  have hb2 := below_new w1 (.cells #[.map o'] 56)
  have hb4 := below_new w3 (.cells #[v] 91)
  have hz1 := size_new w1 (.cells #[.map o'] 56)
  have hz3 := size_new w3 (.cells #[v] 91)
  have s1 := hB1.size
  have s3 := hB3.size
  have hlt : ∀ b, b ∈ itL w3.heap.size w1.heap.size v o' → w.heap.size ≤ b ∧ b < w3.heap.size + 1 := fun b hb' => by
    rcases mem_itL.1 hb' with rfl | rfl | h | h
    · omega
    · omega
    · have := hb b h; omega
    · have := HO.out b h; omega
  refine ⟨w3.heap.size, w1.heap.size, v, o', ys, rfl, ⟨Blk.new _ _ _, ((Blk.new w1 _ _).held hB3).held hb4, ?_, ?_, hm, hs, hl, fun b hb' => by rw [hz3]; exact (hlt b hb').2⟩, fun b hb' => (hlt b hb').1, next hB1 (next hb2 (next hB3 hb4))⟩
  · exact hR.keep (L := v.ownBlock.toList) (.of_below (fun b hb' => (hb b (by simpa using hb')).2) hb4) (fun b hb' => by simpa using hb')
  · exact HM.out.of_block fun b hb' => (next hb2 (next hB3 hb4)).block b (HO.out b hb').2
end Go.Proofs.Ytncliolkdkofhaa
