/-
  StateGrows: its mathematics.
-/
import Derived.Test.YtibflamnnjpigaaStF
namespace Go.Proofs.Ytibflamnnjpigaa
open Go.RowKit Rm

theorem app_floor (S : Sm) (r : Rc) (k : Ky) : (app S r).floor k = S.floor k ∨ ((app S r).floor k = some (r.seq, r.met) ∧ bet (S.floor k) r.seq r.met = true) := by
  unfold app
  split
  · exact .inl rfl
  · split
    · exact .inl rfl
    · split
      · split
        · rename_i hb
          by_cases hk : k = ⟨r.a, r.len, r.id⟩
          · subst hk
            exact .inr ⟨by simp, hb⟩
          · exact .inl (by simp [hk])
        · exact .inl rfl
      · exact .inl rfl
theorem app_lease (S : Sm) (r : Rc) : S.lease ≤ (app S r).lease := by
  unfold app
  split
  · exact Nat.le_refl _
  · split
    · exact Nat.le_max_left _ _
    · split
      · split <;> exact Nat.le_refl _
      · exact Nat.le_refl _
theorem better_self (s m : Int) : better s m s m = false := by unfold better; simp
theorem better_asym {s m s' m' : Int} (h : better s m s' m' = true) : better s' m' s m = false := by
  unfold better at h ⊢
  simp only [decide_eq_true_eq, decide_eq_false_iff_not] at h ⊢
  omega
theorem better_trans {s m s' m' s2 m2 : Int} (h : better s m s' m' = true) (k : better s2 m2 s m = true) : better s2 m2 s' m' = true := by
  unfold better at h k ⊢
  simp only [decide_eq_true_eq] at h k ⊢
  omega
theorem bet_grow {F G : Option (Nat × Nat)} {q : Nat × Nat} (h : G = F ∨ (G = some q ∧ bet F q.1 q.2 = true)) (s x : Nat) (hb : bet G s x = true) : bet F s x = true := by
  rcases h with rfl | ⟨rfl, h⟩
  · exact hb
  · cases F with
    | none => rfl
    | some f =>
      rw [bet_some] at h hb ⊢
      exact better_trans h hb
theorem fea_grow {F G : Option (Nat × Nat)} {q : Nat × Nat} (h : G = F ∨ (G = some q ∧ bet F q.1 q.2 = true)) (s x : Nat) (hb : fea G s x = true) : fea F s x = true := by
  unfold fea at hb ⊢
  cases hx : (x == 65535) with
  | true => rfl
  | false => rw [hx, Bool.false_or] at hb; rw [Bool.false_or]; exact bet_grow h s x hb
theorem cov_grow {F G : Option (Nat × Nat)} {q : Nat × Nat} (h : G = F ∨ (G = some q ∧ bet F q.1 q.2 = true)) (s x : Nat) (hb : cov F s x = true) : cov G s x = true := by
  unfold cov at hb ⊢
  cases hx : (x == 65535) with
  | true => rfl
  | false =>
    rw [hx, Bool.false_or] at hb
    rw [Bool.false_or]
    cases hg : bet G s x with
    | false => rfl
    | true => rw [bet_grow h s x hg] at hb; cases hb
theorem cov_fea {F : Option (Nat × Nat)} {s x : Nat} (h : cov F s x = true) (k : fea F s x = true) : (x == 65535) = true := by
  unfold cov at h
  unfold fea at k
  cases hx : (x == 65535) with
  | true => rfl
  | false =>
    rw [hx, Bool.false_or] at h k
    rw [k] at h
    cases h
theorem some_grow {F G : Option (Nat × Nat)} {q : Nat × Nat} (h : G = F ∨ (G = some q ∧ bet F q.1 q.2 = true)) {f : Nat × Nat} (hf : F = some f) : ∃ g, G = some g ∧ better f.1 f.2 g.1 g.2 = false := by
  subst hf
  rcases h with rfl | ⟨rfl, h⟩
  · exact ⟨f, rfl, better_self _ _⟩
  · exact ⟨q, rfl, by rw [bet_some] at h; exact better_asym h⟩

/-- A state in block sd that notes S, in blocks that W0 hasn't; the rest of W0 stands. -/
def LS (W0 : World) (sd id : Nat) (S : Sm) (N : Nat) (w : World) : Prop :=
  ∃ o fl, Notes w sd o fl id N S ∧ Below W0.heap.size W0 w ∧ ∀ y, y ∈ fp sd o fl → W0.heap.size ≤ y
section
variable {W0 w w' : World} {sd id N : Nat} {S : Sm}
theorem LS.below (h : LS W0 sd id S N w) : Below W0.heap.size W0 w := by obtain ⟨o, fl, h1, h2, h3⟩ := h; exact h2
theorem LS.held (h : LS W0 sd id S N w) (hb : Below w.heap.size w w') : LS W0 sd id S N w' := by
  obtain ⟨o, fl, h1, h2, h3⟩ := h
  exact ⟨o, fl, h1.held hb, next h2 hb, h3⟩
theorem LS.apply_at {wr : World} (h : LS W0 sd id S N wr) (hb : Below wr.heap.size wr w) (hN : N < 100000) (r : Rc) (hr : r.Fits) :
    Calls Try.prog 11 #[.pointer (some ⟨sd, 0, none⟩), .agg (rcl r)] w fun e w' => e = .returned (.tuple #[]) ∧ LS W0 sd id (app S r) (N + 1) w' ∧ ∀ t g cs, wr.heap.size ≤ g → Blk t w g cs → Blk t w' g cs := by
  obtain ⟨o, fl, h1, h3, h4⟩ := h
  have hlt : ∀ y, y ∈ fp sd o fl → y < wr.heap.size := fun y hy => by
    obtain ⟨_, _, _, hS⟩ := h1
    exact hS.lt hy
  have h3' := next h3 hb
  have hsz := h3'.size
  refine (apply_any (h1.held hb) hN r hr).mono ?_
  rintro e w' ⟨rfl, o', fl', hN', hT, hf⟩
  refine ⟨rfl, ⟨o', fl', hN', h3'.trans (hT.below (fun i hi => h4 i hi) hsz), fun y hy => ?_⟩, fun t g cs hg hB => hB.turn hT fun hm => by have := hlt g hm; omega⟩
  rcases hf y hy with h | h
  · exact h4 y h
  · omega
theorem LS.lease (h : LS W0 sd id S N w) {q : Nat} (hq : S.lease = q) : Calls Try.prog 21 #[.pointer (some ⟨sd, 0, none⟩)] w fun e w' => e = .returned (.int .u32 q) ∧ w = w' := by
  obtain ⟨o, fl, ⟨_, _, _, h1⟩, _⟩ := h
  subst hq
  exact lease_any h1
theorem LS.floor (h : LS W0 sd id S N w) {ka : Nat} {kn : Int} {kid : Nat} (hk : Ky.ok ⟨ka, kn, kid⟩) {fs fm : Nat} {ok : Bool}
    (hv : ((S.floor ⟨ka, kn, kid⟩).map dV).getD (.agg #[.int .u32 0, .int .u16 0]) = .agg #[.int .u32 fs, .int .u16 fm]) (ho : (S.floor ⟨ka, kn, kid⟩).isSome = ok) :
    Calls Try.prog 15 #[.pointer (some ⟨sd, 0, none⟩), .agg #[.int .u32 ka, .int .i64 kn, .int .u32 kid]] w fun e w' => e = .returned (.tuple #[.agg #[.int .u32 fs, .int .u16 fm], .bool ok]) ∧ Below w.heap.size w w' := by
  obtain ⟨o, fl, ⟨_, _, _, h1⟩, _⟩ := h
  exact floor_any h1 hk hv ho
theorem LS.fea (h : LS W0 sd id S N w) {ka : Nat} {kn : Int} {kid : Nat} (hk : Ky.ok ⟨ka, kn, kid⟩) {s x : Nat} {r : Bool} (hr : fea (S.floor ⟨ka, kn, kid⟩) s x = r) :
    Calls Try.prog 16 #[.pointer (some ⟨sd, 0, none⟩), .agg #[.int .u32 ka, .int .i64 kn, .int .u32 kid], .agg #[.int .u32 s, .int .u16 x]] w fun e w' => e = .returned (.bool r) ∧ Below w.heap.size w w' := by
  obtain ⟨o, fl, h1, _⟩ := h
  exact feas_at h1 (Below.refl _ _) hk hr
theorem LS.cov (h : LS W0 sd id S N w) {ka : Nat} {kn : Int} {kid : Nat} (hk : Ky.ok ⟨ka, kn, kid⟩) {s x : Nat} {r : Bool} (hr : cov (S.floor ⟨ka, kn, kid⟩) s x = r) :
    Calls Try.prog 18 #[.pointer (some ⟨sd, 0, none⟩), .agg #[.int .u32 ka, .int .i64 kn, .int .u32 kid], .agg #[.int .u32 s, .int .u16 x]] w fun e w' => e = .returned (.bool r) ∧ Below w.heap.size w w' := by
  obtain ⟨o, fl, h1, _⟩ := h
  exact cov_at h1 (Below.refl _ _) hk hr
end
end Go.Proofs.Ytibflamnnjpigaa
