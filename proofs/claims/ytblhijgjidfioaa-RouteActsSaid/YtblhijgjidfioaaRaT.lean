/-
  RouteActs: table and statement's map side by side: what each call makes of them.
-/
import Derived.Test.YtblhijgjidfioaaRaS
import Derived.Test.YtblhijgjidfioaaRaRow
namespace Go.Proofs.Ytblhijgjidfioaa
open Go.RowKit Go.Maps

/-- the table holds f, the statement's own map g -/
structure Hf (w W : World) (t m i : Nat) (f g : Ways) : Prop where
  tb : ∃ o n, Tb W t o n f ∧ n ≤ i ∧ (∀ b, o = some b → w.heap.size ≤ b) ∧ o ≠ some m
  mp : ∃ nm, Mk lkE W m nm (vals g)
  t0 : w.heap.size ≤ t
  m0 : w.heap.size ≤ m
  below : Below w.heap.size w W
/-- whatever lies in boxes other than the table is as it was -/
def Kp (W W' : World) : Prop := ∀ (T : TypeId) (C : Nat) (cs : Array Value), T ≠ 75 → Blk T W C cs → Blk T W' C cs
theorem Kp.trans {A B C : World} (h : Kp A B) (k : Kp B C) : Kp A C := fun T X cs hT hb => k T X cs hT (h T X cs hT hb)
theorem Kp.of_below {W W' : World} (h : Below W.heap.size W W') : Kp W W' := fun _ _ _ _ hb => hb.held h
theorem Hf.held {w W W' : World} {t m i : Nat} {f g : Ways} (h : Hf w W t m i f g) (hb : Below W.heap.size W W') : Hf w W' t m i f g := by
  obtain ⟨o, n, h1, h2, h3, h4⟩ := h.tb
  obtain ⟨nm, h5⟩ := h.mp
  exact ⟨⟨o, n, h1.held hb, h2, h3, h4⟩, ⟨nm, h5.held hb⟩, h.t0, h.m0, next h.below hb⟩
theorem Mk.map_ne {P : Program} {k : TypeId} {α : Type} {E : Ke P k α} {w : World} {b n : Nat} {f : α → Option Value} (h : Mk E w b n f) {T : TypeId} {C : Nat} {cs : Array Value} (hC : Blk T w C cs) : C ≠ b := fun e => by
  obtain ⟨es, cl, h2⟩ := h.isMap
  unfold Blk at hC
  rw [e, h2] at hC
  cases hC
theorem Tb.kp {W W' : World} {t n : Nat} {o : Option Nat} {f : Ways} (h : Tb W t o n f) (hT : Turn (t :: o.toList) W W') : Kp W W' := fun T C cs hne hC => by
  refine hC.turn hT ?_
  intro hm
  rcases List.mem_cons.1 hm with rfl | hm
  · have := h.head
    unfold Blk at this hC
    rw [hC] at this
    cases this
    exact hne rfl
  · cases o with
    | none => cases hm
    | some b =>
      have hb : C = b := by simpa using hm
      obtain ⟨es, cl, h2⟩ := h.map.isMap rfl
      unfold Blk at hC
      rw [hb, h2] at hC
      cases hC
theorem Hf.turn {w W W' : World} {t m i i' : Nat} {f f' g : Ways} {o o' : Option Nat} {n n' : Nat} (h : Hf w W t m i f g) (hT0 : Tb W t o n f) (h3 : ∀ b, o = some b → w.heap.size ≤ b) (h4 : o ≠ some m) (hT : Turn (t :: o.toList) W W') (hTb : Tb W' t o' n' f') (hn' : n' ≤ i') (ho' : ∀ b, o' = some b → o = some b ∨ W.heap.size ≤ b) : Hf w W' t m i' f' g := by
  obtain ⟨nm, h5⟩ := h.mp
  have hmo : m ∉ t :: o.toList := by
    intro hm
    rcases List.mem_cons.1 hm with e | hm
    · exact h5.map_ne hT0.head e.symm
    · exact h4 (by simpa using hm)
  refine ⟨⟨o', n', hTb, hn', fun b e => ?_, fun e => ?_⟩, ⟨nm, h5.turn hT hmo⟩, h.t0, h.m0, h.below.trans (hT.below (fun j hj => ?_) h.below.size)⟩
  · rcases ho' b e with e2 | e2
    · exact h3 b e2
    · exact Nat.le_trans h.below.size e2
  · rcases ho' m e with e2 | e2
    · exact h4 e2
    · exact absurd h5.lt (by omega)
  · rcases List.mem_cons.1 hj with rfl | hj
    · exact h.t0
    · exact h3 j (by simpa using hj)
theorem Hf.set {w W : World} {t m i : Nat} {f g : Ways} (h : Hf w W t m i f g) (hi : i < 1000) (a : Nat) (len : Int) (r : Rt) (hk : Rk.ok ⟨a, len, r.fr⟩) :
    Calls Try.prog 12 #[.pointer (some ⟨t, 0, none⟩), .agg #[.int .u32 a, .int .i64 len], rV r] W fun e W' => e = .returned (.tuple #[]) ∧ Hf w W' t m (i + 1) (putR f ⟨a, len, r.fr⟩ r) g ∧ Kp W W' := by
  obtain ⟨o, n, h1, h2, h3, h4⟩ := h.tb
  refine (rt_set h1 (by omega) a len r hk).mono ?_
  rintro e W' ⟨rfl, b, n', hT, hn', hTu, hob⟩
  exact ⟨rfl, h.turn h1 h3 h4 hTu hT (by omega) (fun b' e => by cases e; exact hob), h1.kp hTu⟩
theorem Hf.drop {w W : World} {t m i : Nat} {f g : Ways} (h : Hf w W t m i f g) (a : Nat) (len fr : Int) (hk : Rk.ok ⟨a, len, fr⟩) {ok : Bool} (ho : (f ⟨a, len, fr⟩).isSome = ok) :
    Calls Try.prog 9 #[.pointer (some ⟨t, 0, none⟩), .agg #[.int .u32 a, .int .i64 len], .int .i64 fr] W fun e W' => e = .returned (.bool ok) ∧ Hf w W' t m i (cutR f ⟨a, len, fr⟩) g ∧ Kp W W' := by
  obtain ⟨o, n, h1, h2, h3, h4⟩ := h.tb
  refine (rt_drop h1 a len fr hk ho).mono ?_
  rintro e W' ⟨rfl, n', hT, hn', hTu⟩
  have hTu2 : Turn (t :: o.toList) W W' := hTu.mono fun j hj => List.mem_cons_of_mem _ hj
  exact ⟨rfl, h.turn h1 h3 h4 hTu2 hT (by omega) (fun b' e => .inl e), h1.kp hTu2⟩
/-- 'delete(m, k)' of the statement's -/
theorem Hf.del {w W : World} {t m i : Nat} {f g : Ways} (h : Hf w W t m i f g) {k : Rk} (hk : Rk.ok k) :
    ∃ W', (Builtin.delete_ #[28, 41] 0 #[.map (some m), .agg #[.int .u32 k.a, .int .i64 k.n, .int .i64 k.fr]]).run Try.prog W = .ok (.tuple #[]) W' ∧ Hf w W' t m i f (cutR g k) ∧ Kp W W' := by
  obtain ⟨o, n, h1, h2, h3, h4⟩ := h.tb
  obtain ⟨nm, h5⟩ := h.mp
  obtain ⟨W', n', hrun, hM, hn', hg, hs⟩ := h5.drop (t := 28) (e := 37) (by kernel_rfl) (i := k) hk 0
  rw [← vals_cut] at hM
  have hT := Turn.of_grown hg (List.mem_singleton.2 rfl)
  have hne := h5.map_ne h1.head
  exact ⟨W', hrun, ⟨⟨o, n, h1.turn hT (by simpa using hne) (fun b e hb => h4 (by rw [e]; simpa using hb)), h2, h3, h4⟩, ⟨_, hM⟩, h.t0, h.m0, h.below.trans (hT.below (fun j hj => by simp at hj; subst hj; exact h.m0) h.below.size)⟩, fun T C cs _ hC => hC.turn hT (by simpa using h5.map_ne hC)⟩
/-- 'm[k] = r' of the statement's -/
theorem Hf.put {w W : World} {t m i : Nat} {f g : Ways} (h : Hf w W t m i f g) {k : Rk} (hk : Rk.ok k) (r : Rt) (hsm : ∀ nm, Mk lkE W m nm (vals g) → nm < maxLen) :
    ∃ W', (Instr.mapUpdate 28 (.map (some m)) (.agg #[.int .u32 k.a, .int .i64 k.n, .int .i64 k.fr]) (rV r)).run Try.prog W = .ok () W' ∧ Hf w W' t m i f (putR g k r) ∧ Kp W W' := by
  obtain ⟨o, n, h1, h2, h3, h4⟩ := h.tb
  obtain ⟨nm, h5⟩ := h.mp
  obtain ⟨W', hrun, hM, hg, hs⟩ := h5.store (t := 28) (e := 37) (by kernel_rfl) (hsm nm h5) (i := k) hk (rV r)
  rw [← vals_put] at hM
  have hT := Turn.of_grown hg (List.mem_singleton.2 rfl)
  have hne := h5.map_ne h1.head
  exact ⟨W', hrun, ⟨⟨o, n, h1.turn hT (by simpa using hne) (fun b e hb => h4 (by rw [e]; simpa using hb)), h2, h3, h4⟩, ⟨_, hM⟩, h.t0, h.m0, h.below.trans (hT.below (fun j hj => by simp at hj; subst hj; exact h.m0) h.below.size)⟩, fun T C cs _ hC => hC.turn hT (by simpa using h5.map_ne hC)⟩
theorem Tb.list {w : World} {t n : Nat} {o : Option Nat} {f : Ways} (h : Tb w t o n f) : ∃ ks : List Rk, ks.Nodup ∧ (∀ k, k ∈ ks ↔ k.ok ∧ (f k).isSome = true) ∧ n = ks.length := by
  have key : ∃ ks : List Rk, ks.Nodup ∧ ∀ k, k ∈ ks ↔ k.ok ∧ (f k).isSome = true := by
    cases o with
    | none =>
      refine ⟨[], List.nodup_nil, fun k => ?_⟩
      have h1 : (vals f k).isSome = false := by rw [h.map.2 k]; rfl
      rw [vals_some] at h1
      simp [h1]
    | some b =>
      obtain ⟨ks, h1, h2⟩ := Mk.list h.map
      exact ⟨ks, h1, fun k => by rw [h2 k, vals_some]; exact Iff.rfl⟩
  obtain ⟨ks, h1, h2⟩ := key
  exact ⟨ks, h1, h2, h.card h1 h2⟩
theorem Tb.fewer {w w' : World} {t t' n n' : Nat} {o o' : Option Nat} {f f' : Ways} (h : Tb w t o n f) (h' : Tb w' t' o' n' f') (hf : ∀ k, (f' k).isSome = true → (f k).isSome = true) : n' ≤ n := by
  obtain ⟨ks, h1, h2, rfl⟩ := h.list
  obtain ⟨ks', h1', h2', rfl⟩ := h'.list
  exact List.Nodup.length_le_of_subset h1' fun k hk => (h2 k).2 ⟨((h2' k).1 hk).1, hf k ((h2' k).1 hk).2⟩
theorem lessF_some {f : Ways} {dead : Rk → Bool} {k : Rk} (h : (lessF f dead k).isSome = true) : (f k).isSome = true := by
  unfold lessF at h
  split at h
  · cases h
  · exact h
theorem Hf.dropAll {w W : World} {t m i : Nat} {f g : Ways} (h : Hf w W t m i f g) (fr : Int) :
    Calls Try.prog 10 #[.pointer (some ⟨t, 0, none⟩), .int .i64 fr] W fun e W' => e = .returned (.tuple #[]) ∧ Hf w W' t m i (lessF f fun z => decide (z.fr = fr)) g ∧ Kp W W' := by
  obtain ⟨o, n, h1, h2, h3, h4⟩ := h.tb
  refine (rt_dropAll h1 fr).mono ?_
  rintro e W' ⟨rfl, n', hT, hTu⟩
  have hTu2 : Turn (t :: o.toList) W W' := hTu.mono fun j hj => List.mem_cons_of_mem _ hj
  exact ⟨rfl, h.turn h1 h3 h4 hTu2 hT (Nat.le_trans (h1.fewer hT fun k => lessF_some) h2) (fun b' e => .inl e), h1.kp hTu2⟩
theorem Hf.expire {w W : World} {t m i : Nat} {f g : Ways} (h : Hf w W t m i f g) (now : Int) :
    Calls Try.prog 11 #[.pointer (some ⟨t, 0, none⟩), .int .i64 now] W fun e W' => e = .returned (.tuple #[]) ∧ Hf w W' t m i (lessF f (deadAt f now)) g ∧ Kp W W' := by
  obtain ⟨o, n, h1, h2, h3, h4⟩ := h.tb
  refine (rt_expire h1 now).mono ?_
  rintro e W' ⟨rfl, n', hT, hTu⟩
  have hTu2 : Turn (t :: o.toList) W W' := hTu.mono fun j hj => List.mem_cons_of_mem _ hj
  exact ⟨rfl, h.turn h1 h3 h4 hTu2 hT (Nat.le_trans (h1.fewer hT fun k => lessF_some) h2) (fun b' e => .inl e), h1.kp hTu2⟩
end Go.Proofs.Ytblhijgjidfioaa
