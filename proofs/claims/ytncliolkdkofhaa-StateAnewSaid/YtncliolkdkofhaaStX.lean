/-
  Package state: what a state's records make of nothing, in whatever order: the state again.
-/
import Derived.Test.YtncliolkdkofhaaRcd
import Derived.Test.YtncliolkdkofhaaStAp
namespace Go.Proofs.Ytncliolkdkofhaa
open Go.RowKit Rm

/-- what right records make -/
structure GoodSm (S : Sm) : Prop where
  lease : S.lease ≤ 1073741824
  own : ∀ p b, S.own p = some b → p.ok ∧ Am.right p.a p.n = true
  floor : ∀ k f, S.floor k = some f → k.ok ∧ Am.right k.a k.n = true ∧ 0 < k.id ∧ f.1 ≤ 1073741824 ∧ f.2 < 65535
theorem good0 : GoodSm sm0 := ⟨by decide, fun _ _ h => (by cases h), fun _ _ h => (by cases h)⟩
theorem right2_num {r : Rc} (h : right2 r = true) : r.seq ≤ 1073741824 ∧ r.met ≠ 65535 := by
  unfold right2 at h
  split at h
  · cases h
  · rename_i h1
    simp only [Bool.or_eq_true, not_or, decide_eq_true_eq, beq_iff_eq] at h1
    exact ⟨by omega, h1.2⟩
theorem GoodSm.app {S : Sm} (h : GoodSm S) {r : Rc} (hr : right2 r = true) (hf : r.Fits) : GoodSm (app S r) := by
  have ha := right2_addr hr
  have hid := right2_id hr
  obtain ⟨hs, hm⟩ := right2_num hr
  have hm2 := hf.met
  unfold Go.Proofs.Ytncliolkdkofhaa.app
  split
  · refine ⟨h.lease, fun p b hp => ?_, h.floor⟩
    have hp : (if p = ⟨r.a, r.len⟩ then some r.on else S.own p) = some b := hp
    split at hp
    · rename_i e
      subst e
      exact ⟨⟨hf.a, hf.n1, hf.n2⟩, ha⟩
    · exact h.own p b hp
  · split
    · exact ⟨Nat.max_le.2 ⟨h.lease, hs⟩, h.own, h.floor⟩
    · split
      · rename_i h4
        split
        · refine ⟨h.lease, h.own, fun k f hk => ?_⟩
          have hk : (if k = ⟨r.a, r.len, r.id⟩ then some (r.seq, r.met) else S.floor k) = some f := hk
          by_cases e : k = ⟨r.a, r.len, r.id⟩
          · rw [if_pos e] at hk
            cases hk
            rw [e]
            exact ⟨⟨hf.a, ⟨hf.n1, hf.n2⟩, hf.id⟩, ha, hid h4, hs, by show r.met < 65535; omega⟩
          · rw [if_neg e] at hk
            exact h.floor k f hk
        · exact h
      · exact h
theorem good_appN {rs : List Rc} (h : rs.all right2 = true) (hf : ∀ r ∈ rs, r.Fits) : ∀ k, k ≤ rs.length → GoodSm (appN rs k)
  | 0, _ => good0
  | k + 1, hk => by
    rw [appN_succ rs (show k < rs.length by omega)]
    exact (good_appN h hf k (by omega)).app (List.all_eq_true.1 h _ (List.getElem_mem _)) (hf _ (List.getElem_mem _))

/-- one record for each thing that is noted -/
def recsOf (S : Sm) (es : List (ElP S.own)) (fs : List (ElK S.floor)) : List Rc := es.map rO ++ rL S.lease ++ fs.map rF
/-- a record of what S notes -/
def From (S : Sm) (r : Rc) : Prop :=
  (r.kind = 2 ∧ S.own ⟨r.a, r.len⟩ = some r.on) ∨ (r.kind = 3 ∧ r.seq = S.lease) ∨ (r.kind = 4 ∧ S.floor ⟨r.a, r.len, r.id⟩ = some (r.seq, r.met))

/-- behind some records of S -/
structure Half (S : Sm) (A : List Rc) (T : Sm) : Prop where
  own : ∀ p, T.own p = none ∨ T.own p = S.own p
  floor : ∀ k, T.floor k = none ∨ T.floor k = S.floor k
  lease : T.lease = 0 ∨ T.lease = S.lease
  owns : ∀ r ∈ A, r.kind = 2 → T.own ⟨r.a, r.len⟩ = S.own ⟨r.a, r.len⟩
  floors : ∀ r ∈ A, r.kind = 4 → T.floor ⟨r.a, r.len, r.id⟩ = S.floor ⟨r.a, r.len, r.id⟩
  leases : ∀ r ∈ A, r.kind = 3 → T.lease = S.lease
theorem Half.zero (S : Sm) : Half S [] sm0 := ⟨fun _ => .inl rfl, fun _ => .inl rfl, .inl rfl, fun _ h => (by cases h), fun _ h => (by cases h), fun _ h => (by cases h)⟩
theorem Half.step {S T : Sm} {A : List Rc} {r : Rc} (h : Half S A T) (hr : From S r) : Half S (A ++ [r]) (app T r) := by
  rcases hr with ⟨hk, hv⟩ | ⟨hk, hv⟩ | ⟨hk, hv⟩
  · have e : app T r = ⟨T.lease, fun p => if p = ⟨r.a, r.len⟩ then some r.on else T.own p, T.floor⟩ := by unfold app; rw [if_pos hk]
    rw [e]
    refine ⟨fun p => ?_, h.floor, h.lease, fun r' hr' h2 => ?_, fun r' hr' h4 => ?_, fun r' hr' h3 => ?_⟩
    · show (if p = ⟨r.a, r.len⟩ then some r.on else T.own p) = none ∨ (if p = ⟨r.a, r.len⟩ then some r.on else T.own p) = S.own p
      by_cases hp : p = ⟨r.a, r.len⟩
      · rw [if_pos hp, hp, hv]; exact .inr rfl
      · rw [if_neg hp]; exact h.own p
    · show (if (⟨r'.a, r'.len⟩ : Pk) = ⟨r.a, r.len⟩ then some r.on else T.own ⟨r'.a, r'.len⟩) = S.own ⟨r'.a, r'.len⟩
      by_cases hp : (⟨r'.a, r'.len⟩ : Pk) = ⟨r.a, r.len⟩
      · rw [if_pos hp, hp, hv]
      · rw [if_neg hp]
        rcases List.mem_append.1 hr' with hr' | hr'
        · exact h.owns r' hr' h2
        · obtain rfl := List.mem_singleton.1 hr'
          exact absurd rfl hp
    · rcases List.mem_append.1 hr' with hr' | hr'
      · exact h.floors r' hr' h4
      · obtain rfl := List.mem_singleton.1 hr'
        omega
    · rcases List.mem_append.1 hr' with hr' | hr'
      · exact h.leases r' hr' h3
      · obtain rfl := List.mem_singleton.1 hr'
        omega
  · have e : app T r = ⟨max T.lease r.seq, T.own, T.floor⟩ := by unfold app; rw [if_neg (by omega), if_pos hk]
    have hm : max T.lease r.seq = S.lease := by rcases h.lease with h | h <;> omega
    rw [e]
    refine ⟨h.own, h.floor, .inr hm, fun r' hr' h2 => ?_, fun r' hr' h4 => ?_, fun _ _ _ => hm⟩
    · rcases List.mem_append.1 hr' with hr' | hr'
      · exact h.owns r' hr' h2
      · obtain rfl := List.mem_singleton.1 hr'
        omega
    · rcases List.mem_append.1 hr' with hr' | hr'
      · exact h.floors r' hr' h4
      · obtain rfl := List.mem_singleton.1 hr'
        omega
  · have e : app T r = if bet (T.floor ⟨r.a, r.len, r.id⟩) r.seq r.met then ⟨T.lease, T.own, fun k => if k = ⟨r.a, r.len, r.id⟩ then some (r.seq, r.met) else T.floor k⟩ else T := by unfold app; rw [if_neg (by omega), if_neg (by omega), if_pos hk]
    rw [e]
    by_cases hb : bet (T.floor ⟨r.a, r.len, r.id⟩) r.seq r.met = true
    · rw [if_pos hb]
      refine ⟨h.own, fun p => ?_, h.lease, fun r' hr' h2 => ?_, fun r' hr' h4 => ?_, fun r' hr' h3 => ?_⟩
      · show (if p = ⟨r.a, r.len, r.id⟩ then some (r.seq, r.met) else T.floor p) = none ∨ (if p = ⟨r.a, r.len, r.id⟩ then some (r.seq, r.met) else T.floor p) = S.floor p
        by_cases hp : p = ⟨r.a, r.len, r.id⟩
        · rw [if_pos hp, hp, hv]; exact .inr rfl
        · rw [if_neg hp]; exact h.floor p
      · rcases List.mem_append.1 hr' with hr' | hr'
        · exact h.owns r' hr' h2
        · obtain rfl := List.mem_singleton.1 hr'
          omega
      · show (if (⟨r'.a, r'.len, r'.id⟩ : Ky) = ⟨r.a, r.len, r.id⟩ then some (r.seq, r.met) else T.floor ⟨r'.a, r'.len, r'.id⟩) = S.floor ⟨r'.a, r'.len, r'.id⟩
        by_cases hp : (⟨r'.a, r'.len, r'.id⟩ : Ky) = ⟨r.a, r.len, r.id⟩
        · rw [if_pos hp, hp, hv]
        · rw [if_neg hp]
          rcases List.mem_append.1 hr' with hr' | hr'
          · exact h.floors r' hr' h4
          · obtain rfl := List.mem_singleton.1 hr'
            exact absurd rfl hp
      · rcases List.mem_append.1 hr' with hr' | hr'
        · exact h.leases r' hr' h3
        · obtain rfl := List.mem_singleton.1 hr'
          omega
    · rw [if_neg hb]
      refine ⟨h.own, h.floor, h.lease, fun r' hr' h2 => ?_, fun r' hr' h4 => ?_, fun r' hr' h3 => ?_⟩
      · rcases List.mem_append.1 hr' with hr' | hr'
        · exact h.owns r' hr' h2
        · obtain rfl := List.mem_singleton.1 hr'
          omega
      · rcases List.mem_append.1 hr' with hr' | hr'
        · exact h.floors r' hr' h4
        · obtain rfl := List.mem_singleton.1 hr'
          rcases h.floor ⟨r'.a, r'.len, r'.id⟩ with h0 | h0
          · rw [h0] at hb
            exact absurd rfl hb
          · exact h0
      · rcases List.mem_append.1 hr' with hr' | hr'
        · exact h.leases r' hr' h3
        · obtain rfl := List.mem_singleton.1 hr'
          omega
theorem Half.fold {S : Sm} : ∀ (B A : List Rc) (T : Sm), Half S A T → (∀ r ∈ B, From S r) → Half S (A ++ B) (B.foldl Go.Proofs.Ytncliolkdkofhaa.app T)
  | [], A, T, h, _ => by simpa using h
  | r :: B, A, T, h, hB => by
    have := Half.fold B (A ++ [r]) (Go.Proofs.Ytncliolkdkofhaa.app T r) (h.step (hB r List.mem_cons_self)) (fun r' hr' => hB r' (List.mem_cons_of_mem _ hr'))
    simpa using this
theorem Half.all {S T : Sm} {L : List Rc} (h : Half S L T) (ho : ∀ p, (S.own p).isSome = true → ∃ r ∈ L, r.kind = 2 ∧ p = ⟨r.a, r.len⟩) (hf : ∀ k, (S.floor k).isSome = true → ∃ r ∈ L, r.kind = 4 ∧ k = ⟨r.a, r.len, r.id⟩) (hl : S.lease ≠ 0 → ∃ r ∈ L, r.kind = 3) : T = S := by
  have e1 : T.lease = S.lease := by
    by_cases hz : S.lease = 0
    · rcases h.lease with h | h <;> omega
    · obtain ⟨r, hr, hk⟩ := hl hz
      exact h.leases r hr hk
  have e2 : T.own = S.own := funext fun p => by
    cases hp : S.own p with
    | none =>
      rcases h.own p with h0 | h0
      · exact h0
      · rw [h0, hp]
    | some b =>
      obtain ⟨r, hr, hk, rfl⟩ := ho p (by rw [hp]; rfl)
      rw [h.owns r hr hk, hp]
  have e3 : T.floor = S.floor := funext fun p => by
    cases hp : S.floor p with
    | none =>
      rcases h.floor p with h0 | h0
      · exact h0
      · rw [h0, hp]
    | some b =>
      obtain ⟨r, hr, hk, rfl⟩ := hf p (by rw [hp]; rfl)
      rw [h.floors r hr hk, hp]
  obtain ⟨a, b, c⟩ := T
  obtain ⟨a', b', c'⟩ := S
  cases e1
  cases e2
  cases e3
  rfl

/-! ### the records of S -/
section
variable {S : Sm} {es : List (ElP S.own)} {fs : List (ElK S.floor)} {xs : List Pk} {ys : List Ky}
theorem mem_recs {r : Rc} : r ∈ recsOf S es fs ↔ (∃ e ∈ es, rO e = r) ∨ (S.lease ≠ 0 ∧ r = ⟨3, 0, 0, 0, 0, 0, false, S.lease, 0⟩) ∨ ∃ e ∈ fs, rF e = r := by
  unfold recsOf rL
  by_cases hz : S.lease = 0
  · simp [hz]
  · simp [hz]
theorem recs_from : ∀ r ∈ recsOf S es fs, From S r := fun r hr => by
  rcases mem_recs.1 hr with ⟨e, -, rfl⟩ | ⟨hz, rfl⟩ | ⟨e, -, rfl⟩
  · exact .inl ⟨rfl, e.has⟩
  · exact .inr (.inl ⟨rfl, rfl⟩)
  · exact .inr (.inr ⟨rfl, e.has⟩)
theorem recs_right (h : GoodSm S) : ∀ r ∈ recsOf S es fs, right2 r = true ∧ r.Fits ∧ r.gen = 0 ∧ r.lsn = 0 := fun r hr => by
  rcases mem_recs.1 hr with ⟨e, -, rfl⟩ | ⟨hz, rfl⟩ | ⟨e, -, rfl⟩
  · obtain ⟨hk, hr⟩ := h.own _ _ e.has
    refine ⟨?_, ⟨by show (-9223372036854775808 : Int) ≤ 2; omega, by show (2 : Int) ≤ 9223372036854775807; omega, by show 0 < 4294967296; omega, by show 0 < 4294967296; omega, by show 0 < 4294967296; omega, hk.1, hk.2.1, hk.2.2, by show 0 < 4294967296; omega, by show 0 < 65536; omega⟩, rfl, rfl⟩
    unfold right2 rO
    simp [hr]
  · have hl := h.lease
    refine ⟨?_, ⟨by show (-9223372036854775808 : Int) ≤ 3; omega, by show (3 : Int) ≤ 9223372036854775807; omega, by show 0 < 4294967296; omega, by show 0 < 4294967296; omega, by show 0 < 4294967296; omega, by show 0 < 4294967296; omega, by show (-9223372036854775808 : Int) ≤ 0; omega, by show (0 : Int) ≤ 9223372036854775807; omega, by show S.lease < 4294967296; omega, by show 0 < 65536; omega⟩, rfl, rfl⟩
    unfold right2
    simp [show Am.right 0 0 = true by decide, show ¬ 1073741824 < S.lease by omega]
  · obtain ⟨hk, hr, hid, hs, hm⟩ := h.floor _ _ e.has
    refine ⟨?_, ⟨by show (-9223372036854775808 : Int) ≤ 4; omega, by show (4 : Int) ≤ 9223372036854775807; omega, by show 0 < 4294967296; omega, by show 0 < 4294967296; omega, hk.2.2, hk.1, hk.2.1.1, hk.2.1.2, by show e.val.1 < 4294967296; omega, by show e.val.2 < 65536; omega⟩, rfl, rfl⟩
    unfold right2 rF
    simp [hr, show ¬ 1073741824 < e.val.1 by omega, show ¬ e.val.2 = 65535 by omega, hid]
theorem recs_whole {L : List Rc} (h : GoodSm S) (hE : EsP S.own xs es) (hx : ∀ x, x ∈ xs ↔ x.ok ∧ (S.own x).isSome = true) (hF : EsK S.floor ys fs) (hy : ∀ x, x ∈ ys ↔ x.ok ∧ (S.floor x).isSome = true)
    (hL : ∀ r ∈ L, r ∈ recsOf S es fs) (hR : ∀ r ∈ recsOf S es fs, r ∈ L) : L.foldl app sm0 = S := by
  have H := Half.fold L [] sm0 (Half.zero S) (fun r hr => recs_from r (hL r hr))
  rw [List.nil_append] at H
  refine H.all (fun p hp => ?_) (fun k hk => ?_) (fun hz => ?_)
  · obtain ⟨b, hb⟩ := Option.isSome_iff_exists.1 hp
    have hm := (hx p).2 ⟨(h.own p b hb).1, hp⟩
    rw [← show es.map (·.key) = xs from hE] at hm
    obtain ⟨e, he, rfl⟩ := List.mem_map.1 hm
    exact ⟨rO e, hR _ (mem_recs.2 (.inl ⟨e, he, rfl⟩)), rfl, rfl⟩
  · obtain ⟨b, hb⟩ := Option.isSome_iff_exists.1 hk
    have hm := (hy k).2 ⟨(h.floor k b hb).1, hk⟩
    rw [← show fs.map (·.key) = ys from hF] at hm
    obtain ⟨e, he, rfl⟩ := List.mem_map.1 hm
    exact ⟨rF e, hR _ (mem_recs.2 (.inr (.inr ⟨e, he, rfl⟩))), rfl, rfl⟩
  · exact ⟨_, hR _ (mem_recs.2 (.inr (.inl ⟨hz, rfl⟩))), rfl⟩
end

/-! ### around the list, from c on -/
def turnd (L : List Rc) (c k : Nat) : List Rc := (List.range k).map fun i => L[(i + c) % L.length]?.getD zero
def appT (L : List Rc) (c k : Nat) : Sm := (turnd L c k).foldl app sm0
theorem appT_succ (L : List Rc) (c k : Nat) (h : (k + c) % L.length < L.length) : appT L c (k + 1) = app (appT L c k) L[(k + c) % L.length] := by
  unfold appT turnd
  rw [List.range_succ, List.map_append, List.foldl_append]
  simp [List.getElem?_eq_getElem h]
theorem turnd_sub {L : List Rc} {c : Nat} : ∀ r ∈ turnd L c L.length, r ∈ L := fun r hr => by
  obtain ⟨i, hi, rfl⟩ := List.mem_map.1 hr
  have hi := List.mem_range.1 hi
  have h : (i + c) % L.length < L.length := Nat.mod_lt _ (by omega)
  rw [List.getElem?_eq_getElem h]
  exact List.getElem_mem h
theorem turnd_sup {L : List Rc} {c : Nat} : ∀ r ∈ L, r ∈ turnd L c L.length := fun r hr => by
  obtain ⟨j, hj, rfl⟩ := List.mem_iff_getElem.1 hr
  have hq : c % L.length < L.length := Nat.mod_lt _ (by omega)
  have hc := Nat.div_add_mod c L.length
  obtain ⟨i, hi, he⟩ : ∃ i, i < L.length ∧ (i + c) % L.length = j := by
    by_cases hle : c % L.length ≤ j
    · refine ⟨j - c % L.length, by omega, ?_⟩
      rw [show j - c % L.length + c = j + L.length * (c / L.length) by omega, Nat.add_mul_mod_self_left, Nat.mod_eq_of_lt hj]
    · refine ⟨j + L.length - c % L.length, by omega, ?_⟩
      rw [show j + L.length - c % L.length + c = j + L.length + L.length * (c / L.length) by omega, Nat.add_mul_mod_self_left, Nat.add_mod_right, Nat.mod_eq_of_lt hj]
  refine List.mem_map.2 ⟨i, List.mem_range.2 hi, ?_⟩
  rw [he, List.getElem?_eq_getElem hj]
  rfl
end Go.Proofs.Ytncliolkdkofhaa
