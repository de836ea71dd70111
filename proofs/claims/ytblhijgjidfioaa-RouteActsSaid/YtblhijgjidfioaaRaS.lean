/-
  RouteActs: the prefixes are gone through; two maps of the same keys are as long.
-/
import Derived.Test.YtblhijgjidfioaaRaC
import Derived.Test.YtblhijgjidfioaaRaE
import Derived.Test.YtblhijgjidfioaaRtH
namespace Go.Proofs.Ytblhijgjidfioaa
open Go.RowKit Go.Maps

theorem enter_cl3 : ∀ args w, (callFunc 20 args).run Try.prog w = .ok (.enter 20 args) w := enters_of Try.func20 (by kernel_rfl) rfl
theorem Mk.turn {P : Program} {k : TypeId} {α : Type} {E : Ke P k α} {w w' : World} {b n : Nat} {f : α → Option Value} {L : List Nat} (h : Mk E w b n f) (ht : Turn L w w') (hb : b ∉ L) : Mk E w' b n f := h.of_block (ht.block b h.lt hb)

structure J3 (w : World) (G N La : Nat) (xs : List Pk) (k : Nat) (W : World) : Prop where
  g : Blk 4 W G #[.bool true]
  n : Blk 3 W N #[.int .i64 (k : Int)]
  l : ∃ la : Pk, Blk 32 W La #[.int .u32 la.a, .int .i64 la.n] ∧ (0 < k → la = xs[k - 1]!)
  turn : Turn [G, N, La] w W
theorem pass3 {w : World} {G Sn sb N La ns B gx capx : Nat} {sf : Pk → Option Value} {xs : List Pk} (hl : xs.length ≤ 1000) (hS : Blk 48 w Sn #[.map (some sb)]) (hM : Mk pkE w sb ns sf) (hR : Rw w B gx capx xs) (hB : B ∉ [G, N, La]) (hgx : gx ∉ [G, N, La]) (hSn : Sn ∉ [G, N, La]) (hsb : sb ∉ [G, N, La])
    (hok : ∀ p ∈ xs, p.ok ∧ sf p = some (.bool true)) (hasc : xs.Pairwise ltP) (h : J3 w G N La xs 0 w) :
    Calls Try.prog 33 #[.func (.func 20) #[] #[.pointer (some ⟨G, 0, none⟩), .pointer (some ⟨Sn, 0, none⟩), .pointer (some ⟨N, 0, none⟩), .pointer (some ⟨La, 0, none⟩)], .pointer (some ⟨B, 0, none⟩)] w fun e W' => e = .returned (.tuple #[]) ∧ J3 w G N La xs xs.length W' := by
  refine (pfx_loop (J := J3 w G N La xs) (E := fun _ _ => False) enter_cl3 (fun k W h => (hR.turn h.turn hB hgx).loop) (fun k W ob h => ?_) ?_ (by omega) h).mono ?_
  · obtain ⟨la, h1, h2⟩ := h.l
    exact ⟨h.g.more ob, h.n.more ob, ⟨la, h1.more ob, h2⟩, h.turn.alloc ob⟩
  · intro k hk W h
    obtain ⟨la, h1, h2⟩ := h.l
    obtain ⟨hp, hs⟩ := hok _ (List.getElem_mem hk)
    refine (cl3_any (p := xs[k]) h.g (hS.turn h.turn hSn) (hM.turn h.turn hsb) h.n h1 (by omega) hp hs ?_).mono ?_
    · by_cases hk0 : k = 0
      · exact .inl hk0
      · refine .inr ?_
        rw [h2 (by omega), show xs[k - 1]! = xs[k - 1]'(by omega) by simp [show k - 1 < xs.length by omega]]
        exact (List.pairwise_iff_getElem.1 hasc) (k - 1) k (by omega) hk (by omega)
    · rintro e W' ⟨rfl, h3, h4, h5, h6⟩
      exact ⟨true, rfl, fun _ => ⟨h3, h4, ⟨xs[k], h5, fun _ => by simp [hk]⟩, h.turn.trans h6⟩, fun e => by cases e⟩
  · rintro e W' ⟨rfl, h | ⟨k, -, h⟩⟩
    · exact ⟨rfl, h⟩
    · exact h.elim

/-- the table and the statement's own map have as many ways -/
theorem same_len {w : World} {t n m nm : Nat} {o : Option Nat} {f : Ways} (h : Tb w t o n f) (hM : Mk lkE w m nm (vals f)) : n = nm := by
  obtain ⟨ks, hnd, hmem⟩ := hM.list
  have h1 := Mk.card hM hnd hmem
  have h2 := h.card hnd (fun k => by rw [hmem k, vals_some]; exact Iff.rfl)
  omega

/-! ### ways that the statement forgets, one act after the other -/
/-- of the keys ks those that are to go are gone -/
def gone (f : Ways) (dead : Rk → Bool) (ks : List Rk) : Ways := fun z => if z ∈ ks ∧ dead z = true then none else f z
theorem gone_nil (f : Ways) (dead : Rk → Bool) : gone f dead [] = f := by
  funext z
  unfold gone
  simp
theorem gone_cut (f : Ways) (dead : Rk → Bool) (ks : List Rk) {k : Rk} (h : dead k = true) : gone f dead (ks ++ [k]) = cutR (gone f dead ks) k := by
  funext z
  unfold gone cutR
  by_cases e : z = k
  · subst e; simp [h]
  · simp [e]
theorem gone_keep (f : Ways) (dead : Rk → Bool) (ks : List Rk) {k : Rk} (h : dead k = false) : gone f dead (ks ++ [k]) = gone f dead ks := by
  funext z
  unfold gone
  by_cases e : z = k
  · subst e; simp [h]
  · simp [e]
/-- where all keys that have a way have been asked, all that are to go are gone -/
theorem gone_all {f : Ways} {dead : Rk → Bool} {ks : List Rk} (h : ∀ z, rkE.ok z → dead z = true → (f z).isSome = true → z ∈ ks) {z : Rk} (hz : rkE.ok z) : gone f dead ks z = lessF f dead z := by
  unfold gone lessF
  cases hd : dead z with
  | false => simp
  | true =>
    cases hf : f z with
    | none => simp
    | some r => simp [h z hz hd (by rw [hf]; rfl)]
end Go.Proofs.Ytblhijgjidfioaa
