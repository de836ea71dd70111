/-
  RouteActs: what holds from act to act; the code behind the switch as a name.
-/
import Derived.Test.YtblhijgjidfioaaRaT
import Derived.Test.YtblhijgjidfioaaRaP
import Derived.Test.YtblhijgjidfioaaRaRow
import Derived.Deep.Cut
import Derived.Deep.CutBlock
namespace Go.Proofs.Ytblhijgjidfioaa
open Go.RowKit Go.Maps
attribute [local go_sem] Oper.semAt_some

def akey (x : Ac) : Rk := ⟨x.p.a, x.p.n, x.r.fr⟩
/-- the table and the statement's own map hold the same ways -/
structure Rs (w W : World) (t m : Nat) (xs : List Ac) (i : Nat) (f : Ways) : Prop where
  hf : Hf w W t m i f f
  keys : ∀ z, rkE.ok z → (f z).isSome = true → ∃ x ∈ xs, z = akey x
  fits : ∀ k r, f k = some r → r.Fits
theorem Rs.held {w W W' : World} {t m i : Nat} {xs : List Ac} {f : Ways} (h : Rs w W t m xs i f) (hb : Below W.heap.size W W') : Rs w W' t m xs i f := ⟨h.hf.held hb, h.keys, h.fits⟩
theorem Rs.small {w W : World} {t m i : Nat} {xs : List Ac} {f : Ways} (h : Rs w W t m xs i f) {W' : World} {nm : Nat} (hM : Mk lkE W' m nm (vals f)) : nm ≤ i := by
  obtain ⟨o, n, h1, h2, -, -⟩ := h.hf.tb
  obtain ⟨ks, k1, k2, k3⟩ := h1.list
  have := Mk.card hM k1 (fun k => by rw [k2 k, vals_some]; exact Iff.rfl)
  omega
theorem Rs.put {w W W' : World} {t m i : Nat} {xs : List Ac} {f : Ways} (h : Rs w W t m xs i f) {x : Ac} (hx : x ∈ xs) (hF : x.Fits) (hH : Hf w W' t m (i + 1) (putR f (akey x) x.r) (putR f (akey x) x.r)) : Rs w W' t m xs (i + 1) (putR f (akey x) x.r) := by
  refine ⟨hH, fun z hz hs => ?_, fun k r e => ?_⟩
  · unfold putR at hs
    by_cases e : z = akey x
    · exact ⟨x, hx, e⟩
    · rw [if_neg e] at hs
      exact h.keys z hz hs
  · unfold putR at e
    split at e
    · cases e; exact hF.r
    · exact h.fits k r e
theorem Rs.less {w W W' : World} {t m i : Nat} {xs : List Ac} {f f' : Ways} (h : Rs w W t m xs i f) (hH : Hf w W' t m i f' f') (hf : ∀ k r, f' k = some r → f k = some r) : Rs w W' t m xs (i + 1) f' := by
  obtain ⟨o, n, h1, h2, h3, h4⟩ := hH.tb
  refine ⟨⟨⟨o, n, h1, by omega, h3, h4⟩, hH.mp, hH.t0, hH.m0, hH.below⟩, fun z hz hs => ?_, fun k r e => h.fits k r (hf k r e)⟩
  obtain ⟨r, hr⟩ := Option.isSome_iff_exists.1 hs
  exact h.keys z hz (by rw [hf z r hr]; rfl)
theorem Hf.congr {w W : World} {t m i : Nat} {f g g' : Ways} (h : Hf w W t m i f g) (he : ∀ z, rkE.ok z → g z = g' z) : Hf w W t m i f g' := by
  obtain ⟨nm, h5⟩ := h.mp
  exact ⟨h.tb, ⟨nm, Mk.congr h5 fun z hz => by unfold vals; rw [he z hz]⟩, h.t0, h.m0, h.below⟩
theorem cutR_none {f : Ways} {k : Rk} (h : f k = none) : cutR f k = f := by
  funext z
  unfold cutR
  split
  · rename_i e; rw [e, h]
  · rfl
theorem gone_some {f : Ways} {dead : Rk → Bool} {ks : List Rk} {k : Rk} {r : Rt} (h : gone f dead ks k = some r) : f k = some r := by
  unfold gone at h
  split at h
  · cases h
  · exact h
theorem Hf.look {w W : World} {t m i : Nat} {f g : Ways} (h : Hf w W t m i f g) {k : Rk} (hk : Rk.ok k) : ∃ (r : Rt) (ok : Bool), (g k).isSome = ok ∧ (g k).getD Rt.zero = r ∧
    (Instr.lookup 28 (.map (some m)) (.agg #[.int .u32 k.a, .int .i64 k.n, .int .i64 k.fr]) true).run Try.prog W = .ok (.tuple #[.agg #[.int .i64 r.fr, .int .u32 r.id, .int .u32 r.seq, .int .u16 r.met, .int .i64 r.exp], .bool ok]) W := by
  obtain ⟨nm, hM⟩ := h.mp
  have h2 := hM.look_ok (t := 28) (e := 37) (by kernel_rfl) (z := rV Rt.zero) (zero_route W) (i := k) hk
  rw [vals_some, show (vals g k).getD (rV Rt.zero) = rV ((g k).getD Rt.zero) by unfold vals; cases g k <;> rfl] at h2
  exact ⟨_, _, rfl, rfl, h2⟩
theorem akey_ok {x : Ac} (h : x.Fits) : Rk.ok (akey x) := ⟨h.p.1, h.p.2, h.r.f⟩

/-- the prefixes to which one of the first k acts' neighbours has a way -/
def seenF (f : Ways) (xs : List Ac) (k : Nat) : Pk → Option Value := fun p => if ((xs.take k).any fun x => decide (x.p = p) && (f (akey x)).isSome) = true then some (.bool true) else none
theorem seenF_zero (f : Ways) (xs : List Ac) : seenF f xs 0 = fun _ => none := by
  funext p
  simp [seenF]
theorem take_any {α : Type} {xs : List α} {k : Nat} (hk : k < xs.length) (q : α → Bool) : (xs.take (k + 1)).any q = ((xs.take k).any q || q xs[k]) := by
  rw [List.take_add_one, List.getElem?_eq_getElem hk, Option.toList_some, List.any_append]
  simp only [List.any_cons, List.any_nil, Bool.or_false]
theorem seenF_skip {f : Ways} {xs : List Ac} {k : Nat} (hk : k < xs.length) (h : (f (akey xs[k])).isSome = false) : seenF f xs (k + 1) = seenF f xs k := by
  funext p
  unfold seenF
  rw [take_any hk, h, Bool.and_false, Bool.or_false]
theorem seenF_put {f : Ways} {xs : List Ac} {k : Nat} (hk : k < xs.length) (h : (f (akey xs[k])).isSome = true) : seenF f xs (k + 1) = upd (seenF f xs k) xs[k].p (.bool true) := by
  funext p
  unfold seenF upd
  rw [take_any hk, h, Bool.and_true]
  by_cases e : p = xs[k].p
  · rw [if_pos e, decide_eq_true e.symm, Bool.or_true, if_pos rfl]
  · rw [if_neg e, decide_eq_false (fun h => e h.symm), Bool.or_false]
theorem seenF_all {w W : World} {t m i : Nat} {xs : List Ac} {f : Ways} (h : Rs w W t m xs i f) (hF : ∀ x ∈ xs, x.Fits) (p : Pk) : ((seenF f xs xs.length) p).isSome = true ↔ ∃ fr, Rk.ok ⟨p.a, p.n, fr⟩ ∧ (f ⟨p.a, p.n, fr⟩).isSome = true := by
  unfold seenF
  rw [List.take_length]
  constructor
  · intro hs
    split at hs
    case isFalse => cases hs
    rename_i ha
    obtain ⟨x, hx, h2⟩ := List.any_eq_true.1 ha
    rw [Bool.and_eq_true, decide_eq_true_eq] at h2
    obtain ⟨rfl, h3⟩ := h2
    exact ⟨x.r.fr, akey_ok (hF x hx), h3⟩
  · rintro ⟨fr, hk, hs⟩
    obtain ⟨x, hx, e⟩ := h.keys _ hk hs
    rw [if_pos]
    · rfl
    · refine List.any_eq_true.2 ⟨x, hx, ?_⟩
      rw [Bool.and_eq_true, decide_eq_true_eq]
      refine ⟨?_, by rw [← e]; exact hs⟩
      unfold akey at e
      obtain ⟨⟨xa, xn⟩, _⟩ : ∃ q : Pk, q = x.p := ⟨_, rfl⟩
      injection e with e1 e2 e3
      cases p
      cases hx : x.p
      rw [hx] at e1 e2
      simp only at e1 e2
      rw [e1, e2]
theorem seenF_true {f : Ways} {xs : List Ac} {k : Nat} {p : Pk} (h : (seenF f xs k p).isSome = true) : seenF f xs k p = some (.bool true) := by
  unfold seenF at h ⊢
  split at h
  · rename_i e; rw [if_pos e]
  · cases h
/-- while what was seen is put down -/
structure Sw (wc wr : World) (sb Sn : Nat) (f : Ways) (xs : List Ac) (k ns : Nat) : Prop where
  b : Below wc.heap.size wc wr
  m : Mk pkE wr sb ns (seenF f xs k)
  s : Blk 48 wr Sn #[.map (some sb)]
  b0 : wc.heap.size ≤ sb
  le : ns ≤ k
theorem Sw.held {wc wr W : World} {sb Sn : Nat} {f : Ways} {xs : List Ac} {k ns : Nat} (h : Sw wc wr sb Sn f xs k ns) (hb : Below wr.heap.size wr W) : Sw wc W sb Sn f xs k ns := ⟨next h.b hb, h.m.held hb, h.s.held hb, h.b0, h.le⟩
theorem Sw.put {wc wr : World} {sb Sn : Nat} {f : Ways} {xs : List Ac} {k ns : Nat} (h : Sw wc wr sb Sn f xs k ns) (hk : k < xs.length) (hs : (f (akey xs[k])).isSome = true) (hok : xs[k].p.ok) (hlt : k < 1000) :
    ∃ W ns', (Instr.mapUpdate 48 (.map (some sb)) (.agg #[.int .u32 xs[k].p.a, .int .i64 xs[k].p.n]) (.bool true)).run Try.prog wr = .ok () W ∧ Sw wc W sb Sn f xs (k + 1) ns' ∧ Kp wr W := by
  obtain ⟨W, hrun, hM, hg, hz⟩ := h.m.store (t := 48) (e := 4) (by kernel_rfl) (by have := h.le; unfold maxLen; omega) (i := xs[k].p) hok (.bool true)
  rw [← seenF_put hk hs] at hM
  have hT := Turn.of_grown hg (List.mem_singleton.2 rfl)
  have hne : Sn ≠ sb := h.m.map_ne h.s
  refine ⟨W, _, hrun, ⟨h.b.trans (hT.below (fun j hj => by simp at hj; subst hj; exact h.b0) h.b.size), hM, h.s.turn hT (by simpa using hne), h.b0, ?_⟩, fun T C cs _ hC => hC.turn hT (by simpa using h.m.map_ne hC)⟩
  have := h.le
  split <;> omega
theorem Sw.skip {wc wr : World} {sb Sn : Nat} {f : Ways} {xs : List Ac} {k ns : Nat} (h : Sw wc wr sb Sn f xs k ns) (hk : k < xs.length) (hs : (f (akey xs[k])).isSome = false) : Sw wc wr sb Sn f xs (k + 1) ns :=
  ⟨h.b, by rw [seenF_skip hk hs]; exact h.m, h.s, h.b0, by have := h.le; omega⟩

/-- does a piece of code end in the block n? -/
noncomputable def endsIn (n : Nat) : Code → Bool
  | .block m _ => m == n
  | .seq _ b => endsIn n b
  | _ => false
/-- what stands behind the block n -/
noncomputable def behind (n : Nat) : Code → Option Code
  | .seq a b => if endsIn n a then some b else match behind n a with
    | some c => some c
    | none => behind n b
  | .block _ b => behind n b
  | .loop b => behind n b
  | _ => none
noncomputable def raRest : Code := (Try.f3.body.bind (behind 2)).getD .skip
end Go.Proofs.Ytblhijgjidfioaa
