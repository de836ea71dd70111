/-
  Where something goes, one by one, as mathematics. No program in sight.
-/
import Derived.Test.YtdeiolpcppibgaaLpA
namespace Go.Proofs.Ytdeiolpcppibgaa
open Fm

/-- what becomes of something to x that stands at a machine, behind a path: the path then, how it ends, and whether that is the end -/
inductive Walks (fss : List (List En)) (x : Nat) : List Int → Int → List Int → Int → Bool → Prop
  | out {path : List Int} {at_ : Int} (h : ¬ (0 ≤ at_ ∧ at_ < fss.length)) : Walks fss x path at_ path 0 true
  | ring {path : List Int} {at_ : Int} (h : 0 ≤ at_ ∧ at_ < fss.length) (hm : at_ ∈ path) : Walks fss x path at_ path 2 false
  | stop {path : List Int} {at_ : Int} {k : Nat} {a : Nat} {n how nx : Int} (e : at_ = k) (h : k < fss.length) (hm : at_ ∉ path) (hl : lookB x fss[k] = ⟨a, n, how, nx⟩) (hh : how ≠ 2) : Walks fss x path at_ (path ++ [at_]) how true
  | go {path : List Int} {at_ : Int} {k : Nat} {a : Nat} {n nx : Int} {p : List Int} {how : Int} {ok : Bool} (e : at_ = k) (h : k < fss.length) (hm : at_ ∉ path) (hl : lookB x fss[k] = ⟨a, n, 2, nx⟩) (hr : Walks fss x (path ++ [at_]) nx p how ok) : Walks fss x path at_ p how ok
theorem Walks.unique {fss : List (List En)} {x : Nat} {path : List Int} {at_ : Int} {p p' : List Int} {how how' : Int} {ok ok' : Bool} (h : Walks fss x path at_ p how ok) (h' : Walks fss x path at_ p' how' ok') : p = p' ∧ how = how' ∧ ok = ok' := by
  induction h with
  | out h =>
    cases h' with
    | out h2 => exact ⟨rfl, rfl, rfl⟩
    | ring h2 _ => exact absurd h2 h
    | stop e h2 => exact absurd ⟨by omega, by omega⟩ h
    | go e h2 => exact absurd ⟨by omega, by omega⟩ h
  | ring h hm =>
    cases h' with
    | out h2 => exact absurd h h2
    | ring h2 _ => exact ⟨rfl, rfl, rfl⟩
    | stop e h2 hm2 => exact absurd hm hm2
    | go e h2 hm2 => exact absurd hm hm2
  | @stop _ _ k _ _ _ _ e h hm hl hh =>
    cases h' with
    | out h2 => exact absurd ⟨by omega, by omega⟩ h2
    | ring h2 hm2 => exact absurd hm2 hm
    | @stop _ _ k2 _ _ _ _ e2 h2 hm2 hl2 hh2 =>
      obtain rfl : k = k2 := by omega
      rw [hl] at hl2
      cases hl2
      exact ⟨rfl, rfl, rfl⟩
    | @go _ _ k2 _ _ _ _ _ _ e2 h2 hm2 hl2 hr2 =>
      obtain rfl : k = k2 := by omega
      rw [hl] at hl2
      cases hl2
      exact absurd rfl hh
  | @go _ _ k _ _ _ _ _ _ e h hm hl hr ih =>
    cases h' with
    | out h2 => exact absurd ⟨by omega, by omega⟩ h2
    | ring h2 hm2 => exact absurd hm2 hm
    | @stop _ _ k2 _ _ _ _ e2 h2 hm2 hl2 hh2 =>
      obtain rfl : k = k2 := by omega
      rw [hl] at hl2
      cases hl2
      exact absurd rfl hh2
    | @go _ _ k2 _ _ _ _ _ _ e2 h2 hm2 hl2 hr2 =>
      obtain rfl : k = k2 := by omega
      rw [hl] at hl2
      cases hl2
      exact ih hr2
/-- a path of machines that are there, each once -/
structure Path (fss : List (List En)) (path : List Int) : Prop where
  nd : path.Nodup
  there : ∀ y, y ∈ path → 0 ≤ y ∧ y < fss.length
theorem Path.nil (fss : List (List En)) : Path fss [] := ⟨List.nodup_nil, fun y h => by cases h⟩
theorem Path.snoc {fss : List (List En)} {path : List Int} (h : Path fss path) {k : Nat} (hk : k < fss.length) (hm : (k : Int) ∉ path) : Path fss (path ++ [(k : Int)]) := by
  refine ⟨List.nodup_append.2 ⟨h.nd, by simp, fun a ha b hb => ?_⟩, fun y hy => ?_⟩
  · simp at hb
    subst hb
    exact fun e => hm (e ▸ ha)
  · rcases List.mem_append.1 hy with h1 | h1
    · exact h.there y h1
    · simp at h1
      omega
theorem Path.len {fss : List (List En)} {path : List Int} (h : Path fss path) : path.length ≤ fss.length := by
  have hnd : (path.map Int.toNat).Nodup := by
    refine List.pairwise_map.2 (List.Pairwise.imp_of_mem (fun {a b} ha hb hab e => hab ?_) h.nd)
    have := h.there a ha
    have := h.there b hb
    omega
  have hsub : ∀ y ∈ path.map Int.toNat, y ∈ List.range fss.length := fun y hy => by
    obtain ⟨z, hz, rfl⟩ := List.mem_map.1 hy
    have := h.there z hz
    rw [List.mem_range]
    omega
  have := List.Nodup.length_le_of_subset hnd hsub
  simpa using this
theorem Walks.path {fss : List (List En)} {x : Nat} {path : List Int} {at_ : Int} {p : List Int} {how : Int} {ok : Bool} (h : Walks fss x path at_ p how ok) (hp : Path fss path) : Path fss p := by
  induction h with
  | out h => exact hp
  | ring h hm => exact hp
  | stop e h hm hl hh => subst e; exact hp.snoc h hm
  | go e h hm hl hr ih => subst e; exact ih (hp.snoc h hm)
end Go.Proofs.Ytdeiolpcppibgaa
