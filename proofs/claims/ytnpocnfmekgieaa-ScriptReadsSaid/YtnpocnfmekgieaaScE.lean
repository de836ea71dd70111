/-
  Events in memory.
-/
import Derived.Test.YtnpocnfmekgieaaScB
namespace Go.Proofs.Ytnpocnfmekgieaa
open Go.RowKit Go.Maps Sc

/-- an event as a value, as cells -/
def ecs (e : Ev) : Array Value := #[.int .i64 e.kind, .int .i64 e.i, .int .i64 e.k, .int .i64 e.n, .int .u32 e.a, .int .i64 e.len, .string ⟨e.p.toArray⟩]
def ecl (e : Ev) : List Value := [.int .i64 e.kind, .int .i64 e.i, .int .i64 e.k, .int .i64 e.n, .int .u32 e.a, .int .i64 e.len, .string ⟨e.p.toArray⟩]
theorem ecs_list (e : Ev) : (ecs e).toList = ecl e := rfl
theorem str_size (p : List UInt8) : (⟨p.toArray⟩ : ByteArray).size = p.length := by simp [ByteArray.size]
/-- an event that fits, and whose picks are no more than may be -/
structure Sc.Ev.Good (e : Ev) : Prop where
  fits : e.Fits
  few : e.p.length ≤ maxLen
/-- a list of events that is there -/
structure El (w : World) (A : Option Addr) (n cap : Nat) (es : List Ev) : Prop where
  len : es.length = n
  max : n ≤ maxLen
  cap : n ≤ cap
  plain : 0 < n → ∃ b off, A = some ⟨b, off, none⟩
  cells : ∀ b off, A = some ⟨b, off, none⟩ → ∀ i (_ : i < es.length), ∀ j, j < 7 → w.cell? ⟨b, off + (7 * i + j), none⟩ = (ecs es[i])[j]?
  good : ∀ e ∈ es, e.Good
section
variable {w w' : World} {A : Option Addr} {n cap : Nat} {es : List Ev}
theorem El.held (h : El w A n cap es) (hb : Below w.heap.size w w') : El w' A n cap es := by
  refine ⟨h.len, h.max, h.cap, h.plain, fun b off e i hi j hj => ?_, h.good⟩
  have h1 := h.cells b off e i hi j hj
  have hj' : j < (ecs es[i]).size := hj
  rw [Array.getElem?_eq_getElem hj'] at h1 ⊢
  exact Go.Proofs.Ytnpocnfmekgieaa.held hb h1
theorem El.drew (h : El w A n cap es) : El w.drew A n cap es := ⟨h.len, h.max, h.cap, h.plain, h.cells, h.good⟩
theorem El.at_ {b off : Nat} (h : El w (some ⟨b, off, none⟩) n cap es) {k : Nat} (hk : k < es.length) {e : Ev} (he : es[k] = e) :
    w.cell? ⟨b, off + k * 7, none⟩ = some (.int .i64 e.kind) ∧ w.cell? ⟨b, off + k * 7 + 1, none⟩ = some (.int .i64 e.i) ∧ w.cell? ⟨b, off + k * 7 + 2, none⟩ = some (.int .i64 e.k) ∧ w.cell? ⟨b, off + k * 7 + 3, none⟩ = some (.int .i64 e.n) ∧ w.cell? ⟨b, off + k * 7 + 4, none⟩ = some (.int .u32 e.a) ∧ w.cell? ⟨b, off + k * 7 + 5, none⟩ = some (.int .i64 e.len) ∧ w.cell? ⟨b, off + k * 7 + 6, none⟩ = some (.string ⟨e.p.toArray⟩) := by
  have H := h.cells b off rfl k hk
  rw [he] at H
  exact ⟨(by rw [show off + k * 7 = off + (7 * k + 0) by omega, H 0 (by omega)]; rfl), (by rw [show off + k * 7 + 1 = off + (7 * k + 1) by omega, H 1 (by omega)]; rfl), (by rw [show off + k * 7 + 2 = off + (7 * k + 2) by omega, H 2 (by omega)]; rfl), (by rw [show off + k * 7 + 3 = off + (7 * k + 3) by omega, H 3 (by omega)]; rfl), (by rw [show off + k * 7 + 4 = off + (7 * k + 4) by omega, H 4 (by omega)]; rfl), (by rw [show off + k * 7 + 5 = off + (7 * k + 5) by omega, H 5 (by omega)]; rfl), (by rw [show off + k * 7 + 6 = off + (7 * k + 6) by omega, H 6 (by omega)]; rfl)⟩
end
/-! ### lists of events that a call owns -/
theorem elemE : Elem Try.prog 22 30 ecl 7 64 := ⟨by kernel_rfl, elem_info (z := .agg #[.int .i64 0, .int .i64 0, .int .i64 0, .int .i64 0, .int .u32 0, .int .i64 0, .string ⟨#[]⟩]) (by kernel_rfl) rfl, by omega, fun _ => rfl, fun x v hv => by simp only [ecl, List.mem_cons, List.not_mem_nil, or_false] at hv; rcases hv with rfl | rfl | rfl | rfl | rfl | rfl | rfl <;> rfl, by omega⟩
abbrev Oe := Ol 30 ecl 7
theorem Oe.el {B : Nat} {v : Value} {es : List Ev} {W : World} (h : Oe B v es W) (hg : ∀ e ∈ es, e.Good) : ∃ A cap, v = .slice A es.length cap ∧ El W A es.length cap es := by
  rcases h.2 with ⟨rfl, h0⟩ | ⟨g, cap, cur, rfl, h4, h5, h6, h7, h8, h9⟩
  · have e0 := List.length_eq_zero_iff.1 h0
    subst e0
    exact ⟨none, 0, rfl, rfl, by unfold maxLen; simp, by simp, fun h => by simp at h, fun b off e => (by cases e), hg⟩
  · refine ⟨some ⟨g, 0, none⟩, cap, rfl, rfl, by omega, h6, fun _ => ⟨_, _, rfl⟩, fun b off e i hi j hj => ?_, hg⟩
    cases e
    have h5' : Blk 30 W g cur := h5
    have e2 := cl_flat_get (cl := ecl) (k := 7) (fun _ => rfl) es i hi j hj
    rw [← h9, List.getElem?_take, if_pos (by omega)] at e2
    rw [Nat.zero_add, h5'.at_, show 7 * i + j = i * 7 + j by omega]
    rw [show (ecs es[i])[j]? = (ecl es[i])[j]? by rw [← ecs_list]; simp]
    rw [← e2]
    simp
end Go.Proofs.Ytnpocnfmekgieaa
