/-
  Package loop: machines' entries in memory; whether there is a machine; whether a path has one.
-/
import Derived.Test.YtdeiolpcppibgaaFibW
import Derived.Test.YtdeiolpcppibgaaOl
namespace Go.Proofs.Ytdeiolpcppibgaa
open Go.RowKit Go.Maps Fm

/-- a list of entries in memory, as a slice value says it -/
structure InE (w : World) (A : Option Addr) (len cap : Nat) (es : List En) : Prop where
  hl : es.length = len
  hm : len ≤ maxLen
  hc : len ≤ cap
  hA : 0 < len → ∃ b off, A = some ⟨b, off, none⟩
  hF : ∀ e ∈ es, e.Fits
  hR : ∀ b off, A = some ⟨b, off, none⟩ → Ents w b off es
theorem InE.held {w w' : World} {A : Option Addr} {len cap : Nat} {es : List En} (h : InE w A len cap es) (hb : Below w.heap.size w w') : InE w' A len cap es :=
  ⟨h.hl, h.hm, h.hc, h.hA, h.hF, fun b off e => (h.hR b off e).held ecl_len hb⟩
theorem InE.lookup {w : World} {A : Option Addr} {len cap : Nat} {es : List En} (h : InE w A len cap es) {x : Nat} (hx : x < 4294967296) {a : Nat} {n how nx : Int} (hr : lookB x es = ⟨a, n, how, nx⟩) :
    Calls Try.prog 15 #[.slice A len cap, .int .u32 x] w fun e w' => e = .returned (.agg #[.int .u32 a, .int .i64 n, .int .i64 how, .int .i64 nx]) ∧ Below w.heap.size w w' :=
  (lookup_any A len cap es h.hl h.hm h.hc h.hA h.hF x hx w h.hR).mono fun _ _ ⟨s, he, hI, hb⟩ => ⟨by rw [he, hI.eq, hr]; rfl, hb⟩
theorem InE.refLookup {w : World} {A : Option Addr} {len cap : Nat} {es : List En} (h : InE w A len cap es) {x : Nat} (hx : x < 4294967296) {a : Nat} {n how nx : Int} (hr : lookB x es = ⟨a, n, how, nx⟩) :
    Calls Try.prog 16 #[.slice A len cap, .int .u32 x] w fun e w' => e = .returned (.agg #[.int .u32 a, .int .i64 n, .int .i64 how, .int .i64 nx]) ∧ Below w.heap.size w w' :=
  (refLookup_any A len cap es h.hl h.hm h.hc h.hA h.hF x hx w h.hR).mono fun _ _ ⟨s, he, hI, hb⟩ => ⟨by rw [he, hI.eq, hr]; rfl, hb⟩
/-- machines' entries in memory: in block g, one slice a machine -/
structure InF (w : World) (g cap : Nat) (fss : List (List En)) : Prop where
  le : fss.length ≤ cap
  few : cap ≤ 100
  rows : ∀ i (h : i < fss.length), ∃ A c, w.cell? ⟨g, i, none⟩ = some (.slice A fss[i].length c) ∧ InE w A fss[i].length c fss[i]
theorem InF.held {w w' : World} {g cap : Nat} {fss : List (List En)} (h : InF w g cap fss) (hb : Below w.heap.size w w') : InF w' g cap fss :=
  ⟨h.le, h.few, fun i hi => by
    obtain ⟨A, c, h1, h2⟩ := h.rows i hi
    exact ⟨A, c, Go.Proofs.Ytdeiolpcppibgaa.held hb h1, h2.held hb⟩⟩

/-- a number of machines as a cell -/
def icl (z : Int) : List Value := [.int .i64 z]
theorem elemI : Elem Try.prog 28 3 icl 1 8 := ⟨by kernel_rfl, elem_info (z := .int .i64 0) (by kernel_rfl) rfl, by omega, fun _ => rfl, fun x v hv => by simp only [icl, List.mem_cons, List.not_mem_nil, or_false] at hv; subst hv; rfl, by omega⟩
abbrev Oi := Ol 3 icl 1

theorem there_any (w : World) (A : Option Addr) (n cap : Nat) (z : Int) :
    Calls Try.prog 13 #[.slice A n cap, .int .i64 z] w fun e w' => e = .returned (.bool (decide (0 ≤ z ∧ z < (n : Int)))) ∧ w' = w := by
  by_cases h0 : 0 ≤ z
  · have d0 : decide (0 ≤ z) = true := decide_eq_true h0
    have E := Lib.hid (show decide (0 ≤ z ∧ z < (n : Int)) = decide (z < (n : Int)) by simp [h0])
    obtain ⟨q, hq⟩ : ∃ q, decide (z < (n : Int)) = q := ⟨_, rfl⟩
    rw [hq] at E
    go_enter Try.func13, Try.ntmps13
    go_wp2
    go_ret
    exact ⟨ret_bool E.out.symm, rfl⟩
  · have d0 : decide (0 ≤ z) = false := decide_eq_false h0
    have E := Lib.hid (show decide (0 ≤ z ∧ z < (n : Int)) = false by simp [h0])
    go_enter Try.func13, Try.ntmps13
    go_wp2
    go_ret
    exact ⟨rfl, rfl⟩

/-- where a number stands first -/
theorem index_any {w : World} {B : Nat} {p : Option Addr} {n cap : Nat} {xs : List Int} (h : Oi B (.slice p n cap) xs w) (hn : xs.length = n) (hs : n ≤ 100) (z : Int) :
    Calls Try.prog 20 #[.slice p n cap, .int .i64 z] w fun e w' => ∃ q : Int, e = .returned (.int .i64 q) ∧ (0 ≤ q ↔ z ∈ xs) ∧ w' = w := by
  subst hn
  have H := Lib.hid h
  clear h
  go_enter Try.func20, Try.ntmps20
  go_wp2_with fail
  go_loopw [8] (fun i wr => ∃ k : Nat, i = .int .i64 k ∧ k ≤ xs.length ∧ Hid (∀ j (h : j < xs.length), j < k → xs[j] ≠ z) ∧ wr = w) (fun i _ => xs.length - (intOf i).toNat)
  case atStart => exact ⟨0, rfl, Nat.zero_le _, fun j _ hj => by omega, rfl⟩
  case round =>
    obtain ⟨k, rfl, hk, R, rfl⟩ := hrel
    by_cases hkl : k < xs.length
    · have hkz : (k : Int) < (xs.length : Int) := by omega
      obtain ⟨g, cp, e, h1, h2, hc⟩ := H.out.at_ elemI.len hkl
      cases e
      have c0 := hc 0 (by omega)
      rw [Nat.mul_one, Nat.add_zero] at c0
      replace c0 : wr.cell? ⟨g, k, none⟩ = some (.int .i64 xs[k]) := c0
      clear hc h1 h2
      by_cases he : z = xs[k]
      · have M := Lib.hid (show z ∈ xs by rw [he]; exact List.getElem_mem hkl)
        have d1 : (z == xs[k]) = true := beq_iff_eq.2 he
        clear he
        go_wp2_with fail
        go_ret
        exact ⟨_, rfl, ⟨fun _ => M.out, fun _ => by omega⟩, rfl⟩
      · have R2 := Lib.hid (show ∀ j (h : j < xs.length), j < k + 1 → xs[j] ≠ z from fun j hj hjk => by
          by_cases e : j = k
          · subst e; exact fun e => he e.symm
          · exact R.out j hj (by omega))
        have d1 : (z == xs[k]) = false := beq_eq_false_iff_ne.2 he
        clear he R
        go_wp2_with fail
        go_roundw
        case rel => exact ⟨k + 1, by go_num, by omega, R2, trivial⟩
        case measure => simp [intOf]; omega
    · obtain rfl : k = xs.length := by omega
      go_wp2_with fail
      go_ret
      refine ⟨_, rfl, ⟨fun h => by omega, fun h => ?_⟩, rfl⟩
      obtain ⟨j, hj, e⟩ := List.mem_iff_getElem.1 h
      exact absurd e (R.out j hj hj)
theorem contains_any {w : World} {B : Nat} {p : Option Addr} {n cap : Nat} {xs : List Int} (h : Oi B (.slice p n cap) xs w) (hn : xs.length = n) (hs : n ≤ 100) (z : Int) :
    Calls Try.prog 14 #[.slice p n cap, .int .i64 z] w fun e w' => e = .returned (.bool (decide (z ∈ xs))) ∧ w' = w := by
  have HI := index_any h hn hs z
  clear h
  go_enter Try.func14, Try.ntmps14
  go_wp2_with fail
  refine HI.mono ?_
  rintro e w2 ⟨q, rfl, hq, rfl⟩
  have E := Lib.hid hq
  clear HI hq
  go_wp2_with fail
  go_ret
  exact ⟨ret_bool (by simp [E.out]), rfl⟩
end Go.Proofs.Ytdeiolpcppibgaa
