/-
  The document's example of package fib; both Lookups by one word.
-/
import Derived.Test.YtblhijgjidfioaaFibW
namespace Go.Proofs.Ytblhijgjidfioaa
open Go.RowKit Fm

/-- a list of entries in memory, as a slice value says it -/
structure InE (w : World) (A : Option Addr) (len cap : Nat) (es : List En) : Prop where
  hl : es.length = len
  hm : len ≤ maxLen
  hc : len ≤ cap
  hA : 0 < len → ∃ b off, A = some ⟨b, off, none⟩
  hF : ∀ e ∈ es, e.Fits
  hR : ∀ b off, A = some ⟨b, off, none⟩ → Ents w b off es
theorem InE.held {w w' : World} {A : Option Addr} {len cap : Nat} {es : List En} (h : InE w A len cap es) (hb : Below w.heap.size w w') : InE w' A len cap es :=
  ⟨h.hl, h.hm, h.hc, h.hA, h.hF, fun b off e => (h.hR b off e).held ecl_len hb⟩
theorem InE.lookup {w : World} {A : Option Addr} {len cap : Nat} {es : List En} (h : InE w A len cap es) {x : Nat} (hx : x < 4294967296) {r : En} (hr : lookB x es = r) :
    Calls Try.prog 25 #[.slice A len cap, .int .u32 x] w fun e w' => e = .returned (.agg #[.int .u32 r.a, .int .i64 r.n, .int .i64 r.how, .int .i64 r.nx]) ∧ Below w.heap.size w w' :=
  (lookup_any A len cap es h.hl h.hm h.hc h.hA h.hF x hx w h.hR).mono fun _ _ ⟨s, he, hI, hb⟩ => ⟨by rw [he, hI.eq, hr]; rfl, hb⟩
theorem InE.refLookup {w : World} {A : Option Addr} {len cap : Nat} {es : List En} (h : InE w A len cap es) {x : Nat} (hx : x < 4294967296) {r : En} (hr : lookB x es = r) :
    Calls Try.prog 26 #[.slice A len cap, .int .u32 x] w fun e w' => e = .returned (.agg #[.int .u32 r.a, .int .i64 r.n, .int .i64 r.how, .int .i64 r.nx]) ∧ Below w.heap.size w w' :=
  (refLookup_any A len cap es h.hl h.hm h.hc h.hA h.hF x hx w h.hR).mono fun _ _ ⟨s, he, hI, hb⟩ => ⟨by rw [he, hI.eq, hr]; rfl, hb⟩

def exF : List En := [⟨167772160, 8, 2, 1⟩, ⟨167837696, 16, 3, 0⟩]
theorem ex1 : lookB 167838211 exF = ⟨167837696, 16, 3, 0⟩ := by decide +kernel
theorem ex2 : lookB 167903232 exF = ⟨167772160, 8, 2, 1⟩ := by decide +kernel
theorem ex3 : lookB 0 exF = ⟨0, 0, 0, 0⟩ := by decide +kernel

theorem look1 {w : World} {A : Option Addr} (h : InE w A 2 2 exF) : Calls Try.prog 25 #[.slice A 2 2, .int .u32 167838211] w fun e w' => e = .returned (.agg #[.int .u32 167837696, .int .i64 16, .int .i64 3, .int .i64 0]) ∧ Below w.heap.size w w' := by
  have k := h.lookup (x := 167838211) (by decide) ex1
  rw [show ((167838211 : Nat) : Int) = 167838211 from rfl] at k
  dsimp only at k
  rw [show ((167837696 : Nat) : Int) = 167837696 from rfl] at k
  exact k
theorem look2 {w : World} {A : Option Addr} (h : InE w A 2 2 exF) : Calls Try.prog 25 #[.slice A 2 2, .int .u32 167903232] w fun e w' => e = .returned (.agg #[.int .u32 167772160, .int .i64 8, .int .i64 2, .int .i64 1]) ∧ Below w.heap.size w w' := by
  have k := h.lookup (x := 167903232) (by decide) ex2
  rw [show ((167903232 : Nat) : Int) = 167903232 from rfl] at k
  dsimp only at k
  rw [show ((167772160 : Nat) : Int) = 167772160 from rfl] at k
  exact k
theorem look3 {w : World} {A : Option Addr} (h : InE w A 2 2 exF) : Calls Try.prog 25 #[.slice A 2 2, .int .u32 0] w fun e w' => e = .returned (.agg #[.int .u32 0, .int .i64 0, .int .i64 0, .int .i64 0]) ∧ Below w.heap.size w w' := by
  have k := h.lookup (x := 0) (by decide) ex3
  rw [show ((0 : Nat) : Int) = 0 from rfl] at k
  exact k

set_option maxRecDepth 100000 in
set_option maxHeartbeats 1000000 in
theorem fib_head (w : World) : Calls Try.prog 24 #[] w fun e w' => e = .returned (.bool true) ∧ Below w.heap.size w w' := by
  have q1 : ∀ w, Sem.run Try.prog (Instr.field 66 (.agg #[.int .u32 167837696, .int .i64 16, .int .i64 3, .int .i64 0]) 1) w = .ok (.int .i64 3) w := fun w => by kernel_rfl
  have q2 : ∀ w, Sem.run Try.prog (Instr.field 66 (.agg #[.int .u32 167772160, .int .i64 8, .int .i64 2, .int .i64 1]) 2) w = .ok (.int .i64 1) w := fun w => by kernel_rfl
  go_enter Try.func24, Try.ntmps24
  go_wp2_with fail
  have hI : InE (w.alloc (.cells #[.int .u32 167772160, .int .i64 8, .int .i64 2, .int .i64 1, .int .u32 167837696, .int .i64 16, .int .i64 3, .int .i64 0] 66)) (some ⟨w.heap.size, 0, none⟩) 2 2 exF :=
    ⟨rfl, by decide, by decide, fun _ => ⟨_, _, rfl⟩, by
      intro e he
      simp only [exF, List.mem_cons, List.not_mem_nil, or_false] at he
      rcases he with rfl | rfl <;> exact ⟨by decide, by decide, by decide, by decide, by decide, by decide, by decide⟩, by
      intro b off e
      cases e
      intro i hi j hj
      rw [Nat.zero_add, new_cell]
      have hi' : i = 0 ∨ i = 1 := by simp [exF] at hi; omega
      have hj' : j = 0 ∨ j = 1 ∨ j = 2 ∨ j = 3 := by omega
      rcases hi' with rfl | rfl <;> rcases hj' with rfl | rfl | rfl | rfl <;> rfl⟩
  have hb := below_new w (.cells #[.int .u32 167772160, .int .i64 8, .int .i64 2, .int .i64 1, .int .u32 167837696, .int .i64 16, .int .i64 3, .int .i64 0] 66)
  generalize w.alloc (.cells #[.int .u32 167772160, .int .i64 8, .int .i64 2, .int .i64 1, .int .u32 167837696, .int .i64 16, .int .i64 3, .int .i64 0] 66) = w1 at *
  have HI := Lib.hid (And.intro hI hb)
  clear hI hb
  refine (look1 HI.out.1).mono ?_
  rintro e w2 ⟨rfl, hb⟩
  replace HI := Lib.hid (And.intro (HI.out.1.held hb) (next HI.out.2 hb))
  clear hb
  go_wp2_with fail
  refine (look2 HI.out.1).mono ?_
  rintro e w3 ⟨rfl, hb⟩
  replace HI := Lib.hid (And.intro (HI.out.1.held hb) (next HI.out.2 hb))
  clear hb
  go_wp2_with fail
  refine (look3 HI.out.1).mono ?_
  rintro e w4 ⟨rfl, hb⟩
  replace HI := Lib.hid (next HI.out.2 hb)
  clear hb
  go_wp2_with fail
  go_ret
  exact ⟨rfl, HI.out⟩

set_option maxHeartbeats 1000000 in
theorem fibLookups_walk (A : Option Addr) (len cap : Nat) (es : List En) (x : Nat) (hx : x < 4294967296) (w : World) (hI : InE w A len cap es) :
    Calls Try.prog 5 #[.slice A len cap, .int .u32 x] w fun e w' => e = .returned (.bool true) ∧ Below w.heap.size w w' := by
  go_enter Try.func5, Try.ntmps5
  go_wp2_with fail
  refine (fib_head w).mono ?_
  rintro e w2 ⟨rfl, hb⟩
  have HI := Lib.hid (And.intro (hI.held hb) hb)
  clear hI hb
  by_cases hlt : (60 : Int) < len
  · go_wp2_with fail
    go_ret
    exact ⟨rfl, HI.out.2⟩
  · obtain ⟨⟨ra, rn, rh, rx⟩, hr⟩ : ∃ r, lookB x es = r := ⟨_, rfl⟩
    have HR := Lib.hid hr
    clear hr
    go_wp2_with fail
    refine (HI.out.1.lookup hx HR.out).mono ?_
    rintro e w3 ⟨rfl, hb⟩
    replace HI := Lib.hid (And.intro (HI.out.1.held hb) (next HI.out.2 hb))
    clear hb
    go_wp2_with fail
    refine (HI.out.1.refLookup hx HR.out).mono ?_
    rintro e w4 ⟨rfl, hb⟩
    replace HI := Lib.hid (next HI.out.2 hb)
    clear hb
    go_wp2_with fail
    go_ret
    exact ⟨by simp, HI.out⟩
end Go.Proofs.Ytblhijgjidfioaa
