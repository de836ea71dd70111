/-
  The document's example of package route.
-/
import Derived.Test.YtblhijgjidfioaaRtP
import Derived.Lib.QuietBelow
namespace Go.Proofs.Ytblhijgjidfioaa
open Go.RowKit Go.Maps

/-- as many ways as keys -/
theorem Tb.card {w : World} {t n : Nat} {o : Option Nat} {f : Ways} (h : Tb w t o n f) {xs : List Rk} (hnd : xs.Nodup) (hm : ∀ k, k ∈ xs ↔ k.ok ∧ (f k).isSome = true) : n = xs.length := by
  cases o with
  | none =>
    obtain ⟨rfl, h2⟩ := h.map
    have : xs = [] := by
      cases xs with
      | nil => rfl
      | cons x r =>
        have h3 := ((hm x).1 (List.mem_cons_self ..)).2
        have h4 : (vals f x).isSome = true := by rw [vals_some]; exact h3
        rw [h2 x] at h4
        cases h4
    rw [this]
    rfl
  | some b => exact (Mk.card h.map hnd (fun k => by rw [vals_some]; exact hm k)).symm

def exK1 : Rk := ⟨167772160, 8, 2⟩
def exK2 : Rk := ⟨167772160, 8, 1⟩
def exR1 : Rt := ⟨2, 0, 0, 5, 0⟩
def exR2 : Rt := ⟨1, 0, 0, 4, 0⟩
def exW : Ways := putR (putR (fun _ => none) exK1 exR1) exK2 exR2
theorem ex_pick : pickR exW [0, 3, 1] 9 167772160 8 = some exR1 := by decide +kernel
theorem ex_keys (k : Rk) : k ∈ [exK1, exK2] ↔ k.ok ∧ (exW k).isSome = true := by
  unfold exW putR
  constructor
  · intro h
    simp only [List.mem_cons, List.not_mem_nil, or_false] at h
    rcases h with rfl | rfl
    · exact ⟨⟨by decide, ⟨by decide, by decide⟩, by decide, by decide⟩, by decide⟩
    · exact ⟨⟨by decide, ⟨by decide, by decide⟩, by decide, by decide⟩, by decide⟩
  · rintro ⟨-, h⟩
    by_cases h1 : k = exK2
    · simp [h1]
    · by_cases h2 : k = exK1
      · simp [h2]
      · simp [h1, h2] at h
theorem ex_fits : ∀ k r, exW k = some r → r.Fits := by
  intro k r h
  unfold exW putR at h
  by_cases h1 : k = exK2
  · rw [if_pos h1] at h
    cases h
    exact ⟨by decide, by decide, by decide, by decide, by decide⟩
  · rw [if_neg h1] at h
    by_cases h2 : k = exK1
    · rw [if_pos h2] at h
      cases h
      exact ⟨by decide, by decide, by decide, by decide, by decide⟩
    · rw [if_neg h2] at h
      cases h
theorem ex_len : [exK1, exK2].Nodup := by decide

theorem ex_set1 {w : World} {t n : Nat} {o : Option Nat} {f : Ways} (h : Tb w t o n f) (hn : n < 100000) :
    Calls Try.prog 12 #[.pointer (some ⟨t, 0, none⟩), .agg #[.int .u32 167772160, .int .i64 8], .agg #[.int .i64 2, .int .u32 0, .int .u32 0, .int .u16 5, .int .i64 0]] w fun e w' => e = .returned (.tuple #[]) ∧ ∃ b n', Tb w' t (some b) n' (putR f exK1 exR1) ∧ n' ≤ n + 1 ∧ Turn (t :: o.toList) w w' ∧ (o = some b ∨ w.heap.size ≤ b) := by
  have k := rt_set h hn 167772160 8 exR1 ⟨by decide, ⟨by decide, by decide⟩, by decide, by decide⟩
  simp only [rV, exR1] at k
  rw [show ((167772160 : Nat) : Int) = 167772160 from rfl, show ((0 : Nat) : Int) = 0 from rfl, show ((5 : Nat) : Int) = 5 from rfl] at k
  exact k
theorem ex_set2 {w : World} {t n : Nat} {o : Option Nat} {f : Ways} (h : Tb w t o n f) (hn : n < 100000) :
    Calls Try.prog 12 #[.pointer (some ⟨t, 0, none⟩), .agg #[.int .u32 167772160, .int .i64 8], .agg #[.int .i64 1, .int .u32 0, .int .u32 0, .int .u16 4, .int .i64 0]] w fun e w' => e = .returned (.tuple #[]) ∧ ∃ b n', Tb w' t (some b) n' (putR f exK2 exR2) ∧ n' ≤ n + 1 ∧ Turn (t :: o.toList) w w' ∧ (o = some b ∨ w.heap.size ≤ b) := by
  have k := rt_set h hn 167772160 8 exR2 ⟨by decide, ⟨by decide, by decide⟩, by decide, by decide⟩
  simp only [rV, exR2] at k
  rw [show ((167772160 : Nat) : Int) = 167772160 from rfl, show ((0 : Nat) : Int) = 0 from rfl, show ((4 : Nat) : Int) = 4 from rfl] at k
  exact k
theorem ex_pick_call {w : World} {t n : Nat} {o : Option Nat} {A : Option Addr} (h : Asks w t n o exW A 3 3 [0, 3, 1]) :
    Calls Try.prog 16 #[.pointer (some ⟨t, 0, none⟩), .agg #[.int .u32 167772160, .int .i64 8], .func (.func 17) #[.agg #[.slice A 3 3, .int .u32 9]] #[], .func (.func 18) #[.agg #[.slice A 3 3, .int .u32 9]] #[]] w fun e w' =>
      e = .returned (.tuple #[.agg #[.int .i64 2, .int .u32 0, .int .u32 0, .int .u16 5, .int .i64 0], .bool true]) ∧ Below w.heap.size w w' := by
  have k := pick_any h 9 167772160 8 (by decide) (by decide) (r := exR1) (ok := true) (by rw [ex_pick]; rfl) (by rw [ex_pick]; rfl)
  simp only [rV, exR1, cosV] at k
  rw [show ((167772160 : Nat) : Int) = 167772160 from rfl, show ((0 : Nat) : Int) = 0 from rfl, show ((5 : Nat) : Int) = 5 from rfl, show ((9 : Nat) : Int) = 9 from rfl] at k
  exact k

set_option maxHeartbeats 2000000 in
set_option maxRecDepth 100000 in
theorem rt_head (w : World) : Calls Try.prog 7 #[] w fun e w' => e = .returned (.bool true) ∧ Below w.heap.size w w' := by
  go_enter Try.func7, Try.ntmps7
  go_wp2_with fail
  refine (rt_new w).mono ?_
  rintro e w1 ⟨rfl, hT, rfl⟩
  have hb := below_new w (.cells #[.map none] 75)
  generalize hg : w.heap.size = g at *
  have H1 := Lib.hid (And.intro hT (And.intro hb hg))
  clear hT hb hg
  generalize w.alloc (.cells #[.map none] 75) = w1 at *
  go_wp2_with fail
  have PB := Blk.new w1 32 #[.int .u32 167772160, .int .i64 8]
  have hb2 := below_new w1 (.cells #[.int .u32 167772160, .int .i64 8] 32)
  have tl := H1.out.1.head.lt
  have hS1 := ex_set1 (H1.out.1.held hb2) (by omega)
  generalize hp : w1.heap.size = p at *
  have H2 := Lib.hid (And.intro PB (And.intro (H1.out.2.1.trans (hb2.mono (by omega))) tl))
  clear PB hb2 hp
  generalize w1.alloc (.cells #[.int .u32 167772160, .int .i64 8] 32) = w2 at *
  refine hS1.mono ?_
  rintro e w3 ⟨rfl, b, n1, hT, hn1, hTu, hbo⟩
  have PB3 := H2.out.1.turn hTu (by simp; have := H2.out.2.2; omega)
  have hb3 : Below g w w3 := H2.out.2.1.trans (hTu.below (by simp) (by have := H1.out.2.2; have := H2.out.2.1.size; omega))
  have bl := hT.map.lt rfl
  have bne : p ≠ b := fun e => by
    obtain ⟨es, cl, h2⟩ := hT.map.isMap rfl
    have h3 := PB3
    unfold Blk at h3
    rw [e, h2] at h3
    cases h3
  have hbg : g ≤ b := by
    rcases hbo with e | e
    · cases e
    · have := H2.out.2.1.size; have := H1.out.2.2; omega
  have p0 := PB3.at_ 0
  have p1 := PB3.at_ 1
  have hS2 := ex_set2 hT (by omega)
  have H3 := Lib.hid (And.intro PB3 (And.intro hb3 (And.intro bne (And.intro H2.out.2.2 (And.intro hn1 hbg)))))
  clear hS1 hT hTu hbo PB3 hb3 bl bne H2 tl hbg
  go_wp2_with fail
  refine hS2.mono ?_
  rintro e w4 ⟨rfl, b', n2, hT, hn2, hTu, hbo⟩
  have PB4 := H3.out.1.turn hTu (by simp; exact ⟨by have := H3.out.2.2.2.1; omega, H3.out.2.2.1⟩)
  have hb4 : Below g w w4 := H3.out.2.1.trans (hTu.below (by
    intro i hi
    simp at hi
    rcases hi with rfl | rfl
    · exact Nat.le_refl _
    · exact H3.out.2.2.2.2.2) (by have := H1.out.2.2; have := H3.out.2.1.size; omega))
  have p0 := PB4.at_ 0
  have p1 := PB4.at_ 1
  have hcard : n2 = 2 := hT.card ex_len ex_keys
  subst hcard
  have C0 := Blk.new w4 3 #[.int .i64 0, .int .i64 3, .int .i64 1]
  have C1 := Blk.new (w4.alloc (.cells #[.int .i64 0, .int .i64 3, .int .i64 1] 3)) 30 #[.slice (some ⟨w4.heap.size, 0, none⟩) 3 3, .int .u32 9]
  rw [size_new] at C1
  have hb5 := next (below_new w4 (.cells #[.int .i64 0, .int .i64 3, .int .i64 1] 3)) (below_new _ (.cells #[.slice (some ⟨w4.heap.size, 0, none⟩) 3 3, .int .u32 9] 30))
  have s0 := (PB4.held hb5).at_ 0
  have s1 := (PB4.held hb5).at_ 1
  have c0 := C1.at_ 0
  have c1 := C1.at_ 1
  have C0' := C0.more (.cells #[.slice (some ⟨w4.heap.size, 0, none⟩) 3 3, .int .u32 9] 30)
  have H4 := Lib.hid (And.intro PB4 (And.intro hb4 (And.intro hT (And.intro C0' (And.intro C1 hb5)))))
  clear PB4 hb4 hT hTu hbo C0 C1 hb5 C0' hS2
  go_wp2_with fail
  clear s0 s1 c0 c1
  generalize (w4.alloc (.cells #[.int .i64 0, .int .i64 3, .int .i64 1] 3)).alloc (.cells #[.slice (some ⟨w4.heap.size, 0, none⟩) 3 3, .int .u32 9] 30) = w5 at *
  generalize hq : w4.heap.size = q at *
  have HQ := Lib.hid hq
  clear hq
  have hI : InI w5 (some ⟨q, 0, none⟩) 3 3 [0, 3, 1] := ⟨rfl, by decide, by decide, fun _ => ⟨_, _, rfl⟩, by
    intro c hc
    simp only [List.mem_cons, List.not_mem_nil, or_false] at hc
    rcases hc with rfl | rfl | rfl <;> decide, by
    intro b' off e i hi
    cases e
    rw [Nat.zero_add, H4.out.2.2.2.1.at_ i]
    have : i = 0 ∨ i = 1 ∨ i = 2 := by simp at hi; omega
    rcases this with rfl | rfl | rfl <;> rfl⟩
  have hT5 := H4.out.2.2.1.held (by rw [HQ.out]; exact H4.out.2.2.2.2.2)
  have hP := ex_pick_call ⟨hT5, hI, ex_fits⟩
  have c0 := H4.out.2.2.2.2.1.at_ 0
  have c1 := H4.out.2.2.2.2.1.at_ 1
  have hb6 : Below g w w5 := H4.out.2.1.trans (H4.out.2.2.2.2.2.mono (by have := H4.out.2.1.size; have := H1.out.2.2; have := HQ.out; omega))
  have PB5 := H4.out.1.held (by rw [HQ.out]; exact H4.out.2.2.2.2.2)
  have H5 := Lib.hid (And.intro hT5 hb6)
  clear hT5 hI hb6 H4 PB5 p0 p1
  refine hP.mono ?_
  rintro e w6 ⟨rfl, hb6⟩
  have RB := Blk.new w6 37 #[.int .i64 2, .int .u32 0, .int .u32 0, .int .u16 5, .int .i64 0]
  have hb7 := next hb6 (below_new w6 (.cells #[.int .i64 2, .int .u32 0, .int .u32 0, .int .u16 5, .int .i64 0] 37))
  have r0 := RB.at_ 0
  have HL := rt_len (H5.out.1.held hb7)
  have H6 := Lib.hid (H5.out.2.trans (hb7.mono (by have := H5.out.2.size; have := H1.out.2.2; omega)))
  clear hb6 RB hb7 hP c0 c1
  go_wp2_with fail
  refine HL.mono ?_
  rintro e w7 ⟨rfl, rfl⟩
  go_wp2_with fail
  go_ret
  have := H1.out.2.2
  subst this
  exact ⟨rfl, H6.out⟩
end Go.Proofs.Ytblhijgjidfioaa
