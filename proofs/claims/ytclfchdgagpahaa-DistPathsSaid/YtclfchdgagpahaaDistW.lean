/-
  The contracts of package dist, and of the statement's own functions over distances.
-/
import Derived.Test.YtclfchdgagpahaaProg
import Derived.WalkKit
import Derived.WalkSpells
import Derived.WalkLawsBesides
import Derived.Lib.Hide
import Derived.Outline
import Derived.Deep.QuietTactic
import Derived.BigQuiet
import Derived.Deep.RegionWith
import Derived.Deep.RegionHeld3
import Derived.Laws.IdiomStrings
namespace Go.Proofs.Ytclfchdgagpahaa
open Go.RowKit

theorem ret_int {k : IntKind} {a b : Int} (h : a = b) : Ending.returned (.int k a) = .returned (.int k b) := by rw [h]
theorem ret_bool {a b : Bool} (h : a = b) : Ending.returned (.bool a) = .returned (.bool b) := by rw [h]
/-- the order of numbers, as -1, 0 or 1 -/
def cmpI (a b : Int) : Int := if a < b then -1 else if b < a then 1 else 0
/-- the order of distances: numbers first, then nearness -/
def dcmp (s m s' m' : Int) : Int := if cmpI s s' = 0 then cmpI m' m else cmpI s s'

theorem cmpI_lt {x y : Int} (h : x < y) : cmpI x y = -1 := by unfold cmpI; rw [if_pos h]
theorem cmpI_gt {x y : Int} (h : y < x) : cmpI x y = 1 := by unfold cmpI; rw [if_neg (by omega), if_pos h]
theorem cmpI_self (x : Int) : cmpI x x = 0 := by unfold cmpI; rw [if_neg (by omega), if_neg (by omega)]

theorem nan32 (x : Int) (w : World) : Calls Try.prog 20 #[.int .u32 x] w fun e w' => e = .returned (.bool false) ∧ w = w' := by
  go_enter Try.func20, Try.ntmps20
  go_wp2
  go_ret
  exact ⟨by simp, rfl⟩
theorem nan16 (x : Int) (w : World) : Calls Try.prog 21 #[.int .u16 x] w fun e w' => e = .returned (.bool false) ∧ w = w' := by
  go_enter Try.func21, Try.ntmps21
  go_wp2
  go_ret
  exact ⟨by simp, rfl⟩
theorem cmp32 (x y : Int) (w : World) : Calls Try.prog 18 #[.int .u32 x, .int .u32 y] w fun e w' => e = .returned (.int .i64 (cmpI x y)) ∧ w = w' := by
  rcases Int.lt_trichotomy x y with h | h | h
  · have F := Lib.hid (cmpI_lt h)
    go_enter Try.func18, Try.ntmps18
    go_wp2_with (go_at_call 20; refine (nan32 _ _).mono ?_; rintro e w' ⟨rfl, rfl⟩)
    go_ret
    exact ⟨ret_int F.out.symm, rfl⟩
  · subst h
    have F := Lib.hid (cmpI_self x)
    go_enter Try.func18, Try.ntmps18
    go_wp2_with (go_at_call 20; refine (nan32 _ _).mono ?_; rintro e w' ⟨rfl, rfl⟩)
    go_ret
    exact ⟨ret_int F.out.symm, rfl⟩
  · have F := Lib.hid (cmpI_gt h)
    go_enter Try.func18, Try.ntmps18
    go_wp2_with (go_at_call 20; refine (nan32 _ _).mono ?_; rintro e w' ⟨rfl, rfl⟩)
    go_ret
    exact ⟨ret_int F.out.symm, rfl⟩
theorem cmp16 (x y : Int) (w : World) : Calls Try.prog 19 #[.int .u16 x, .int .u16 y] w fun e w' => e = .returned (.int .i64 (cmpI x y)) ∧ w = w' := by
  rcases Int.lt_trichotomy x y with h | h | h
  · have F := Lib.hid (cmpI_lt h)
    go_enter Try.func19, Try.ntmps19
    go_wp2_with (go_at_call 21; refine (nan16 _ _).mono ?_; rintro e w' ⟨rfl, rfl⟩)
    go_ret
    exact ⟨ret_int F.out.symm, rfl⟩
  · subst h
    have F := Lib.hid (cmpI_self x)
    go_enter Try.func19, Try.ntmps19
    go_wp2_with (go_at_call 21; refine (nan16 _ _).mono ?_; rintro e w' ⟨rfl, rfl⟩)
    go_ret
    exact ⟨ret_int F.out.symm, rfl⟩
  · have F := Lib.hid (cmpI_gt h)
    go_enter Try.func19, Try.ntmps19
    go_wp2_with (go_at_call 21; refine (nan16 _ _).mono ?_; rintro e w' ⟨rfl, rfl⟩)
    go_ret
    exact ⟨ret_int F.out.symm, rfl⟩

/-- cmp.Or of two -/
def or2 (x y : Int) : Int := if x = 0 then y else x
set_option maxHeartbeats 400000 in
theorem or_two (b : Nat) (x y : Int) (w : World) (h0 : w.cell? ⟨b, 0, none⟩ = some (.int .i64 x)) (h1 : w.cell? ⟨b, 1, none⟩ = some (.int .i64 y)) :
    Calls Try.prog 17 #[.slice (some ⟨b, 0, none⟩) 2 2] w fun e w' => e = .returned (.int .i64 (or2 x y)) ∧ w = w' := by
  by_cases hx : x = 0
  · subst hx
    have F : Hid (or2 0 y = y) := Lib.hid rfl
    by_cases hy : y = 0
    · subst hy
      go_enter Try.func17, Try.ntmps17
      go_wp2
      refine wp_loop_rounds 3 ?_
      rw [rounds_succ]
      go_wp2
      rw [rounds_succ]
      go_wp2
      rw [rounds_succ]
      go_wp2
      go_ret
      exact ⟨ret_int F.out.symm, rfl⟩
    · have hy' : (y != 0) = true := by simpa using hy
      clear hy
      go_enter Try.func17, Try.ntmps17
      go_wp2
      refine wp_loop_rounds 3 ?_
      rw [rounds_succ]
      go_wp2
      rw [rounds_succ]
      go_wp2
      go_ret
      exact ⟨ret_int F.out.symm, rfl⟩
  · have F : Hid (or2 x y = x) := Lib.hid (if_neg hx)
    have hx' : (x != 0) = true := by simpa using hx
    clear hx
    go_enter Try.func17, Try.ntmps17
    go_wp2
    refine wp_loop_rounds 3 ?_
    rw [rounds_succ]
    go_wp2
    go_ret
    exact ⟨ret_int F.out.symm, rfl⟩

theorem third (w : World) (A B : Obj) (C : Array Value) (t : TypeId) (j : Nat) : (((w.alloc A).alloc B).alloc (.cells C t)).drew.cell? ⟨w.heap.size + 1 + 1, j, none⟩ = C[j]? := by
  have h : ((w.alloc A).alloc B).heap.size = w.heap.size + 1 + 1 := by simp
  rw [← h]
  exact World.cell?_alloc_mark ((w.alloc A).alloc B) C t (0, 0) j

theorem new_cell (w : World) (C : Array Value) (t : TypeId) (j : Nat) : (w.alloc (.cells C t)).cell? ⟨w.heap.size, j, none⟩ = C[j]? := World.cell?_alloc_mark w C t (0, 0) j

set_option maxHeartbeats 400000 in
theorem dist_cmp (s m s' m' : Int) (w : World) :
    Calls Try.prog 12 #[.agg #[.int .u32 s, .int .u16 m], .agg #[.int .u32 s', .int .u16 m']] w fun e w' => e = .returned (.int .i64 (dcmp s m s' m')) ∧ Below w.heap.size w w' := by
  have D : Hid (or2 (cmpI s s') (cmpI m' m) = dcmp s m s' m') := Lib.hid rfl
  go_enter Try.func12, Try.ntmps12
  go_wp2_with fail
  have hb : Below w.heap.size w ((w.alloc (Obj.cells #[Value.int IntKind.u32 s, Value.int IntKind.u16 m] 29)).alloc (Obj.cells #[Value.int IntKind.u32 s', Value.int IntKind.u16 m'] 29)) :=
    ((Below.refl _ _).alloc (Nat.le_refl _) _).alloc (by simp) _
  have c0 : ((w.alloc (Obj.cells #[Value.int IntKind.u32 s, Value.int IntKind.u16 m] 29)).alloc (Obj.cells #[Value.int IntKind.u32 s', Value.int IntKind.u16 m'] 29)).cell? ⟨w.heap.size, 0, none⟩ = some (.int .u32 s) := by go_simp
  have c1 : ((w.alloc (Obj.cells #[Value.int IntKind.u32 s, Value.int IntKind.u16 m] 29)).alloc (Obj.cells #[Value.int IntKind.u32 s', Value.int IntKind.u16 m'] 29)).cell? ⟨w.heap.size, 1, none⟩ = some (.int .u16 m) := by go_simp
  have c2 : ((w.alloc (Obj.cells #[Value.int IntKind.u32 s, Value.int IntKind.u16 m] 29)).alloc (Obj.cells #[Value.int IntKind.u32 s', Value.int IntKind.u16 m'] 29)).cell? ⟨w.heap.size + 1, 0, none⟩ = some (.int .u32 s') := by go_simp
  have c3 : ((w.alloc (Obj.cells #[Value.int IntKind.u32 s, Value.int IntKind.u16 m] 29)).alloc (Obj.cells #[Value.int IntKind.u32 s', Value.int IntKind.u16 m'] 29)).cell? ⟨w.heap.size + 1, 1, none⟩ = some (.int .u16 m') := by go_simp
  generalize ((w.alloc (Obj.cells #[Value.int IntKind.u32 s, Value.int IntKind.u16 m] 29)).alloc (Obj.cells #[Value.int IntKind.u32 s', Value.int IntKind.u16 m'] 29)) = w2 at hb c0 c1 c2 c3 ⊢
  have HB := Lib.hid hb
  clear hb
  go_region_held3 (fun w' => w'.cell? ⟨w.heap.size, 0, none⟩ = some (.int .u32 s) ∧ w'.cell? ⟨w.heap.size, 1, none⟩ = some (.int .u16 m) ∧ w'.cell? ⟨w.heap.size + 1, 0, none⟩ = some (.int .u32 s') ∧ w'.cell? ⟨w.heap.size + 1, 1, none⟩ = some (.int .u16 m')) (go_keep)
    (first | (go_at_call 18; refine (cmp32 _ _ _).mono ?_; rintro e w' ⟨rfl, rfl⟩) | (go_at_call 19; refine (cmp16 _ _ _).mono ?_; rintro e w' ⟨rfl, rfl⟩) | (go_at_call 17; go_loud (refine (or_two _ (cmpI s s') (cmpI m' m) _ ?_ ?_).mono ?_; (· exact (new_cell _ _ _ _).trans rfl); (· exact (new_cell _ _ _ _).trans rfl); rintro e w' ⟨rfl, rfl⟩)))
  go_wp2
  go_ret
  exact ⟨ret_int D.out, (HB.out.alloc HB.out.size _).drew⟩

/-- a distance over a link besides -/
def clampCost (c : Int) : Int := if c < 1 then 1 else if 1000 < c then 1000 else c
def far (m c : Int) : Int := if 65535 < m + clampCost c then 65535 else m + clampCost c

theorem lost_any (s m : Int) (w : World) : Calls Try.prog 15 #[.agg #[.int .u32 s, .int .u16 m]] w fun e w' => e = .returned (.bool (m == 65535)) ∧ Below w.heap.size w w' := by
  go_enter Try.func15, Try.ntmps15
  go_wp2
  go_ret
  exact ⟨rfl, (Below.refl _ _).alloc (Nat.le_refl _) _⟩

set_option maxHeartbeats 400000 in
theorem beyond_any (s m c : Int) (hm : 0 ≤ m) (hm2 : m ≤ 65535) (w : World) :
    Calls Try.prog 13 #[.agg #[.int .u32 s, .int .u16 m], .int .i64 c] w fun e w' => e = .returned (.agg #[.int .u32 s, .int .u16 (far m c)]) ∧ Below w.heap.size w w' := by
  go_enter Try.func13, Try.ntmps13
  go_wp2
  all_goals
    refine bodyPost_ret (v := .agg #[.int .u32 s, .int .u16 (far m c)]) ?_ rfl ⟨rfl, ((Below.refl _ _).alloc (Nat.le_refl _) _).alloc (by simp) _⟩
    simp [results, Try.results13, go_sem]
    unfold far clampCost
    (repeat' split) <;> omega
set_option maxHeartbeats 400000 in
theorem refBeyond_any (s m c : Int) (hm : 0 ≤ m) (hm2 : m ≤ 65535) (w : World) :
    Calls Try.prog 14 #[.agg #[.int .u32 s, .int .u16 m], .int .i64 c] w fun e w' => e = .returned (.agg #[.int .u32 s, .int .u16 (far m c)]) ∧ Below w.heap.size w w' := by
  go_enter Try.func14, Try.ntmps14
  go_wp2
  all_goals
    refine bodyPost_ret (v := .agg #[.int .u32 s, .int .u16 (far m c)]) ?_ rfl ⟨rfl, ((Below.refl _ _).alloc (Nat.le_refl _) _).alloc (by simp) _⟩
    simp [results, Try.results14, go_sem]
    unfold far clampCost
    (repeat' split) <;> omega

def better (s m s' m' : Int) : Bool := decide (s' < s ∨ s = s' ∧ m < m')
set_option maxHeartbeats 400000 in
theorem better_any (s m s' m' : Int) (w : World) :
    Calls Try.prog 11 #[.agg #[.int .u32 s, .int .u16 m], .agg #[.int .u32 s', .int .u16 m']] w fun e w' => e = .returned (.bool (better s m s' m')) ∧ Below w.heap.size w w' := by
  go_enter Try.func11, Try.ntmps11
  go_wp2
  all_goals
    go_ret
    exact ⟨ret_bool (by first | (unfold better; rw [decide_eq_decide]; omega) | (unfold better; symm; rw [decide_eq_true_eq]; omega)), ((Below.refl _ _).alloc (Nat.le_refl _) _).alloc (by simp) _⟩

/-! ### facts on the orders -/
theorem cell_lt {W : World} {a : Addr} {v : Value} (h : W.cell? a = some v) : a.block < W.heap.size := by
  rcases Nat.lt_or_ge a.block W.heap.size with h' | h'
  · exact h'
  · simp [World.cell?, Array.getElem?_eq_none h'] at h
/-- a cell that was there is there behind a call that turns nothing old -/
theorem held {W w1 : World} (hb : Below W.heap.size W w1) {a : Addr} {v : Value} (h : W.cell? a = some v) : w1.cell? a = some v := (hb.cell (cell_lt h)).trans h
theorem dist_cmp_eq {s m s' m' r : Int} (h : dcmp s m s' m' = r) (w : World) :
    Calls Try.prog 12 #[.agg #[.int .u32 s, .int .u16 m], .agg #[.int .u32 s', .int .u16 m']] w fun e w' => e = .returned (.int .i64 r) ∧ Below w.heap.size w w' := h ▸ dist_cmp s m s' m' w
theorem better_eq {s m s' m' : Int} {r : Bool} (h : better s m s' m' = r) (w : World) :
    Calls Try.prog 11 #[.agg #[.int .u32 s, .int .u16 m], .agg #[.int .u32 s', .int .u16 m']] w fun e w' => e = .returned (.bool r) ∧ Below w.heap.size w w' := h ▸ better_any s m s' m' w
theorem lost_eq {s m : Int} {r : Bool} (h : (m == 65535) = r) (w : World) :
    Calls Try.prog 15 #[.agg #[.int .u32 s, .int .u16 m]] w fun e w' => e = .returned (.bool r) ∧ Below w.heap.size w w' := h ▸ lost_any s m w

theorem dcmp_pos {s m s' m' : Int} (h : s' < s ∨ s = s' ∧ m < m') : dcmp s m s' m' = 1 := by
  unfold dcmp
  rcases h with h | ⟨rfl, h⟩
  · rw [if_neg (by rw [cmpI_gt h]; omega), cmpI_gt h]
  · rw [if_pos (cmpI_self s), cmpI_gt h]
theorem dcmp_neg {s m s' m' : Int} (h : s < s' ∨ s = s' ∧ m' < m) : dcmp s m s' m' = -1 := by
  unfold dcmp
  rcases h with h | ⟨rfl, h⟩
  · rw [if_neg (by rw [cmpI_lt h]; omega), cmpI_lt h]
  · rw [if_pos (cmpI_self s), cmpI_lt h]
theorem dcmp_self (s m : Int) : dcmp s m s m = 0 := by unfold dcmp; rw [if_pos (cmpI_self s), cmpI_self]
theorem better_yes {s m s' m' : Int} (h : s' < s ∨ s = s' ∧ m < m') : better s m s' m' = true := decide_eq_true h
theorem better_no {s m s' m' : Int} (h : ¬ (s' < s ∨ s = s' ∧ m < m')) : better s m s' m' = false := decide_eq_false h

theorem next {w w2 w3 : World} (h : Below w.heap.size w w2) (k : Below w2.heap.size w2 w3) : Below w.heap.size w w3 := h.trans (k.mono h.size)
/-- a struct of two cells at the head of block b -/
def Two (w : World) (b : Nat) (x y : Value) : Prop := w.cell? ⟨b, 0, none⟩ = some x ∧ w.cell? ⟨b, 1, none⟩ = some y
theorem Two.held {W w1 : World} {b : Nat} {x y : Value} (hb : Below W.heap.size W w1) (h : Two W b x y) : Two w1 b x y := ⟨Go.Proofs.Ytclfchdgagpahaa.held hb h.1, Go.Proofs.Ytclfchdgagpahaa.held hb h.2⟩
theorem two_new (w : World) (t : TypeId) (x y : Value) : Two (w.alloc (.cells #[x, y] t)) w.heap.size x y := ⟨(new_cell w _ t 0).trans rfl, (new_cell w _ t 1).trans rfl⟩
theorem below_new (w : World) (o : Obj) : Below w.heap.size w (w.alloc o) := (Below.refl _ _).alloc (Nat.le_refl _) _
theorem size_new (w : World) (o : Obj) : (w.alloc o).heap.size = w.heap.size + 1 := by simp
theorem three_new (w : World) (t t' t'' : TypeId) (x y x' y' x'' y'' : Value) :
    Two (((w.alloc (.cells #[x, y] t)).alloc (.cells #[x', y'] t')).alloc (.cells #[x'', y''] t'')) w.heap.size x y ∧
    Two (((w.alloc (.cells #[x, y] t)).alloc (.cells #[x', y'] t')).alloc (.cells #[x'', y''] t'')) (w.heap.size + 1) x' y' ∧
    Two (((w.alloc (.cells #[x, y] t)).alloc (.cells #[x', y'] t')).alloc (.cells #[x'', y''] t'')) (w.heap.size + 1 + 1) x'' y'' ∧
    Below w.heap.size w (((w.alloc (.cells #[x, y] t)).alloc (.cells #[x', y'] t')).alloc (.cells #[x'', y''] t'')) := by
  refine ⟨((two_new w t x y).held (below_new _ _)).held (below_new _ _), ?_, ?_, next (next (below_new _ _) (below_new _ _)) (below_new _ _)⟩
  · have h := (two_new (w.alloc (.cells #[x, y] t)) t' x' y').held (below_new _ (.cells #[x'', y''] t''))
    rwa [size_new] at h
  · have h := two_new ((w.alloc (.cells #[x, y] t)).alloc (.cells #[x', y'] t')) t'' x'' y''
    rwa [size_new, size_new] at h

end Go.Proofs.Ytclfchdgagpahaa
