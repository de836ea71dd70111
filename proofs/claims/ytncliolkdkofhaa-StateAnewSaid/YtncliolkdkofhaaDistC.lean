/-
  The contracts of package dist's Compare and Lost, and of the statement's own Better.
-/
import Derived.Test.YtncliolkdkofhaaCmp32
import Derived.Test.YtncliolkdkofhaaCmp16
import Derived.Test.YtncliolkdkofhaaCmpOr
namespace Go.Proofs.Ytncliolkdkofhaa
open Go.RowKit

/-- the order of distances: numbers first, then nearness -/
def dcmp (s m s' m' : Int) : Int := if cmpI s s' = 0 then cmpI m' m else cmpI s s'

theorem third (w : World) (A B : Obj) (C : Array Value) (t : TypeId) (j : Nat) : (((w.alloc A).alloc B).alloc (.cells C t)).drew.cell? ⟨w.heap.size + 1 + 1, j, none⟩ = C[j]? := by
  have h : ((w.alloc A).alloc B).heap.size = w.heap.size + 1 + 1 := by simp
  rw [← h]
  exact World.cell?_alloc_mark ((w.alloc A).alloc B) C t (0, 0) j

set_option maxHeartbeats 400000 in
theorem dist_cmp (s m s' m' : Int) (w : World) :
    Calls Try.prog 32 #[.agg #[.int .u32 s, .int .u16 m], .agg #[.int .u32 s', .int .u16 m']] w fun e w' => e = .returned (.int .i64 (dcmp s m s' m')) ∧ Below w.heap.size w w' := by
  have D : Hid (or2 (cmpI s s') (cmpI m' m) = dcmp s m s' m') := Lib.hid rfl
  go_enter Try.func32, Try.ntmps32
  go_wp2_with fail
  have hb : Below w.heap.size w ((w.alloc (Obj.cells #[Value.int IntKind.u32 s, Value.int IntKind.u16 m] 35)).alloc (Obj.cells #[Value.int IntKind.u32 s', Value.int IntKind.u16 m'] 35)) :=
    ((Below.refl _ _).alloc (Nat.le_refl _) _).alloc (by simp) _
  have c0 : ((w.alloc (Obj.cells #[Value.int IntKind.u32 s, Value.int IntKind.u16 m] 35)).alloc (Obj.cells #[Value.int IntKind.u32 s', Value.int IntKind.u16 m'] 35)).cell? ⟨w.heap.size, 0, none⟩ = some (.int .u32 s) := by go_simp
  have c1 : ((w.alloc (Obj.cells #[Value.int IntKind.u32 s, Value.int IntKind.u16 m] 35)).alloc (Obj.cells #[Value.int IntKind.u32 s', Value.int IntKind.u16 m'] 35)).cell? ⟨w.heap.size, 1, none⟩ = some (.int .u16 m) := by go_simp
  have c2 : ((w.alloc (Obj.cells #[Value.int IntKind.u32 s, Value.int IntKind.u16 m] 35)).alloc (Obj.cells #[Value.int IntKind.u32 s', Value.int IntKind.u16 m'] 35)).cell? ⟨w.heap.size + 1, 0, none⟩ = some (.int .u32 s') := by go_simp
  have c3 : ((w.alloc (Obj.cells #[Value.int IntKind.u32 s, Value.int IntKind.u16 m] 35)).alloc (Obj.cells #[Value.int IntKind.u32 s', Value.int IntKind.u16 m'] 35)).cell? ⟨w.heap.size + 1, 1, none⟩ = some (.int .u16 m') := by go_simp
  generalize ((w.alloc (Obj.cells #[Value.int IntKind.u32 s, Value.int IntKind.u16 m] 35)).alloc (Obj.cells #[Value.int IntKind.u32 s', Value.int IntKind.u16 m'] 35)) = w2 at hb c0 c1 c2 c3 ⊢
  have HB := Lib.hid hb
  clear hb
  go_region_held3 (fun w' => w'.cell? ⟨w.heap.size, 0, none⟩ = some (.int .u32 s) ∧ w'.cell? ⟨w.heap.size, 1, none⟩ = some (.int .u16 m) ∧ w'.cell? ⟨w.heap.size + 1, 0, none⟩ = some (.int .u32 s') ∧ w'.cell? ⟨w.heap.size + 1, 1, none⟩ = some (.int .u16 m')) (go_keep)
    (first | (go_at_call 40; refine (cmp32 _ _ _).mono ?_; rintro e w' ⟨rfl, rfl⟩) | (go_at_call 41; refine (cmp16 _ _ _).mono ?_; rintro e w' ⟨rfl, rfl⟩) | (go_at_call 39; go_loud (refine (or_two _ (cmpI s s') (cmpI m' m) _ ?_ ?_).mono ?_; (· exact (new_cell _ _ _ _).trans rfl); (· exact (new_cell _ _ _ _).trans rfl); rintro e w' ⟨rfl, rfl⟩)))
  go_wp2
  go_ret
  exact ⟨ret_int D.out, (HB.out.alloc HB.out.size _).drew⟩

theorem lost_any (s m : Int) (w : World) : Calls Try.prog 31 #[.agg #[.int .u32 s, .int .u16 m]] w fun e w' => e = .returned (.bool (m == 65535)) ∧ Below w.heap.size w w' := by
  go_enter Try.func31, Try.ntmps31
  go_wp2
  go_ret
  exact ⟨rfl, (Below.refl _ _).alloc (Nat.le_refl _) _⟩

def better (s m s' m' : Int) : Bool := decide (s' < s ∨ s = s' ∧ m < m')
set_option maxHeartbeats 400000 in
theorem better_any (s m s' m' : Int) (w : World) :
    Calls Try.prog 22 #[.agg #[.int .u32 s, .int .u16 m], .agg #[.int .u32 s', .int .u16 m']] w fun e w' => e = .returned (.bool (better s m s' m')) ∧ Below w.heap.size w w' := by
  go_enter Try.func22, Try.ntmps22
  go_wp2
  all_goals
    go_ret
    exact ⟨ret_bool (by first | (unfold better; rw [decide_eq_decide]; omega) | (unfold better; symm; rw [decide_eq_true_eq]; omega)), ((Below.refl _ _).alloc (Nat.le_refl _) _).alloc (by simp) _⟩

theorem dist_cmp_eq {s m s' m' r : Int} (h : dcmp s m s' m' = r) (w : World) :
    Calls Try.prog 32 #[.agg #[.int .u32 s, .int .u16 m], .agg #[.int .u32 s', .int .u16 m']] w fun e w' => e = .returned (.int .i64 r) ∧ Below w.heap.size w w' := h ▸ dist_cmp s m s' m' w
theorem better_eq {s m s' m' : Int} {r : Bool} (h : better s m s' m' = r) (w : World) :
    Calls Try.prog 22 #[.agg #[.int .u32 s, .int .u16 m], .agg #[.int .u32 s', .int .u16 m']] w fun e w' => e = .returned (.bool r) ∧ Below w.heap.size w w' := h ▸ better_any s m s' m' w
theorem lost_eq {s m : Int} {r : Bool} (h : (m == 65535) = r) (w : World) :
    Calls Try.prog 31 #[.agg #[.int .u32 s, .int .u16 m]] w fun e w' => e = .returned (.bool r) ∧ Below w.heap.size w w' := h ▸ lost_any s m w

theorem dcmp_pos {s m s' m' : Int} (h : s' < s ∨ s = s' ∧ m < m') : dcmp s m s' m' = 1 := by
  unfold dcmp
  rcases h with h | ⟨rfl, h⟩
  · rw [if_neg (by rw [cmpI_gt h]; omega), cmpI_gt h]
  · rw [if_pos (cmpI_self s), cmpI_gt h]
theorem dcmp_neg {s m s' m' : Int} (h : s < s' ∨ s = s' ∧ m' < m) : dcmp s m s' m' = -1 := by
  unfold dcmp
  rcases h with h | ⟨rfl, h⟩
  · rw [if_neg (by rw [cmpI_lt h]; omega), cmpI_lt h]
  · rw [if_pos (cmpI_self s), cmpI_lt h]
theorem dcmp_self (s m : Int) : dcmp s m s m = 0 := by unfold dcmp; rw [if_pos (cmpI_self s), cmpI_self]
theorem better_yes {s m s' m' : Int} (h : s' < s ∨ s = s' ∧ m < m') : better s m s' m' = true := decide_eq_true h
theorem better_no {s m s' m' : Int} (h : ¬ (s' < s ∨ s = s' ∧ m < m')) : better s m s' m' = false := decide_eq_false h

end Go.Proofs.Ytncliolkdkofhaa
