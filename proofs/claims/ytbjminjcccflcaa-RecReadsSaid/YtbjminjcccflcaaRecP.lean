/-
  The contracts of package rec's pared, named and Right, and of the statement's own Right.
-/
import Derived.Test.YtbjminjcccflcaaAddrW
import Derived.Test.YtbjminjcccflcaaRecM
import Derived.Lib.QuietBelow
import Derived.BigRegion
namespace Go.Proofs.Ytbjminjcccflcaa
open Go.RowKit Rm

/-- a record as a value -/
def Rm.Rc.val (r : Rc) : Value := .agg #[.int .i64 r.kind, .int .u32 r.gen, .int .u32 r.lsn, .int .u32 r.id, .int .u32 r.a, .int .i64 r.len, .bool r.on, .int .u32 r.seq, .int .u16 r.met]

set_option maxHeartbeats 1000000 in
theorem pared_any (k : Int) (g l i a : Nat) (n : Int) (o : Bool) (s m : Nat) (w : World) :
    Calls Try.prog 16 #[.agg #[.int .i64 k, .int .u32 g, .int .u32 l, .int .u32 i, .int .u32 a, .int .i64 n, .bool o, .int .u32 s, .int .u16 m]] w fun e w' => e = .returned (pared ⟨k, g, l, i, a, n, o, s, m⟩).val ∧ Below w.heap.size w w' := by
  have B3 : ∀ A B C : Obj, Below w.heap.size w (((w.alloc A).alloc B).alloc C) := fun A B C => next (next (below_new _ _) (below_new _ _)) (below_new _ _)
  by_cases h1 : k = 1
  · subst h1
    go_enter Try.func16, Try.ntmps16
    go_wp2
    refine bodyPost_ret (v := (pared ⟨1, g, l, i, a, n, o, s, m⟩).val) ?_ rfl ⟨rfl, B3 _ _ _⟩
    simp [results, Try.results16, go_sem]
    rfl
  by_cases h2 : k = 2
  · subst h2
    go_enter Try.func16, Try.ntmps16
    go_wp2
    go_region
    go_wp2
    refine bodyPost_ret (v := (pared ⟨2, g, l, i, a, n, o, s, m⟩).val) ?_ rfl ⟨rfl, (B3 _ _ _).drew⟩
    simp [results, Try.results16, go_sem]
    rfl
  by_cases h3 : k = 3
  · subst h3
    go_enter Try.func16, Try.ntmps16
    go_wp2
    refine bodyPost_ret (v := (pared ⟨3, g, l, i, a, n, o, s, m⟩).val) ?_ rfl ⟨rfl, B3 _ _ _⟩
    simp [results, Try.results16, go_sem]
    rfl
  by_cases h4 : k = 4
  · subst h4
    go_enter Try.func16, Try.ntmps16
    go_wp2
    go_region
    go_wp2
    refine bodyPost_ret (v := (pared ⟨4, g, l, i, a, n, o, s, m⟩).val) ?_ rfl ⟨rfl, (B3 _ _ _).drew⟩
    simp [results, Try.results16, go_sem]
    rfl
  · have E : Hid ((pared ⟨k, g, l, i, a, n, o, s, m⟩).val = .agg #[.int .i64 k, .int .u32 g, .int .u32 l, .int .u32 0, .int .u32 0, .int .i64 0, .bool false, .int .u32 0, .int .u16 0]) := Lib.hid (by unfold pared; rw [if_neg h1, if_neg h2, if_neg h3, if_neg h4]; rfl)
    have d1 : (k == 1) = false := beq_eq_false_iff_ne.2 h1
    have d2 : (k == 2) = false := beq_eq_false_iff_ne.2 h2
    have d3 : (k == 3) = false := beq_eq_false_iff_ne.2 h3
    have d4 : (k == 4) = false := beq_eq_false_iff_ne.2 h4
    clear h1 h2 h3 h4
    go_enter Try.func16, Try.ntmps16
    go_wp2
    refine bodyPost_ret (v := (pared ⟨k, g, l, i, a, n, o, s, m⟩).val) ?_ rfl ⟨rfl, B3 _ _ _⟩
    rw [E.out]
    simp [results, Try.results16, go_sem]
end Go.Proofs.Ytbjminjcccflcaa
