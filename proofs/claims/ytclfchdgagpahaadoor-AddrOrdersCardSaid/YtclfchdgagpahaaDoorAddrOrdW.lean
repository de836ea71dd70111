/-
  AddrOrders: the walk.
-/
import Derived.Test.YtclfchdgagpahaaDoorAddrHd
import Derived.Test.YtclfchdgagpahaaDoorAddrOrdM
import Derived.Test.YtclfchdgagpahaaDoorCmp32
import Derived.Test.YtclfchdgagpahaaDoorCmpInt
import Derived.Test.YtclfchdgagpahaaDoorCmpOr
namespace Go.Proofs.YtclfchdgagpahaaDoor
open Go.RowKit

theorem two_pre (w : World) (t t' : TypeId) (a n b m : Int) :
    Pre ((w.alloc (.cells #[.int .u32 a, .int .i64 n] t)).alloc (.cells #[.int .u32 b, .int .i64 m] t')) w.heap.size a n ∧
    Pre ((w.alloc (.cells #[.int .u32 a, .int .i64 n] t)).alloc (.cells #[.int .u32 b, .int .i64 m] t')) (w.heap.size + 1) b m ∧
    Below w.heap.size w ((w.alloc (.cells #[.int .u32 a, .int .i64 n] t)).alloc (.cells #[.int .u32 b, .int .i64 m] t')) := by
  refine ⟨(pre_new w t a n).held (below_new _ _), ?_, next (below_new _ _) (below_new _ _)⟩
  have h := pre_new (w.alloc (.cells #[.int .u32 a, .int .i64 n] t)) t' b m
  rwa [size_new] at h

set_option maxHeartbeats 400000 in
theorem pre_cmp (a n b m : Int) (w : World) :
    Calls Tryd.prog 15 #[.agg #[.int .u32 a, .int .i64 n], .agg #[.int .u32 b, .int .i64 m]] w fun e w' => e = .returned (.int .i64 (Om.pcmp a n b m)) ∧ Below w.heap.size w w' := by
  have D : Hid (or2 (cmpI a b) (cmpI n m) = Om.pcmp a n b m) := Lib.hid rfl
  go_enter Tryd.func15, Tryd.ntmps15
  go_wp2_with fail
  obtain ⟨⟨a0, a1⟩, ⟨b0, b1⟩, hB⟩ := two_pre w 24 24 a n b m
  generalize (w.alloc (.cells #[.int .u32 a, .int .i64 n] 24)).alloc (.cells #[.int .u32 b, .int .i64 m] 24) = w2 at *
  have HB := Lib.hid hB
  clear hB
  go_region_held3 (fun w' => w'.cell? ⟨w.heap.size, 0, none⟩ = some (.int .u32 a) ∧ w'.cell? ⟨w.heap.size, 1, none⟩ = some (.int .i64 n) ∧ w'.cell? ⟨w.heap.size + 1, 0, none⟩ = some (.int .u32 b) ∧ w'.cell? ⟨w.heap.size + 1, 1, none⟩ = some (.int .i64 m)) (go_keep)
    (first | (go_at_call 23; refine (cmp32 _ _ _).mono ?_; rintro e w' ⟨rfl, rfl⟩) | (go_at_call 24; refine (cmpInt _ _ _).mono ?_; rintro e w' ⟨rfl, rfl⟩) | (go_at_call 22; refine (or_two _ (cmpI a b) (cmpI n m) _ ?_ ?_).mono ?_; (· exact (new_cell _ _ _ _).trans rfl); (· exact (new_cell _ _ _ _).trans rfl); rintro e w' ⟨rfl, rfl⟩))
  go_wp2
  go_ret
  exact ⟨ret_int D.out, (HB.out.alloc HB.out.size _).drew⟩
theorem pre_cmp_eq {a n b m r : Int} (h : Om.pcmp a n b m = r) (w : World) :
    Calls Tryd.prog 15 #[.agg #[.int .u32 a, .int .i64 n], .agg #[.int .u32 b, .int .i64 m]] w fun e w' => e = .returned (.int .i64 r) ∧ Below w.heap.size w w' := h ▸ pre_cmp a n b m w

set_option maxHeartbeats 400000 in
theorem less_any (a n b m : Int) (w : World) :
    Calls Tryd.prog 16 #[.agg #[.int .u32 a, .int .i64 n], .agg #[.int .u32 b, .int .i64 m]] w fun e w' => e = .returned (.bool (Om.less a n b m)) ∧ Below w.heap.size w w' := by
  go_enter Tryd.func16, Tryd.ntmps16
  go_wp2
  all_goals
    go_ret
    exact ⟨ret_bool (by first | (unfold Om.less; rw [decide_eq_decide]; omega) | (unfold Om.less; symm; rw [decide_eq_true_eq]; omega)), next (below_new _ _) (below_new _ _)⟩
theorem less_eq {a n b m : Int} {r : Bool} (h : Om.less a n b m = r) (w : World) :
    Calls Tryd.prog 16 #[.agg #[.int .u32 a, .int .i64 n], .agg #[.int .u32 b, .int .i64 m]] w fun e w' => e = .returned (.bool r) ∧ Below w.heap.size w w' := h ▸ less_any a n b m w
end Go.Proofs.YtclfchdgagpahaaDoor
