/-
  The contract of an event's pared: what its kind hasn't is struck out.
-/
import Derived.Test.YtnpocnfmekgieaaScE
import Derived.Test.YtnpocnfmekgieaaScA
import Derived.Laws.ResultCell
import Derived.Laws.Rows
namespace Go.Proofs.Ytnpocnfmekgieaa
open Go.RowKit Go.Maps Sc

def Sc.pared (e : Ev) : Ev := ⟨e.kind, if hasI e.kind then e.i else 0, if hasK e.kind then e.k else 0, if hasN e.kind then e.n else 0, if hasP e.kind then e.a else 0, if hasP e.kind then e.len else 0, if hasS e.kind then e.p else []⟩
theorem below3 (w : World) (a b c : Obj) : Below w.heap.size w (((w.alloc a).alloc b).alloc c) := next (next (below_new w a) (below_new _ b)) (below_new _ c)
theorem below_set {w w' : World} (h : Below w.heap.size w w') {p : Addr} (hp : w.heap.size ≤ p.block) (v : Value) : Below w.heap.size w (w'.setCell p v) := h.setCell hp v
theorem below_sets {w w' : World} (h : Below w.heap.size w w') {b : Nat} (hp : w.heap.size ≤ b) (o : Nat) (vs : List Value) : Below w.heap.size w (w'.setCells b o vs) := h.trans ((Turn.setCells (L := [b]) w' (by simp) o vs).below (by simp; exact hp) h.size)

set_option maxRecDepth 100000 in
set_option maxHeartbeats 2000000 in
theorem pared_0 (i k n len : Int) (u : Nat) (p : ByteArray) (w : World) :
    Calls Try.prog 17 #[.agg #[.int .i64 0, .int .i64 i, .int .i64 k, .int .i64 n, .int .u32 (u : Int), .int .i64 len, .string p]] w fun x w' => x = .returned (.agg #[.int .i64 0, .int .i64 i, .int .i64 0, .int .i64 0, .int .u32 0, .int .i64 0, .string ⟨#[]⟩]) ∧ Below w.heap.size w w' := by
  go_enter Try.func17, Try.ntmps17
  go_wp2_with fail
  refine bodyPost_ret (v := .agg #[.int .i64 0, .int .i64 i, .int .i64 0, .int .i64 0, .int .u32 0, .int .i64 0, .string ⟨#[]⟩]) ?_ rfl ⟨rfl, ?_⟩
  · simp [results, Try.results17, go_sem]
  · first | exact below3 _ _ _ _ | exact (below3 _ _ _ _).drew

set_option maxRecDepth 100000 in
set_option maxHeartbeats 2000000 in
theorem pared_1 (i k n len : Int) (u : Nat) (p : ByteArray) (w : World) :
    Calls Try.prog 17 #[.agg #[.int .i64 1, .int .i64 i, .int .i64 k, .int .i64 n, .int .u32 (u : Int), .int .i64 len, .string p]] w fun x w' => x = .returned (.agg #[.int .i64 1, .int .i64 i, .int .i64 0, .int .i64 0, .int .u32 0, .int .i64 0, .string p]) ∧ Below w.heap.size w w' := by
  go_enter Try.func17, Try.ntmps17
  go_wp2_with fail
  go_region
  all_goals
    go_wp2_with fail
    refine bodyPost_ret (v := .agg #[.int .i64 1, .int .i64 i, .int .i64 0, .int .i64 0, .int .u32 0, .int .i64 0, .string p]) ?_ rfl ⟨rfl, ?_⟩
    · simp [results, Try.results17, go_sem]
    · first | exact below3 _ _ _ _ | exact (below3 _ _ _ _).drew

set_option maxRecDepth 100000 in
set_option maxHeartbeats 2000000 in
theorem pared_2 (i k n len : Int) (u : Nat) (p : ByteArray) (w : World) :
    Calls Try.prog 17 #[.agg #[.int .i64 2, .int .i64 i, .int .i64 k, .int .i64 n, .int .u32 (u : Int), .int .i64 len, .string p]] w fun x w' => x = .returned (.agg #[.int .i64 2, .int .i64 i, .int .i64 0, .int .i64 n, .int .u32 0, .int .i64 0, .string ⟨#[]⟩]) ∧ Below w.heap.size w w' := by
  go_enter Try.func17, Try.ntmps17
  go_wp2_with fail
  go_region
  all_goals
    go_wp2_with fail
    refine bodyPost_ret (v := .agg #[.int .i64 2, .int .i64 i, .int .i64 0, .int .i64 n, .int .u32 0, .int .i64 0, .string ⟨#[]⟩]) ?_ rfl ⟨rfl, ?_⟩
    · simp [results, Try.results17, go_sem]
    · first | exact below3 _ _ _ _ | exact (below3 _ _ _ _).drew

set_option maxRecDepth 100000 in
set_option maxHeartbeats 2000000 in
theorem pared_3 (i k n len : Int) (u : Nat) (p : ByteArray) (w : World) :
    Calls Try.prog 17 #[.agg #[.int .i64 3, .int .i64 i, .int .i64 k, .int .i64 n, .int .u32 (u : Int), .int .i64 len, .string p]] w fun x w' => x = .returned (.agg #[.int .i64 3, .int .i64 i, .int .i64 k, .int .i64 n, .int .u32 0, .int .i64 0, .string ⟨#[]⟩]) ∧ Below w.heap.size w w' := by
  go_enter Try.func17, Try.ntmps17
  go_wp2_with fail
  go_region
  all_goals
    go_wp2_with fail
    refine bodyPost_ret (v := .agg #[.int .i64 3, .int .i64 i, .int .i64 k, .int .i64 n, .int .u32 0, .int .i64 0, .string ⟨#[]⟩]) ?_ rfl ⟨rfl, ?_⟩
    · simp [results, Try.results17, go_sem]
    · first | exact below3 _ _ _ _ | exact (below3 _ _ _ _).drew

set_option maxRecDepth 100000 in
set_option maxHeartbeats 2000000 in
theorem pared_4 (i k n len : Int) (u : Nat) (p : ByteArray) (w : World) :
    Calls Try.prog 17 #[.agg #[.int .i64 4, .int .i64 i, .int .i64 k, .int .i64 n, .int .u32 (u : Int), .int .i64 len, .string p]] w fun x w' => x = .returned (.agg #[.int .i64 4, .int .i64 i, .int .i64 0, .int .i64 0, .int .u32 (u : Int), .int .i64 len, .string ⟨#[]⟩]) ∧ Below w.heap.size w w' := by
  go_enter Try.func17, Try.ntmps17
  go_wp2_with fail
  go_region
  all_goals
    go_wp2_with fail
    refine bodyPost_ret (v := .agg #[.int .i64 4, .int .i64 i, .int .i64 0, .int .i64 0, .int .u32 (u : Int), .int .i64 len, .string ⟨#[]⟩]) ?_ rfl ⟨rfl, ?_⟩
    · simp [results, Try.results17, go_sem]
    · first | exact below3 _ _ _ _ | exact (below3 _ _ _ _).drew

set_option maxRecDepth 100000 in
set_option maxHeartbeats 2000000 in
theorem pared_5 (i k n len : Int) (u : Nat) (p : ByteArray) (w : World) :
    Calls Try.prog 17 #[.agg #[.int .i64 5, .int .i64 i, .int .i64 k, .int .i64 n, .int .u32 (u : Int), .int .i64 len, .string p]] w fun x w' => x = .returned (.agg #[.int .i64 5, .int .i64 i, .int .i64 0, .int .i64 0, .int .u32 (u : Int), .int .i64 len, .string ⟨#[]⟩]) ∧ Below w.heap.size w w' := by
  go_enter Try.func17, Try.ntmps17
  go_wp2_with fail
  go_region
  all_goals
    go_wp2_with fail
    refine bodyPost_ret (v := .agg #[.int .i64 5, .int .i64 i, .int .i64 0, .int .i64 0, .int .u32 (u : Int), .int .i64 len, .string ⟨#[]⟩]) ?_ rfl ⟨rfl, ?_⟩
    · simp [results, Try.results17, go_sem]
    · first | exact below3 _ _ _ _ | exact (below3 _ _ _ _).drew

set_option maxRecDepth 100000 in
set_option maxHeartbeats 2000000 in
theorem pared_6 (i k n len : Int) (u : Nat) (p : ByteArray) (w : World) :
    Calls Try.prog 17 #[.agg #[.int .i64 6, .int .i64 i, .int .i64 k, .int .i64 n, .int .u32 (u : Int), .int .i64 len, .string p]] w fun x w' => x = .returned (.agg #[.int .i64 6, .int .i64 i, .int .i64 0, .int .i64 0, .int .u32 0, .int .i64 0, .string ⟨#[]⟩]) ∧ Below w.heap.size w w' := by
  go_enter Try.func17, Try.ntmps17
  go_wp2_with fail
  refine bodyPost_ret (v := .agg #[.int .i64 6, .int .i64 i, .int .i64 0, .int .i64 0, .int .u32 0, .int .i64 0, .string ⟨#[]⟩]) ?_ rfl ⟨rfl, ?_⟩
  · simp [results, Try.results17, go_sem]
  · first | exact below3 _ _ _ _ | exact (below3 _ _ _ _).drew

set_option maxRecDepth 100000 in
set_option maxHeartbeats 2000000 in
theorem pared_7 (i k n len : Int) (u : Nat) (p : ByteArray) (w : World) :
    Calls Try.prog 17 #[.agg #[.int .i64 7, .int .i64 i, .int .i64 k, .int .i64 n, .int .u32 (u : Int), .int .i64 len, .string p]] w fun x w' => x = .returned (.agg #[.int .i64 7, .int .i64 0, .int .i64 k, .int .i64 n, .int .u32 0, .int .i64 0, .string ⟨#[]⟩]) ∧ Below w.heap.size w w' := by
  go_enter Try.func17, Try.ntmps17
  go_wp2_with fail
  go_region
  all_goals
    go_wp2_with fail
    refine bodyPost_ret (v := .agg #[.int .i64 7, .int .i64 0, .int .i64 k, .int .i64 n, .int .u32 0, .int .i64 0, .string ⟨#[]⟩]) ?_ rfl ⟨rfl, ?_⟩
    · simp [results, Try.results17, go_sem]
    · first | exact below3 _ _ _ _ | exact (below3 _ _ _ _).drew

set_option maxRecDepth 100000 in
set_option maxHeartbeats 2000000 in
theorem pared_8 (i k n len : Int) (u : Nat) (p : ByteArray) (w : World) :
    Calls Try.prog 17 #[.agg #[.int .i64 8, .int .i64 i, .int .i64 k, .int .i64 n, .int .u32 (u : Int), .int .i64 len, .string p]] w fun x w' => x = .returned (.agg #[.int .i64 8, .int .i64 0, .int .i64 k, .int .i64 0, .int .u32 0, .int .i64 0, .string ⟨#[]⟩]) ∧ Below w.heap.size w w' := by
  go_enter Try.func17, Try.ntmps17
  go_wp2_with fail
  refine bodyPost_ret (v := .agg #[.int .i64 8, .int .i64 0, .int .i64 k, .int .i64 0, .int .u32 0, .int .i64 0, .string ⟨#[]⟩]) ?_ rfl ⟨rfl, ?_⟩
  · simp [results, Try.results17, go_sem]
  · first | exact below3 _ _ _ _ | exact (below3 _ _ _ _).drew

set_option maxRecDepth 100000 in
set_option maxHeartbeats 2000000 in
theorem pared_9 (i k n len : Int) (u : Nat) (p : ByteArray) (w : World) :
    Calls Try.prog 17 #[.agg #[.int .i64 9, .int .i64 i, .int .i64 k, .int .i64 n, .int .u32 (u : Int), .int .i64 len, .string p]] w fun x w' => x = .returned (.agg #[.int .i64 9, .int .i64 0, .int .i64 k, .int .i64 0, .int .u32 0, .int .i64 0, .string ⟨#[]⟩]) ∧ Below w.heap.size w w' := by
  go_enter Try.func17, Try.ntmps17
  go_wp2_with fail
  refine bodyPost_ret (v := .agg #[.int .i64 9, .int .i64 0, .int .i64 k, .int .i64 0, .int .u32 0, .int .i64 0, .string ⟨#[]⟩]) ?_ rfl ⟨rfl, ?_⟩
  · simp [results, Try.results17, go_sem]
  · first | exact below3 _ _ _ _ | exact (below3 _ _ _ _).drew

set_option maxRecDepth 100000 in
set_option maxHeartbeats 2000000 in
theorem pared_10 (i k n len : Int) (u : Nat) (p : ByteArray) (w : World) :
    Calls Try.prog 17 #[.agg #[.int .i64 10, .int .i64 i, .int .i64 k, .int .i64 n, .int .u32 (u : Int), .int .i64 len, .string p]] w fun x w' => x = .returned (.agg #[.int .i64 10, .int .i64 0, .int .i64 0, .int .i64 0, .int .u32 0, .int .i64 0, .string ⟨#[]⟩]) ∧ Below w.heap.size w w' := by
  go_enter Try.func17, Try.ntmps17
  go_wp2_with fail
  refine bodyPost_ret (v := .agg #[.int .i64 10, .int .i64 0, .int .i64 0, .int .i64 0, .int .u32 0, .int .i64 0, .string ⟨#[]⟩]) ?_ rfl ⟨rfl, ?_⟩
  · simp [results, Try.results17, go_sem]
  · first | exact below3 _ _ _ _ | exact (below3 _ _ _ _).drew
end Go.Proofs.Ytnpocnfmekgieaa
