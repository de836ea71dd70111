/-
  The statement's own Right: a condition fails.
-/
import Derived.Test.YtnpocnfmekgieaaScL
import Derived.Deep.DeepCutAuto
namespace Go.Proofs.Ytnpocnfmekgieaa
open Go.RowKit Go.Maps Sc

set_option maxRecDepth 100000 in
set_option maxHeartbeats 4000000 in
theorem lr_0 (e : Ev) (s : ByteArray) (hs : s = ⟨e.p.toArray⟩) (ha : e.a < 4294967296) (h0 : decide (e.kind < 0) = true) (w : World) :
    Calls Try.prog 10 #[.agg (ecs e)] w fun x w' => x = .returned (.bool false) ∧ Below w.heap.size w w' := by
  obtain ⟨kind, i, k, n, a, len, p⟩ := e
  simp only at *
  have e0 : ecs ⟨kind, i, k, n, a, len, p⟩ = #[.int .i64 kind, .int .i64 i, .int .i64 k, .int .i64 n, .int .u32 (a : Nat), .int .i64 len, .string s] := by rw [hs]; rfl
  rw [e0]
  clear e0
  clear hs
  have C := Blk.new w 30 #[.int .i64 kind, .int .i64 i, .int .i64 k, .int .i64 n, .int .u32 (a : Nat), .int .i64 len, .string s]
  have hb0 := below_new w (.cells #[.int .i64 kind, .int .i64 i, .int .i64 k, .int .i64 n, .int .u32 (a : Nat), .int .i64 len, .string s] 30)
  have HB := Lib.hid (And.intro C hb0)
  clear C hb0
  go_enter Try.func10, Try.ntmps10
  go_wp2_with fail
  go_ret
  exact ⟨rfl, HB.out.2⟩

set_option maxRecDepth 100000 in
set_option maxHeartbeats 4000000 in
theorem lr_1 (e : Ev) (s : ByteArray) (hs : s = ⟨e.p.toArray⟩) (ha : e.a < 4294967296) (h0 : decide (e.kind < 0) = false) (h1 : decide (10 < e.kind) = true) (w : World) :
    Calls Try.prog 10 #[.agg (ecs e)] w fun x w' => x = .returned (.bool false) ∧ Below w.heap.size w w' := by
  obtain ⟨kind, i, k, n, a, len, p⟩ := e
  simp only at *
  have e0 : ecs ⟨kind, i, k, n, a, len, p⟩ = #[.int .i64 kind, .int .i64 i, .int .i64 k, .int .i64 n, .int .u32 (a : Nat), .int .i64 len, .string s] := by rw [hs]; rfl
  rw [e0]
  clear e0
  clear hs
  have C := Blk.new w 30 #[.int .i64 kind, .int .i64 i, .int .i64 k, .int .i64 n, .int .u32 (a : Nat), .int .i64 len, .string s]
  have hb0 := below_new w (.cells #[.int .i64 kind, .int .i64 i, .int .i64 k, .int .i64 n, .int .u32 (a : Nat), .int .i64 len, .string s] 30)
  have HB := Lib.hid (And.intro C hb0)
  clear C hb0
  go_enter Try.func10, Try.ntmps10
  go_wp2_with fail
  go_ret
  exact ⟨rfl, HB.out.2⟩

set_option maxRecDepth 100000 in
set_option maxHeartbeats 4000000 in
theorem lr_2 (e : Ev) (s : ByteArray) (hs : s = ⟨e.p.toArray⟩) (ha : e.a < 4294967296) (h0 : decide (e.kind < 0) = false) (h1 : decide (10 < e.kind) = false) (h2 : Am.right e.a e.len = false) (w : World) :
    Calls Try.prog 10 #[.agg (ecs e)] w fun x w' => x = .returned (.bool false) ∧ Below w.heap.size w w' := by
  have HR := fun u => refRight_eq ha h2 u
  clear h2
  obtain ⟨kind, i, k, n, a, len, p⟩ := e
  simp only at *
  have e0 : ecs ⟨kind, i, k, n, a, len, p⟩ = #[.int .i64 kind, .int .i64 i, .int .i64 k, .int .i64 n, .int .u32 (a : Nat), .int .i64 len, .string s] := by rw [hs]; rfl
  rw [e0]
  clear e0
  clear hs
  have C := Blk.new w 30 #[.int .i64 kind, .int .i64 i, .int .i64 k, .int .i64 n, .int .u32 (a : Nat), .int .i64 len, .string s]
  have hb0 := below_new w (.cells #[.int .i64 kind, .int .i64 i, .int .i64 k, .int .i64 n, .int .u32 (a : Nat), .int .i64 len, .string s] 30)
  have HB := Lib.hid (And.intro C hb0)
  clear C hb0
  go_enter Try.func10, Try.ntmps10
  go_wp2_with fail
  generalize w.alloc _ = w1 at *
  refine (HR _).mono ?_
  rintro e5 w5 ⟨rfl, hb5⟩
  have C5 := HB.out.1.held hb5
  have HB5 := Lib.hid (next HB.out.2 hb5)
  clear HB hb5 HR
  have c0 : w5.cell? ⟨w.heap.size, 0, none⟩ = some (.int .i64 kind) := C5.at_ 0
  have c1 : w5.cell? ⟨w.heap.size, 1, none⟩ = some (.int .i64 i) := C5.at_ 1
  have c2 : w5.cell? ⟨w.heap.size, 2, none⟩ = some (.int .i64 k) := C5.at_ 2
  have c3 : w5.cell? ⟨w.heap.size, 3, none⟩ = some (.int .i64 n) := C5.at_ 3
  have c4 : w5.cell? ⟨w.heap.size, 4, none⟩ = some (.int .u32 (a : Nat)) := C5.at_ 4
  have c5 : w5.cell? ⟨w.heap.size, 5, none⟩ = some (.int .i64 len) := C5.at_ 5
  have c6 : w5.cell? ⟨w.heap.size, 6, none⟩ = some (.string s) := C5.at_ 6
  have hlt5 : w.heap.size < w5.heap.size := C5.lt
  clear C5
  go_wp2_with fail
  go_ret
  exact ⟨rfl, HB5.out⟩

set_option maxRecDepth 100000 in
set_option maxHeartbeats 4000000 in
theorem lr_3 (e : Ev) (s : ByteArray) (hs : s = ⟨e.p.toArray⟩) (ha : e.a < 4294967296) (h0 : decide (e.kind < 0) = false) (h1 : decide (10 < e.kind) = false) (h2 : Am.right e.a e.len = true) (h3 : decide ((240 : Int) < (s.size : Int)) = true) (w : World) :
    Calls Try.prog 10 #[.agg (ecs e)] w fun x w' => x = .returned (.bool false) ∧ Below w.heap.size w w' := by
  have HR := fun u => refRight_eq ha h2 u
  clear h2
  obtain ⟨kind, i, k, n, a, len, p⟩ := e
  simp only at *
  have e0 : ecs ⟨kind, i, k, n, a, len, p⟩ = #[.int .i64 kind, .int .i64 i, .int .i64 k, .int .i64 n, .int .u32 (a : Nat), .int .i64 len, .string s] := by rw [hs]; rfl
  rw [e0]
  clear e0
  clear hs
  have C := Blk.new w 30 #[.int .i64 kind, .int .i64 i, .int .i64 k, .int .i64 n, .int .u32 (a : Nat), .int .i64 len, .string s]
  have hb0 := below_new w (.cells #[.int .i64 kind, .int .i64 i, .int .i64 k, .int .i64 n, .int .u32 (a : Nat), .int .i64 len, .string s] 30)
  have HB := Lib.hid (And.intro C hb0)
  clear C hb0
  go_enter Try.func10, Try.ntmps10
  go_wp2_with fail
  generalize w.alloc _ = w1 at *
  refine (HR _).mono ?_
  rintro e5 w5 ⟨rfl, hb5⟩
  have C5 := HB.out.1.held hb5
  have HB5 := Lib.hid (next HB.out.2 hb5)
  clear HB hb5 HR
  have c0 : w5.cell? ⟨w.heap.size, 0, none⟩ = some (.int .i64 kind) := C5.at_ 0
  have c1 : w5.cell? ⟨w.heap.size, 1, none⟩ = some (.int .i64 i) := C5.at_ 1
  have c2 : w5.cell? ⟨w.heap.size, 2, none⟩ = some (.int .i64 k) := C5.at_ 2
  have c3 : w5.cell? ⟨w.heap.size, 3, none⟩ = some (.int .i64 n) := C5.at_ 3
  have c4 : w5.cell? ⟨w.heap.size, 4, none⟩ = some (.int .u32 (a : Nat)) := C5.at_ 4
  have c5 : w5.cell? ⟨w.heap.size, 5, none⟩ = some (.int .i64 len) := C5.at_ 5
  have c6 : w5.cell? ⟨w.heap.size, 6, none⟩ = some (.string s) := C5.at_ 6
  have hlt5 : w.heap.size < w5.heap.size := C5.lt
  clear C5
  go_wp2_with fail
  go_ret
  exact ⟨rfl, HB5.out⟩

set_option maxRecDepth 100000 in
set_option maxHeartbeats 4000000 in
theorem lr_4 (e : Ev) (s : ByteArray) (hs : s = ⟨e.p.toArray⟩) (ha : e.a < 4294967296) (h0 : decide (e.kind < 0) = false) (h1 : decide (10 < e.kind) = false) (h2 : Am.right e.a e.len = true) (h3 : decide ((240 : Int) < (s.size : Int)) = false) (h4 : ((s.size : Int) % 6 != 0) = true) (w : World) :
    Calls Try.prog 10 #[.agg (ecs e)] w fun x w' => x = .returned (.bool false) ∧ Below w.heap.size w w' := by
  have HR := fun u => refRight_eq ha h2 u
  clear h2
  obtain ⟨kind, i, k, n, a, len, p⟩ := e
  simp only at *
  have e0 : ecs ⟨kind, i, k, n, a, len, p⟩ = #[.int .i64 kind, .int .i64 i, .int .i64 k, .int .i64 n, .int .u32 (a : Nat), .int .i64 len, .string s] := by rw [hs]; rfl
  rw [e0]
  clear e0
  clear hs
  have C := Blk.new w 30 #[.int .i64 kind, .int .i64 i, .int .i64 k, .int .i64 n, .int .u32 (a : Nat), .int .i64 len, .string s]
  have hb0 := below_new w (.cells #[.int .i64 kind, .int .i64 i, .int .i64 k, .int .i64 n, .int .u32 (a : Nat), .int .i64 len, .string s] 30)
  have HB := Lib.hid (And.intro C hb0)
  clear C hb0
  go_enter Try.func10, Try.ntmps10
  go_wp2_with fail
  generalize w.alloc _ = w1 at *
  refine (HR _).mono ?_
  rintro e5 w5 ⟨rfl, hb5⟩
  have C5 := HB.out.1.held hb5
  have HB5 := Lib.hid (next HB.out.2 hb5)
  clear HB hb5 HR
  have c0 : w5.cell? ⟨w.heap.size, 0, none⟩ = some (.int .i64 kind) := C5.at_ 0
  have c1 : w5.cell? ⟨w.heap.size, 1, none⟩ = some (.int .i64 i) := C5.at_ 1
  have c2 : w5.cell? ⟨w.heap.size, 2, none⟩ = some (.int .i64 k) := C5.at_ 2
  have c3 : w5.cell? ⟨w.heap.size, 3, none⟩ = some (.int .i64 n) := C5.at_ 3
  have c4 : w5.cell? ⟨w.heap.size, 4, none⟩ = some (.int .u32 (a : Nat)) := C5.at_ 4
  have c5 : w5.cell? ⟨w.heap.size, 5, none⟩ = some (.int .i64 len) := C5.at_ 5
  have c6 : w5.cell? ⟨w.heap.size, 6, none⟩ = some (.string s) := C5.at_ 6
  have hlt5 : w.heap.size < w5.heap.size := C5.lt
  clear C5
  go_wp2_with fail
  go_ret
  exact ⟨rfl, HB5.out⟩

set_option maxRecDepth 100000 in
set_option maxHeartbeats 4000000 in
theorem lr_5 (e : Ev) (s : ByteArray) (hs : s = ⟨e.p.toArray⟩) (ha : e.a < 4294967296) (h0 : decide (e.kind < 0) = false) (h1 : decide (10 < e.kind) = false) (h2 : Am.right e.a e.len = true) (h3 : decide ((240 : Int) < (s.size : Int)) = false) (h4 : ((s.size : Int) % 6 != 0) = false) (h5 : decide (e.i < 0) = true) (w : World) :
    Calls Try.prog 10 #[.agg (ecs e)] w fun x w' => x = .returned (.bool false) ∧ Below w.heap.size w w' := by
  have HR := fun u => refRight_eq ha h2 u
  clear h2
  obtain ⟨kind, i, k, n, a, len, p⟩ := e
  simp only at *
  have e0 : ecs ⟨kind, i, k, n, a, len, p⟩ = #[.int .i64 kind, .int .i64 i, .int .i64 k, .int .i64 n, .int .u32 (a : Nat), .int .i64 len, .string s] := by rw [hs]; rfl
  rw [e0]
  clear e0
  clear hs
  have C := Blk.new w 30 #[.int .i64 kind, .int .i64 i, .int .i64 k, .int .i64 n, .int .u32 (a : Nat), .int .i64 len, .string s]
  have hb0 := below_new w (.cells #[.int .i64 kind, .int .i64 i, .int .i64 k, .int .i64 n, .int .u32 (a : Nat), .int .i64 len, .string s] 30)
  have HB := Lib.hid (And.intro C hb0)
  clear C hb0
  go_enter Try.func10, Try.ntmps10
  go_wp2_with fail
  generalize w.alloc _ = w1 at *
  refine (HR _).mono ?_
  rintro e5 w5 ⟨rfl, hb5⟩
  have C5 := HB.out.1.held hb5
  have HB5 := Lib.hid (next HB.out.2 hb5)
  clear HB hb5 HR
  have c0 : w5.cell? ⟨w.heap.size, 0, none⟩ = some (.int .i64 kind) := C5.at_ 0
  have c1 : w5.cell? ⟨w.heap.size, 1, none⟩ = some (.int .i64 i) := C5.at_ 1
  have c2 : w5.cell? ⟨w.heap.size, 2, none⟩ = some (.int .i64 k) := C5.at_ 2
  have c3 : w5.cell? ⟨w.heap.size, 3, none⟩ = some (.int .i64 n) := C5.at_ 3
  have c4 : w5.cell? ⟨w.heap.size, 4, none⟩ = some (.int .u32 (a : Nat)) := C5.at_ 4
  have c5 : w5.cell? ⟨w.heap.size, 5, none⟩ = some (.int .i64 len) := C5.at_ 5
  have c6 : w5.cell? ⟨w.heap.size, 6, none⟩ = some (.string s) := C5.at_ 6
  have hlt5 : w.heap.size < w5.heap.size := C5.lt
  clear C5
  go_wp2_with fail
  go_ret
  exact ⟨rfl, HB5.out⟩

set_option maxRecDepth 100000 in
set_option maxHeartbeats 4000000 in
theorem lr_6 (e : Ev) (s : ByteArray) (hs : s = ⟨e.p.toArray⟩) (ha : e.a < 4294967296) (h0 : decide (e.kind < 0) = false) (h1 : decide (10 < e.kind) = false) (h2 : Am.right e.a e.len = true) (h3 : decide ((240 : Int) < (s.size : Int)) = false) (h4 : ((s.size : Int) % 6 != 0) = false) (h5 : decide (e.i < 0) = false) (h6 : decide (65536 < e.i) = true) (w : World) :
    Calls Try.prog 10 #[.agg (ecs e)] w fun x w' => x = .returned (.bool false) ∧ Below w.heap.size w w' := by
  have HR := fun u => refRight_eq ha h2 u
  clear h2
  obtain ⟨kind, i, k, n, a, len, p⟩ := e
  simp only at *
  have e0 : ecs ⟨kind, i, k, n, a, len, p⟩ = #[.int .i64 kind, .int .i64 i, .int .i64 k, .int .i64 n, .int .u32 (a : Nat), .int .i64 len, .string s] := by rw [hs]; rfl
  rw [e0]
  clear e0
  clear hs
  have C := Blk.new w 30 #[.int .i64 kind, .int .i64 i, .int .i64 k, .int .i64 n, .int .u32 (a : Nat), .int .i64 len, .string s]
  have hb0 := below_new w (.cells #[.int .i64 kind, .int .i64 i, .int .i64 k, .int .i64 n, .int .u32 (a : Nat), .int .i64 len, .string s] 30)
  have HB := Lib.hid (And.intro C hb0)
  clear C hb0
  go_enter Try.func10, Try.ntmps10
  go_wp2_with fail
  generalize w.alloc _ = w1 at *
  refine (HR _).mono ?_
  rintro e5 w5 ⟨rfl, hb5⟩
  have C5 := HB.out.1.held hb5
  have HB5 := Lib.hid (next HB.out.2 hb5)
  clear HB hb5 HR
  have c0 : w5.cell? ⟨w.heap.size, 0, none⟩ = some (.int .i64 kind) := C5.at_ 0
  have c1 : w5.cell? ⟨w.heap.size, 1, none⟩ = some (.int .i64 i) := C5.at_ 1
  have c2 : w5.cell? ⟨w.heap.size, 2, none⟩ = some (.int .i64 k) := C5.at_ 2
  have c3 : w5.cell? ⟨w.heap.size, 3, none⟩ = some (.int .i64 n) := C5.at_ 3
  have c4 : w5.cell? ⟨w.heap.size, 4, none⟩ = some (.int .u32 (a : Nat)) := C5.at_ 4
  have c5 : w5.cell? ⟨w.heap.size, 5, none⟩ = some (.int .i64 len) := C5.at_ 5
  have c6 : w5.cell? ⟨w.heap.size, 6, none⟩ = some (.string s) := C5.at_ 6
  have hlt5 : w.heap.size < w5.heap.size := C5.lt
  clear C5
  go_wp2_with fail
  go_ret
  exact ⟨rfl, HB5.out⟩

set_option maxRecDepth 100000 in
set_option maxHeartbeats 4000000 in
theorem lr_7 (e : Ev) (s : ByteArray) (hs : s = ⟨e.p.toArray⟩) (ha : e.a < 4294967296) (h0 : decide (e.kind < 0) = false) (h1 : decide (10 < e.kind) = false) (h2 : Am.right e.a e.len = true) (h3 : decide ((240 : Int) < (s.size : Int)) = false) (h4 : ((s.size : Int) % 6 != 0) = false) (h5 : decide (e.i < 0) = false) (h6 : decide (65536 < e.i) = false) (h7 : decide (e.k < 0) = true) (w : World) :
    Calls Try.prog 10 #[.agg (ecs e)] w fun x w' => x = .returned (.bool false) ∧ Below w.heap.size w w' := by
  have HR := fun u => refRight_eq ha h2 u
  clear h2
  obtain ⟨kind, i, k, n, a, len, p⟩ := e
  simp only at *
  have e0 : ecs ⟨kind, i, k, n, a, len, p⟩ = #[.int .i64 kind, .int .i64 i, .int .i64 k, .int .i64 n, .int .u32 (a : Nat), .int .i64 len, .string s] := by rw [hs]; rfl
  rw [e0]
  clear e0
  clear hs
  have C := Blk.new w 30 #[.int .i64 kind, .int .i64 i, .int .i64 k, .int .i64 n, .int .u32 (a : Nat), .int .i64 len, .string s]
  have hb0 := below_new w (.cells #[.int .i64 kind, .int .i64 i, .int .i64 k, .int .i64 n, .int .u32 (a : Nat), .int .i64 len, .string s] 30)
  have HB := Lib.hid (And.intro C hb0)
  clear C hb0
  go_enter Try.func10, Try.ntmps10
  go_wp2_with fail
  generalize w.alloc _ = w1 at *
  refine (HR _).mono ?_
  rintro e5 w5 ⟨rfl, hb5⟩
  have C5 := HB.out.1.held hb5
  have HB5 := Lib.hid (next HB.out.2 hb5)
  clear HB hb5 HR
  have c0 : w5.cell? ⟨w.heap.size, 0, none⟩ = some (.int .i64 kind) := C5.at_ 0
  have c1 : w5.cell? ⟨w.heap.size, 1, none⟩ = some (.int .i64 i) := C5.at_ 1
  have c2 : w5.cell? ⟨w.heap.size, 2, none⟩ = some (.int .i64 k) := C5.at_ 2
  have c3 : w5.cell? ⟨w.heap.size, 3, none⟩ = some (.int .i64 n) := C5.at_ 3
  have c4 : w5.cell? ⟨w.heap.size, 4, none⟩ = some (.int .u32 (a : Nat)) := C5.at_ 4
  have c5 : w5.cell? ⟨w.heap.size, 5, none⟩ = some (.int .i64 len) := C5.at_ 5
  have c6 : w5.cell? ⟨w.heap.size, 6, none⟩ = some (.string s) := C5.at_ 6
  have hlt5 : w.heap.size < w5.heap.size := C5.lt
  clear C5
  go_wp2_with fail
  go_ret
  exact ⟨rfl, HB5.out⟩

set_option maxRecDepth 100000 in
set_option maxHeartbeats 4000000 in
theorem lr_8 (e : Ev) (s : ByteArray) (hs : s = ⟨e.p.toArray⟩) (ha : e.a < 4294967296) (h0 : decide (e.kind < 0) = false) (h1 : decide (10 < e.kind) = false) (h2 : Am.right e.a e.len = true) (h3 : decide ((240 : Int) < (s.size : Int)) = false) (h4 : ((s.size : Int) % 6 != 0) = false) (h5 : decide (e.i < 0) = false) (h6 : decide (65536 < e.i) = false) (h7 : decide (e.k < 0) = false) (h8 : decide (65536 < e.k) = true) (w : World) :
    Calls Try.prog 10 #[.agg (ecs e)] w fun x w' => x = .returned (.bool false) ∧ Below w.heap.size w w' := by
  have HR := fun u => refRight_eq ha h2 u
  clear h2
  obtain ⟨kind, i, k, n, a, len, p⟩ := e
  simp only at *
  have e0 : ecs ⟨kind, i, k, n, a, len, p⟩ = #[.int .i64 kind, .int .i64 i, .int .i64 k, .int .i64 n, .int .u32 (a : Nat), .int .i64 len, .string s] := by rw [hs]; rfl
  rw [e0]
  clear e0
  clear hs
  have C := Blk.new w 30 #[.int .i64 kind, .int .i64 i, .int .i64 k, .int .i64 n, .int .u32 (a : Nat), .int .i64 len, .string s]
  have hb0 := below_new w (.cells #[.int .i64 kind, .int .i64 i, .int .i64 k, .int .i64 n, .int .u32 (a : Nat), .int .i64 len, .string s] 30)
  have HB := Lib.hid (And.intro C hb0)
  clear C hb0
  go_enter Try.func10, Try.ntmps10
  go_wp2_with fail
  generalize w.alloc _ = w1 at *
  refine (HR _).mono ?_
  rintro e5 w5 ⟨rfl, hb5⟩
  have C5 := HB.out.1.held hb5
  have HB5 := Lib.hid (next HB.out.2 hb5)
  clear HB hb5 HR
  have c0 : w5.cell? ⟨w.heap.size, 0, none⟩ = some (.int .i64 kind) := C5.at_ 0
  have c1 : w5.cell? ⟨w.heap.size, 1, none⟩ = some (.int .i64 i) := C5.at_ 1
  have c2 : w5.cell? ⟨w.heap.size, 2, none⟩ = some (.int .i64 k) := C5.at_ 2
  have c3 : w5.cell? ⟨w.heap.size, 3, none⟩ = some (.int .i64 n) := C5.at_ 3
  have c4 : w5.cell? ⟨w.heap.size, 4, none⟩ = some (.int .u32 (a : Nat)) := C5.at_ 4
  have c5 : w5.cell? ⟨w.heap.size, 5, none⟩ = some (.int .i64 len) := C5.at_ 5
  have c6 : w5.cell? ⟨w.heap.size, 6, none⟩ = some (.string s) := C5.at_ 6
  have hlt5 : w.heap.size < w5.heap.size := C5.lt
  clear C5
  go_wp2_with fail
  go_ret
  exact ⟨rfl, HB5.out⟩

set_option maxRecDepth 100000 in
set_option maxHeartbeats 4000000 in
theorem lr_9 (e : Ev) (s : ByteArray) (hs : s = ⟨e.p.toArray⟩) (ha : e.a < 4294967296) (h0 : decide (e.kind < 0) = false) (h1 : decide (10 < e.kind) = false) (h2 : Am.right e.a e.len = true) (h3 : decide ((240 : Int) < (s.size : Int)) = false) (h4 : ((s.size : Int) % 6 != 0) = false) (h5 : decide (e.i < 0) = false) (h6 : decide (65536 < e.i) = false) (h7 : decide (e.k < 0) = false) (h8 : decide (65536 < e.k) = false) (h9 : decide (e.n < 0) = true) (w : World) :
    Calls Try.prog 10 #[.agg (ecs e)] w fun x w' => x = .returned (.bool false) ∧ Below w.heap.size w w' := by
  have HR := fun u => refRight_eq ha h2 u
  clear h2
  obtain ⟨kind, i, k, n, a, len, p⟩ := e
  simp only at *
  have e0 : ecs ⟨kind, i, k, n, a, len, p⟩ = #[.int .i64 kind, .int .i64 i, .int .i64 k, .int .i64 n, .int .u32 (a : Nat), .int .i64 len, .string s] := by rw [hs]; rfl
  rw [e0]
  clear e0
  clear hs
  have C := Blk.new w 30 #[.int .i64 kind, .int .i64 i, .int .i64 k, .int .i64 n, .int .u32 (a : Nat), .int .i64 len, .string s]
  have hb0 := below_new w (.cells #[.int .i64 kind, .int .i64 i, .int .i64 k, .int .i64 n, .int .u32 (a : Nat), .int .i64 len, .string s] 30)
  have HB := Lib.hid (And.intro C hb0)
  clear C hb0
  go_enter Try.func10, Try.ntmps10
  go_wp2_with fail
  generalize w.alloc _ = w1 at *
  refine (HR _).mono ?_
  rintro e5 w5 ⟨rfl, hb5⟩
  have C5 := HB.out.1.held hb5
  have HB5 := Lib.hid (next HB.out.2 hb5)
  clear HB hb5 HR
  have c0 : w5.cell? ⟨w.heap.size, 0, none⟩ = some (.int .i64 kind) := C5.at_ 0
  have c1 : w5.cell? ⟨w.heap.size, 1, none⟩ = some (.int .i64 i) := C5.at_ 1
  have c2 : w5.cell? ⟨w.heap.size, 2, none⟩ = some (.int .i64 k) := C5.at_ 2
  have c3 : w5.cell? ⟨w.heap.size, 3, none⟩ = some (.int .i64 n) := C5.at_ 3
  have c4 : w5.cell? ⟨w.heap.size, 4, none⟩ = some (.int .u32 (a : Nat)) := C5.at_ 4
  have c5 : w5.cell? ⟨w.heap.size, 5, none⟩ = some (.int .i64 len) := C5.at_ 5
  have c6 : w5.cell? ⟨w.heap.size, 6, none⟩ = some (.string s) := C5.at_ 6
  have hlt5 : w.heap.size < w5.heap.size := C5.lt
  clear C5
  go_wp2_with fail
  go_ret
  exact ⟨rfl, HB5.out⟩

set_option maxRecDepth 100000 in
set_option maxHeartbeats 4000000 in
theorem lr_10 (e : Ev) (s : ByteArray) (hs : s = ⟨e.p.toArray⟩) (ha : e.a < 4294967296) (h0 : decide (e.kind < 0) = false) (h1 : decide (10 < e.kind) = false) (h2 : Am.right e.a e.len = true) (h3 : decide ((240 : Int) < (s.size : Int)) = false) (h4 : ((s.size : Int) % 6 != 0) = false) (h5 : decide (e.i < 0) = false) (h6 : decide (65536 < e.i) = false) (h7 : decide (e.k < 0) = false) (h8 : decide (65536 < e.k) = false) (h9 : decide (e.n < 0) = false) (h10 : decide (65536 < e.n) = true) (w : World) :
    Calls Try.prog 10 #[.agg (ecs e)] w fun x w' => x = .returned (.bool false) ∧ Below w.heap.size w w' := by
  have HR := fun u => refRight_eq ha h2 u
  clear h2
  obtain ⟨kind, i, k, n, a, len, p⟩ := e
  simp only at *
  have e0 : ecs ⟨kind, i, k, n, a, len, p⟩ = #[.int .i64 kind, .int .i64 i, .int .i64 k, .int .i64 n, .int .u32 (a : Nat), .int .i64 len, .string s] := by rw [hs]; rfl
  rw [e0]
  clear e0
  clear hs
  have C := Blk.new w 30 #[.int .i64 kind, .int .i64 i, .int .i64 k, .int .i64 n, .int .u32 (a : Nat), .int .i64 len, .string s]
  have hb0 := below_new w (.cells #[.int .i64 kind, .int .i64 i, .int .i64 k, .int .i64 n, .int .u32 (a : Nat), .int .i64 len, .string s] 30)
  have HB := Lib.hid (And.intro C hb0)
  clear C hb0
  go_enter Try.func10, Try.ntmps10
  go_wp2_with fail
  generalize w.alloc _ = w1 at *
  refine (HR _).mono ?_
  rintro e5 w5 ⟨rfl, hb5⟩
  have C5 := HB.out.1.held hb5
  have HB5 := Lib.hid (next HB.out.2 hb5)
  clear HB hb5 HR
  have c0 : w5.cell? ⟨w.heap.size, 0, none⟩ = some (.int .i64 kind) := C5.at_ 0
  have c1 : w5.cell? ⟨w.heap.size, 1, none⟩ = some (.int .i64 i) := C5.at_ 1
  have c2 : w5.cell? ⟨w.heap.size, 2, none⟩ = some (.int .i64 k) := C5.at_ 2
  have c3 : w5.cell? ⟨w.heap.size, 3, none⟩ = some (.int .i64 n) := C5.at_ 3
  have c4 : w5.cell? ⟨w.heap.size, 4, none⟩ = some (.int .u32 (a : Nat)) := C5.at_ 4
  have c5 : w5.cell? ⟨w.heap.size, 5, none⟩ = some (.int .i64 len) := C5.at_ 5
  have c6 : w5.cell? ⟨w.heap.size, 6, none⟩ = some (.string s) := C5.at_ 6
  have hlt5 : w.heap.size < w5.heap.size := C5.lt
  clear C5
  go_wp2_with fail
  go_ret
  exact ⟨rfl, HB5.out⟩
end Go.Proofs.Ytnpocnfmekgieaa
