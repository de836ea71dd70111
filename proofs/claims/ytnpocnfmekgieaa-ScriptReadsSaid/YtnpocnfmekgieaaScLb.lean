/-
  The statement's own Right: kinds 0 to 5.
-/
import Derived.Test.YtnpocnfmekgieaaScL
import Derived.Deep.DeepCutAuto
namespace Go.Proofs.Ytnpocnfmekgieaa
open Go.RowKit Go.Maps Sc

set_option maxRecDepth 100000 in
set_option maxHeartbeats 4000000 in
theorem lrk_0 (e : Ev) (s : ByteArray) (hs : s = ⟨e.p.toArray⟩) (ha : e.a < 4294967296) (h0 : decide (e.kind < 0) = false) (h1 : decide (10 < e.kind) = false) (h2 : Am.right e.a e.len = true) (h3 : decide ((240 : Int) < (s.size : Int)) = false) (h4 : ((s.size : Int) % 6 != 0) = false) (h5 : decide (e.i < 0) = false) (h6 : decide (65536 < e.i) = false) (h7 : decide (e.k < 0) = false) (h8 : decide (65536 < e.k) = false) (h9 : decide (e.n < 0) = false) (h10 : decide (65536 < e.n) = false) (hk : e.kind = 0) (w : World) :
    Calls Try.prog 10 #[.agg (ecs e)] w fun x w' => x = .returned (.bool (bare e)) ∧ Below w.heap.size w w' := by
  have HR := fun u => refRight_eq ha h2 u
  clear h2
  obtain ⟨kind, i, k, n, a, len, p⟩ := e
  simp only at *
  have e0 : ecs ⟨kind, i, k, n, a, len, p⟩ = #[.int .i64 kind, .int .i64 i, .int .i64 k, .int .i64 n, .int .u32 (a : Nat), .int .i64 len, .string s] := by rw [hs]; rfl
  rw [e0]
  clear e0
  subst hk
  have E : bare ⟨0, i, k, n, a, len, p⟩ = ((k == 0) && (n == 0) && (a == 0 && len == 0) && p.isEmpty) := by unfold bare; simp [hasI, hasK, hasN, hasP, hasS]
  rw [E]
  clear E
  have hqp := fun u => eql_pz a len u
  generalize (a == 0 && len == 0) = bp at *
  have hqs := fun u => eql_s0 s p hs u
  have hse := Lib.hid (show p.isEmpty = decide (s.toList = []) by rw [hs]; cases p <;> simp)
  generalize p.isEmpty = bs at *
  clear hs
  have C := Blk.new w 30 #[.int .i64 0, .int .i64 i, .int .i64 k, .int .i64 n, .int .u32 (a : Nat), .int .i64 len, .string s]
  have hb0 := below_new w (.cells #[.int .i64 0, .int .i64 i, .int .i64 k, .int .i64 n, .int .u32 (a : Nat), .int .i64 len, .string s] 30)
  have HB := Lib.hid (And.intro C hb0)
  clear C hb0
  go_enter Try.func10, Try.ntmps10
  go_wp2_with fail
  generalize w.alloc _ = w1 at *
  refine (HR _).mono ?_
  rintro e5 w5 ⟨rfl, hb5⟩
  have C5 := HB.out.1.held hb5
  have HB5 := Lib.hid (next HB.out.2 hb5)
  clear HB hb5 HR
  have c0 : w5.cell? ⟨w.heap.size, 0, none⟩ = some (.int .i64 0) := C5.at_ 0
  have c1 : w5.cell? ⟨w.heap.size, 1, none⟩ = some (.int .i64 i) := C5.at_ 1
  have c2 : w5.cell? ⟨w.heap.size, 2, none⟩ = some (.int .i64 k) := C5.at_ 2
  have c3 : w5.cell? ⟨w.heap.size, 3, none⟩ = some (.int .i64 n) := C5.at_ 3
  have c4 : w5.cell? ⟨w.heap.size, 4, none⟩ = some (.int .u32 (a : Nat)) := C5.at_ 4
  have c5 : w5.cell? ⟨w.heap.size, 5, none⟩ = some (.int .i64 len) := C5.at_ 5
  have c6 : w5.cell? ⟨w.heap.size, 6, none⟩ = some (.string s) := C5.at_ 6
  have hlt5 : w.heap.size < w5.heap.size := C5.lt
  clear C5
  go_upto_region 6 with fail
  cases hx1 : (k == 0)
  · go_wp2_with fail
    go_ret
    exact ⟨ret_bool (by (try rw [hx0]); (try rw [hx1]); (try rw [hx2]); first | (simp; done) | (simp; have t := hse.out; simp at t; exact t)), next HB5.out (next (below_new _ _) (below_new _ _))⟩
  cases hx2 : (n == 0)
  · go_wp2_with fail
    go_ret
    exact ⟨ret_bool (by (try rw [hx0]); (try rw [hx1]); (try rw [hx2]); first | (simp; done) | (simp; have t := hse.out; simp at t; exact t)), next HB5.out (next (below_new _ _) (below_new _ _))⟩
  cases bp
  · go_wp2_with fail
    go_ret
    exact ⟨ret_bool (by (try rw [hx0]); (try rw [hx1]); (try rw [hx2]); first | (simp; done) | (simp; have t := hse.out; simp at t; exact t)), next HB5.out (next (below_new _ _) (below_new _ _))⟩
  cases bs
  · go_wp2_with fail
    go_ret
    exact ⟨ret_bool (by (try rw [hx0]); (try rw [hx1]); (try rw [hx2]); first | (simp; done) | (simp; have t := hse.out; simp at t; exact t)), next HB5.out (next (below_new _ _) (below_new _ _))⟩
  go_wp2_with fail
  go_ret
  exact ⟨ret_bool (by (try rw [hx0]); (try rw [hx1]); (try rw [hx2]); first | (simp; done) | (simp; have t := hse.out; simp at t; exact t)), next HB5.out (next (below_new _ _) (below_new _ _))⟩

set_option maxRecDepth 100000 in
set_option maxHeartbeats 4000000 in
theorem lrk_1 (e : Ev) (s : ByteArray) (hs : s = ⟨e.p.toArray⟩) (ha : e.a < 4294967296) (h0 : decide (e.kind < 0) = false) (h1 : decide (10 < e.kind) = false) (h2 : Am.right e.a e.len = true) (h3 : decide ((240 : Int) < (s.size : Int)) = false) (h4 : ((s.size : Int) % 6 != 0) = false) (h5 : decide (e.i < 0) = false) (h6 : decide (65536 < e.i) = false) (h7 : decide (e.k < 0) = false) (h8 : decide (65536 < e.k) = false) (h9 : decide (e.n < 0) = false) (h10 : decide (65536 < e.n) = false) (hk : e.kind = 1) (w : World) :
    Calls Try.prog 10 #[.agg (ecs e)] w fun x w' => x = .returned (.bool (bare e)) ∧ Below w.heap.size w w' := by
  have HR := fun u => refRight_eq ha h2 u
  clear h2
  obtain ⟨kind, i, k, n, a, len, p⟩ := e
  simp only at *
  have e0 : ecs ⟨kind, i, k, n, a, len, p⟩ = #[.int .i64 kind, .int .i64 i, .int .i64 k, .int .i64 n, .int .u32 (a : Nat), .int .i64 len, .string s] := by rw [hs]; rfl
  rw [e0]
  clear e0
  subst hk
  have E : bare ⟨1, i, k, n, a, len, p⟩ = ((k == 0) && (n == 0) && (a == 0 && len == 0)) := by unfold bare; simp [hasI, hasK, hasN, hasP, hasS]
  rw [E]
  clear E
  have hqp := fun u => eql_pz a len u
  generalize (a == 0 && len == 0) = bp at *
  clear hs
  have C := Blk.new w 30 #[.int .i64 1, .int .i64 i, .int .i64 k, .int .i64 n, .int .u32 (a : Nat), .int .i64 len, .string s]
  have hb0 := below_new w (.cells #[.int .i64 1, .int .i64 i, .int .i64 k, .int .i64 n, .int .u32 (a : Nat), .int .i64 len, .string s] 30)
  have HB := Lib.hid (And.intro C hb0)
  clear C hb0
  go_enter Try.func10, Try.ntmps10
  go_wp2_with fail
  generalize w.alloc _ = w1 at *
  refine (HR _).mono ?_
  rintro e5 w5 ⟨rfl, hb5⟩
  have C5 := HB.out.1.held hb5
  have HB5 := Lib.hid (next HB.out.2 hb5)
  clear HB hb5 HR
  have c0 : w5.cell? ⟨w.heap.size, 0, none⟩ = some (.int .i64 1) := C5.at_ 0
  have c1 : w5.cell? ⟨w.heap.size, 1, none⟩ = some (.int .i64 i) := C5.at_ 1
  have c2 : w5.cell? ⟨w.heap.size, 2, none⟩ = some (.int .i64 k) := C5.at_ 2
  have c3 : w5.cell? ⟨w.heap.size, 3, none⟩ = some (.int .i64 n) := C5.at_ 3
  have c4 : w5.cell? ⟨w.heap.size, 4, none⟩ = some (.int .u32 (a : Nat)) := C5.at_ 4
  have c5 : w5.cell? ⟨w.heap.size, 5, none⟩ = some (.int .i64 len) := C5.at_ 5
  have c6 : w5.cell? ⟨w.heap.size, 6, none⟩ = some (.string s) := C5.at_ 6
  have hlt5 : w.heap.size < w5.heap.size := C5.lt
  clear C5
  go_upto_region 6 with fail
  cases hx1 : (k == 0)
  · go_wp2_with fail
    go_ret
    exact ⟨ret_bool (by (try rw [hx0]); (try rw [hx1]); (try rw [hx2]); first | (simp; done) | (simp; have t := hse.out; simp at t; exact t)), next HB5.out (next (below_new _ _) (below_new _ _))⟩
  cases hx2 : (n == 0)
  · go_wp2_with fail
    go_ret
    exact ⟨ret_bool (by (try rw [hx0]); (try rw [hx1]); (try rw [hx2]); first | (simp; done) | (simp; have t := hse.out; simp at t; exact t)), next HB5.out (next (below_new _ _) (below_new _ _))⟩
  cases bp
  · go_wp2_with fail
    go_ret
    exact ⟨ret_bool (by (try rw [hx0]); (try rw [hx1]); (try rw [hx2]); first | (simp; done) | (simp; have t := hse.out; simp at t; exact t)), next HB5.out (next (below_new _ _) (below_new _ _))⟩
  go_wp2_with fail
  go_ret
  exact ⟨ret_bool (by (try rw [hx0]); (try rw [hx1]); (try rw [hx2]); first | (simp; done) | (simp; have t := hse.out; simp at t; exact t)), next HB5.out (next (below_new _ _) (below_new _ _))⟩

set_option maxRecDepth 100000 in
set_option maxHeartbeats 4000000 in
theorem lrk_2 (e : Ev) (s : ByteArray) (hs : s = ⟨e.p.toArray⟩) (ha : e.a < 4294967296) (h0 : decide (e.kind < 0) = false) (h1 : decide (10 < e.kind) = false) (h2 : Am.right e.a e.len = true) (h3 : decide ((240 : Int) < (s.size : Int)) = false) (h4 : ((s.size : Int) % 6 != 0) = false) (h5 : decide (e.i < 0) = false) (h6 : decide (65536 < e.i) = false) (h7 : decide (e.k < 0) = false) (h8 : decide (65536 < e.k) = false) (h9 : decide (e.n < 0) = false) (h10 : decide (65536 < e.n) = false) (hk : e.kind = 2) (w : World) :
    Calls Try.prog 10 #[.agg (ecs e)] w fun x w' => x = .returned (.bool (bare e)) ∧ Below w.heap.size w w' := by
  have HR := fun u => refRight_eq ha h2 u
  clear h2
  obtain ⟨kind, i, k, n, a, len, p⟩ := e
  simp only at *
  have e0 : ecs ⟨kind, i, k, n, a, len, p⟩ = #[.int .i64 kind, .int .i64 i, .int .i64 k, .int .i64 n, .int .u32 (a : Nat), .int .i64 len, .string s] := by rw [hs]; rfl
  rw [e0]
  clear e0
  subst hk
  have E : bare ⟨2, i, k, n, a, len, p⟩ = ((k == 0) && (a == 0 && len == 0) && p.isEmpty) := by unfold bare; simp [hasI, hasK, hasN, hasP, hasS]
  rw [E]
  clear E
  have hqp := fun u => eql_pz a len u
  generalize (a == 0 && len == 0) = bp at *
  have hqs := fun u => eql_s0 s p hs u
  have hse := Lib.hid (show p.isEmpty = decide (s.toList = []) by rw [hs]; cases p <;> simp)
  generalize p.isEmpty = bs at *
  clear hs
  have C := Blk.new w 30 #[.int .i64 2, .int .i64 i, .int .i64 k, .int .i64 n, .int .u32 (a : Nat), .int .i64 len, .string s]
  have hb0 := below_new w (.cells #[.int .i64 2, .int .i64 i, .int .i64 k, .int .i64 n, .int .u32 (a : Nat), .int .i64 len, .string s] 30)
  have HB := Lib.hid (And.intro C hb0)
  clear C hb0
  go_enter Try.func10, Try.ntmps10
  go_wp2_with fail
  generalize w.alloc _ = w1 at *
  refine (HR _).mono ?_
  rintro e5 w5 ⟨rfl, hb5⟩
  have C5 := HB.out.1.held hb5
  have HB5 := Lib.hid (next HB.out.2 hb5)
  clear HB hb5 HR
  have c0 : w5.cell? ⟨w.heap.size, 0, none⟩ = some (.int .i64 2) := C5.at_ 0
  have c1 : w5.cell? ⟨w.heap.size, 1, none⟩ = some (.int .i64 i) := C5.at_ 1
  have c2 : w5.cell? ⟨w.heap.size, 2, none⟩ = some (.int .i64 k) := C5.at_ 2
  have c3 : w5.cell? ⟨w.heap.size, 3, none⟩ = some (.int .i64 n) := C5.at_ 3
  have c4 : w5.cell? ⟨w.heap.size, 4, none⟩ = some (.int .u32 (a : Nat)) := C5.at_ 4
  have c5 : w5.cell? ⟨w.heap.size, 5, none⟩ = some (.int .i64 len) := C5.at_ 5
  have c6 : w5.cell? ⟨w.heap.size, 6, none⟩ = some (.string s) := C5.at_ 6
  have hlt5 : w.heap.size < w5.heap.size := C5.lt
  clear C5
  go_upto_region 6 with fail
  cases hx1 : (k == 0)
  · go_wp2_with fail
    go_ret
    exact ⟨ret_bool (by (try rw [hx0]); (try rw [hx1]); (try rw [hx2]); first | (simp; done) | (simp; have t := hse.out; simp at t; exact t)), next HB5.out (next (below_new _ _) (below_new _ _))⟩
  cases bp
  · go_wp2_with fail
    go_ret
    exact ⟨ret_bool (by (try rw [hx0]); (try rw [hx1]); (try rw [hx2]); first | (simp; done) | (simp; have t := hse.out; simp at t; exact t)), next HB5.out (next (below_new _ _) (below_new _ _))⟩
  cases bs
  · go_wp2_with fail
    go_ret
    exact ⟨ret_bool (by (try rw [hx0]); (try rw [hx1]); (try rw [hx2]); first | (simp; done) | (simp; have t := hse.out; simp at t; exact t)), next HB5.out (next (below_new _ _) (below_new _ _))⟩
  go_wp2_with fail
  go_ret
  exact ⟨ret_bool (by (try rw [hx0]); (try rw [hx1]); (try rw [hx2]); first | (simp; done) | (simp; have t := hse.out; simp at t; exact t)), next HB5.out (next (below_new _ _) (below_new _ _))⟩

set_option maxRecDepth 100000 in
set_option maxHeartbeats 4000000 in
theorem lrk_3 (e : Ev) (s : ByteArray) (hs : s = ⟨e.p.toArray⟩) (ha : e.a < 4294967296) (h0 : decide (e.kind < 0) = false) (h1 : decide (10 < e.kind) = false) (h2 : Am.right e.a e.len = true) (h3 : decide ((240 : Int) < (s.size : Int)) = false) (h4 : ((s.size : Int) % 6 != 0) = false) (h5 : decide (e.i < 0) = false) (h6 : decide (65536 < e.i) = false) (h7 : decide (e.k < 0) = false) (h8 : decide (65536 < e.k) = false) (h9 : decide (e.n < 0) = false) (h10 : decide (65536 < e.n) = false) (hk : e.kind = 3) (w : World) :
    Calls Try.prog 10 #[.agg (ecs e)] w fun x w' => x = .returned (.bool (bare e)) ∧ Below w.heap.size w w' := by
  have HR := fun u => refRight_eq ha h2 u
  clear h2
  obtain ⟨kind, i, k, n, a, len, p⟩ := e
  simp only at *
  have e0 : ecs ⟨kind, i, k, n, a, len, p⟩ = #[.int .i64 kind, .int .i64 i, .int .i64 k, .int .i64 n, .int .u32 (a : Nat), .int .i64 len, .string s] := by rw [hs]; rfl
  rw [e0]
  clear e0
  subst hk
  have E : bare ⟨3, i, k, n, a, len, p⟩ = ((a == 0 && len == 0) && p.isEmpty) := by unfold bare; simp [hasI, hasK, hasN, hasP, hasS]
  rw [E]
  clear E
  have hqp := fun u => eql_pz a len u
  generalize (a == 0 && len == 0) = bp at *
  have hqs := fun u => eql_s0 s p hs u
  have hse := Lib.hid (show p.isEmpty = decide (s.toList = []) by rw [hs]; cases p <;> simp)
  generalize p.isEmpty = bs at *
  clear hs
  have C := Blk.new w 30 #[.int .i64 3, .int .i64 i, .int .i64 k, .int .i64 n, .int .u32 (a : Nat), .int .i64 len, .string s]
  have hb0 := below_new w (.cells #[.int .i64 3, .int .i64 i, .int .i64 k, .int .i64 n, .int .u32 (a : Nat), .int .i64 len, .string s] 30)
  have HB := Lib.hid (And.intro C hb0)
  clear C hb0
  go_enter Try.func10, Try.ntmps10
  go_wp2_with fail
  generalize w.alloc _ = w1 at *
  refine (HR _).mono ?_
  rintro e5 w5 ⟨rfl, hb5⟩
  have C5 := HB.out.1.held hb5
  have HB5 := Lib.hid (next HB.out.2 hb5)
  clear HB hb5 HR
  have c0 : w5.cell? ⟨w.heap.size, 0, none⟩ = some (.int .i64 3) := C5.at_ 0
  have c1 : w5.cell? ⟨w.heap.size, 1, none⟩ = some (.int .i64 i) := C5.at_ 1
  have c2 : w5.cell? ⟨w.heap.size, 2, none⟩ = some (.int .i64 k) := C5.at_ 2
  have c3 : w5.cell? ⟨w.heap.size, 3, none⟩ = some (.int .i64 n) := C5.at_ 3
  have c4 : w5.cell? ⟨w.heap.size, 4, none⟩ = some (.int .u32 (a : Nat)) := C5.at_ 4
  have c5 : w5.cell? ⟨w.heap.size, 5, none⟩ = some (.int .i64 len) := C5.at_ 5
  have c6 : w5.cell? ⟨w.heap.size, 6, none⟩ = some (.string s) := C5.at_ 6
  have hlt5 : w.heap.size < w5.heap.size := C5.lt
  clear C5
  go_upto_region 6 with fail
  cases bp
  · go_wp2_with fail
    go_ret
    exact ⟨ret_bool (by (try rw [hx0]); (try rw [hx1]); (try rw [hx2]); first | (simp; done) | (simp; have t := hse.out; simp at t; exact t)), next HB5.out (next (below_new _ _) (below_new _ _))⟩
  cases bs
  · go_wp2_with fail
    go_ret
    exact ⟨ret_bool (by (try rw [hx0]); (try rw [hx1]); (try rw [hx2]); first | (simp; done) | (simp; have t := hse.out; simp at t; exact t)), next HB5.out (next (below_new _ _) (below_new _ _))⟩
  go_wp2_with fail
  go_ret
  exact ⟨ret_bool (by (try rw [hx0]); (try rw [hx1]); (try rw [hx2]); first | (simp; done) | (simp; have t := hse.out; simp at t; exact t)), next HB5.out (next (below_new _ _) (below_new _ _))⟩

set_option maxRecDepth 100000 in
set_option maxHeartbeats 4000000 in
theorem lrk_4 (e : Ev) (s : ByteArray) (hs : s = ⟨e.p.toArray⟩) (ha : e.a < 4294967296) (h0 : decide (e.kind < 0) = false) (h1 : decide (10 < e.kind) = false) (h2 : Am.right e.a e.len = true) (h3 : decide ((240 : Int) < (s.size : Int)) = false) (h4 : ((s.size : Int) % 6 != 0) = false) (h5 : decide (e.i < 0) = false) (h6 : decide (65536 < e.i) = false) (h7 : decide (e.k < 0) = false) (h8 : decide (65536 < e.k) = false) (h9 : decide (e.n < 0) = false) (h10 : decide (65536 < e.n) = false) (hk : e.kind = 4) (w : World) :
    Calls Try.prog 10 #[.agg (ecs e)] w fun x w' => x = .returned (.bool (bare e)) ∧ Below w.heap.size w w' := by
  have HR := fun u => refRight_eq ha h2 u
  clear h2
  obtain ⟨kind, i, k, n, a, len, p⟩ := e
  simp only at *
  have e0 : ecs ⟨kind, i, k, n, a, len, p⟩ = #[.int .i64 kind, .int .i64 i, .int .i64 k, .int .i64 n, .int .u32 (a : Nat), .int .i64 len, .string s] := by rw [hs]; rfl
  rw [e0]
  clear e0
  subst hk
  have E : bare ⟨4, i, k, n, a, len, p⟩ = ((k == 0) && (n == 0) && p.isEmpty) := by unfold bare; simp [hasI, hasK, hasN, hasP, hasS]
  rw [E]
  clear E
  have hqs := fun u => eql_s0 s p hs u
  have hse := Lib.hid (show p.isEmpty = decide (s.toList = []) by rw [hs]; cases p <;> simp)
  generalize p.isEmpty = bs at *
  clear hs
  have C := Blk.new w 30 #[.int .i64 4, .int .i64 i, .int .i64 k, .int .i64 n, .int .u32 (a : Nat), .int .i64 len, .string s]
  have hb0 := below_new w (.cells #[.int .i64 4, .int .i64 i, .int .i64 k, .int .i64 n, .int .u32 (a : Nat), .int .i64 len, .string s] 30)
  have HB := Lib.hid (And.intro C hb0)
  clear C hb0
  go_enter Try.func10, Try.ntmps10
  go_wp2_with fail
  generalize w.alloc _ = w1 at *
  refine (HR _).mono ?_
  rintro e5 w5 ⟨rfl, hb5⟩
  have C5 := HB.out.1.held hb5
  have HB5 := Lib.hid (next HB.out.2 hb5)
  clear HB hb5 HR
  have c0 : w5.cell? ⟨w.heap.size, 0, none⟩ = some (.int .i64 4) := C5.at_ 0
  have c1 : w5.cell? ⟨w.heap.size, 1, none⟩ = some (.int .i64 i) := C5.at_ 1
  have c2 : w5.cell? ⟨w.heap.size, 2, none⟩ = some (.int .i64 k) := C5.at_ 2
  have c3 : w5.cell? ⟨w.heap.size, 3, none⟩ = some (.int .i64 n) := C5.at_ 3
  have c4 : w5.cell? ⟨w.heap.size, 4, none⟩ = some (.int .u32 (a : Nat)) := C5.at_ 4
  have c5 : w5.cell? ⟨w.heap.size, 5, none⟩ = some (.int .i64 len) := C5.at_ 5
  have c6 : w5.cell? ⟨w.heap.size, 6, none⟩ = some (.string s) := C5.at_ 6
  have hlt5 : w.heap.size < w5.heap.size := C5.lt
  clear C5
  go_upto_region 6 with fail
  cases hx1 : (k == 0)
  · go_wp2_with fail
    go_ret
    exact ⟨ret_bool (by (try rw [hx0]); (try rw [hx1]); (try rw [hx2]); first | (simp; done) | (simp; have t := hse.out; simp at t; exact t)), next HB5.out (next (below_new _ _) (below_new _ _))⟩
  cases hx2 : (n == 0)
  · go_wp2_with fail
    go_ret
    exact ⟨ret_bool (by (try rw [hx0]); (try rw [hx1]); (try rw [hx2]); first | (simp; done) | (simp; have t := hse.out; simp at t; exact t)), next HB5.out (next (below_new _ _) (below_new _ _))⟩
  cases bs
  · go_wp2_with fail
    go_ret
    exact ⟨ret_bool (by (try rw [hx0]); (try rw [hx1]); (try rw [hx2]); first | (simp; done) | (simp; have t := hse.out; simp at t; exact t)), next HB5.out (next (below_new _ _) (below_new _ _))⟩
  go_wp2_with fail
  go_ret
  exact ⟨ret_bool (by (try rw [hx0]); (try rw [hx1]); (try rw [hx2]); first | (simp; done) | (simp; have t := hse.out; simp at t; exact t)), next HB5.out (next (below_new _ _) (below_new _ _))⟩

set_option maxRecDepth 100000 in
set_option maxHeartbeats 4000000 in
theorem lrk_5 (e : Ev) (s : ByteArray) (hs : s = ⟨e.p.toArray⟩) (ha : e.a < 4294967296) (h0 : decide (e.kind < 0) = false) (h1 : decide (10 < e.kind) = false) (h2 : Am.right e.a e.len = true) (h3 : decide ((240 : Int) < (s.size : Int)) = false) (h4 : ((s.size : Int) % 6 != 0) = false) (h5 : decide (e.i < 0) = false) (h6 : decide (65536 < e.i) = false) (h7 : decide (e.k < 0) = false) (h8 : decide (65536 < e.k) = false) (h9 : decide (e.n < 0) = false) (h10 : decide (65536 < e.n) = false) (hk : e.kind = 5) (w : World) :
    Calls Try.prog 10 #[.agg (ecs e)] w fun x w' => x = .returned (.bool (bare e)) ∧ Below w.heap.size w w' := by
  have HR := fun u => refRight_eq ha h2 u
  clear h2
  obtain ⟨kind, i, k, n, a, len, p⟩ := e
  simp only at *
  have e0 : ecs ⟨kind, i, k, n, a, len, p⟩ = #[.int .i64 kind, .int .i64 i, .int .i64 k, .int .i64 n, .int .u32 (a : Nat), .int .i64 len, .string s] := by rw [hs]; rfl
  rw [e0]
  clear e0
  subst hk
  have E : bare ⟨5, i, k, n, a, len, p⟩ = ((k == 0) && (n == 0) && p.isEmpty) := by unfold bare; simp [hasI, hasK, hasN, hasP, hasS]
  rw [E]
  clear E
  have hqs := fun u => eql_s0 s p hs u
  have hse := Lib.hid (show p.isEmpty = decide (s.toList = []) by rw [hs]; cases p <;> simp)
  generalize p.isEmpty = bs at *
  clear hs
  have C := Blk.new w 30 #[.int .i64 5, .int .i64 i, .int .i64 k, .int .i64 n, .int .u32 (a : Nat), .int .i64 len, .string s]
  have hb0 := below_new w (.cells #[.int .i64 5, .int .i64 i, .int .i64 k, .int .i64 n, .int .u32 (a : Nat), .int .i64 len, .string s] 30)
  have HB := Lib.hid (And.intro C hb0)
  clear C hb0
  go_enter Try.func10, Try.ntmps10
  go_wp2_with fail
  generalize w.alloc _ = w1 at *
  refine (HR _).mono ?_
  rintro e5 w5 ⟨rfl, hb5⟩
  have C5 := HB.out.1.held hb5
  have HB5 := Lib.hid (next HB.out.2 hb5)
  clear HB hb5 HR
  have c0 : w5.cell? ⟨w.heap.size, 0, none⟩ = some (.int .i64 5) := C5.at_ 0
  have c1 : w5.cell? ⟨w.heap.size, 1, none⟩ = some (.int .i64 i) := C5.at_ 1
  have c2 : w5.cell? ⟨w.heap.size, 2, none⟩ = some (.int .i64 k) := C5.at_ 2
  have c3 : w5.cell? ⟨w.heap.size, 3, none⟩ = some (.int .i64 n) := C5.at_ 3
  have c4 : w5.cell? ⟨w.heap.size, 4, none⟩ = some (.int .u32 (a : Nat)) := C5.at_ 4
  have c5 : w5.cell? ⟨w.heap.size, 5, none⟩ = some (.int .i64 len) := C5.at_ 5
  have c6 : w5.cell? ⟨w.heap.size, 6, none⟩ = some (.string s) := C5.at_ 6
  have hlt5 : w.heap.size < w5.heap.size := C5.lt
  clear C5
  go_upto_region 6 with fail
  cases hx1 : (k == 0)
  · go_wp2_with fail
    go_ret
    exact ⟨ret_bool (by (try rw [hx0]); (try rw [hx1]); (try rw [hx2]); first | (simp; done) | (simp; have t := hse.out; simp at t; exact t)), next HB5.out (next (below_new _ _) (below_new _ _))⟩
  cases hx2 : (n == 0)
  · go_wp2_with fail
    go_ret
    exact ⟨ret_bool (by (try rw [hx0]); (try rw [hx1]); (try rw [hx2]); first | (simp; done) | (simp; have t := hse.out; simp at t; exact t)), next HB5.out (next (below_new _ _) (below_new _ _))⟩
  cases bs
  · go_wp2_with fail
    go_ret
    exact ⟨ret_bool (by (try rw [hx0]); (try rw [hx1]); (try rw [hx2]); first | (simp; done) | (simp; have t := hse.out; simp at t; exact t)), next HB5.out (next (below_new _ _) (below_new _ _))⟩
  go_wp2_with fail
  go_ret
  exact ⟨ret_bool (by (try rw [hx0]); (try rw [hx1]); (try rw [hx2]); first | (simp; done) | (simp; have t := hse.out; simp at t; exact t)), next HB5.out (next (below_new _ _) (below_new _ _))⟩
end Go.Proofs.Ytnpocnfmekgieaa
