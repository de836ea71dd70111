/-
  The contract of the statement's Right of a record (out of the texts AddrW and RecR).
-/
import Derived.Test.YtncliolkdkofhaaProg
import Derived.Test.YtncliolkdkofhaaBase
import Derived.Test.YtncliolkdkofhaaAddrM
import Derived.Test.YtncliolkdkofhaaRecM
import Derived.Laws.BitsAllLaws
import Derived.Maps.RangeWalk
import Derived.Lib.Hide
namespace Go.Proofs.Ytncliolkdkofhaa
open Go.RowKit Rm

theorem bit_val (x : Nat) (hx : x < 4294967296) : (bits .and .u32 (x : Int) 1 == 1) = (x % 2 == 1) := by
  rw [show (1 : Int) = ((1 : Nat) : Int) from rfl, u32_and_nat x 1 hx (by omega), nat_mask1]
  rw [Bool.eq_iff_iff]; simp only [beq_iff_eq]; omega
theorem bit_any (a i : Nat) (ha : a < 4294967296) (hi : i < 32) (w : World) : Calls Try.prog 38 #[.int .u32 a, .int .i64 i] w fun e w' => e = .returned (.bool (Am.bit a i)) ∧ w = w' := by
  go_enter Try.func38, Try.ntmps38
  go_wp2
  go_ret
  refine ⟨ret_bool ?_, rfl⟩
  have e : ((a : Int) / 2 ^ (31 - i)) = ((a / 2 ^ (31 - i) : Nat) : Int) := by simp [Int.natCast_ediv]
  show (bits BinOp.and IntKind.u32 ((a : Int) / 2 ^ (31 - i)) 1 == 1) = _
  rw [e, bit_val _ (Nat.lt_of_le_of_lt (Nat.div_le_self _ _) ha)]
  rfl

/-- a prefix's two numbers lie in block g -/
def Pre (w : World) (g : Nat) (a : Int) (len : Int) : Prop := w.cell? ⟨g, 0, none⟩ = some (.int .u32 a) ∧ w.cell? ⟨g, 1, none⟩ = some (.int .i64 len)
theorem pre_new (w : World) (t : TypeId) (a len : Int) : Pre (w.alloc (.cells #[.int .u32 a, .int .i64 len] t)) w.heap.size a len := ⟨(new_cell w _ t 0).trans rfl, (new_cell w _ t 1).trans rfl⟩
theorem Pre.held {w w' : World} {g : Nat} {a len : Int} (h : Pre w g a len) (hb : Below w.heap.size w w') : Pre w' g a len := ⟨Go.Proofs.Ytncliolkdkofhaa.held hb h.1, Go.Proofs.Ytncliolkdkofhaa.held hb h.2⟩

/-! ### the statement's own Right -/
set_option maxHeartbeats 400000 in
theorem refRight_any (a : Nat) (len : Int) (ha : a < 4294967296) (w : World) :
    Calls Try.prog 30 #[.agg #[.int .u32 a, .int .i64 len]] w fun e w' => e = .returned (.bool (Am.right a len)) ∧ Below w.heap.size w w' := by
  by_cases h1 : len < 0
  · have R := Lib.hid (Am.right_neg (a := a) h1)
    go_enter Try.func30, Try.ntmps30
    go_wp2
    go_ret
    exact ⟨ret_bool R.out.symm, below_new _ _⟩
  · by_cases h2 : 32 < len
    · have R := Lib.hid (Am.right_big (a := a) h2)
      go_enter Try.func30, Try.ntmps30
      go_wp2
      go_ret
      exact ⟨ret_bool R.out.symm, below_new _ _⟩
    · obtain ⟨n, rfl⟩ := Int.eq_ofNat_of_zero_le (by omega : 0 ≤ len)
      have hn : n ≤ 32 := by omega
      clear h1 h2
      have R := Lib.hid (Am.right_in (a := a) hn)
      go_enter Try.func30, Try.ntmps30
      go_wp2
      obtain ⟨c0, c1⟩ := pre_new w 32 a n
      have hb := below_new w (.cells #[.int .u32 a, .int .i64 n] 32)
      generalize w.alloc (.cells #[.int .u32 a, .int .i64 n] 32) = w2 at *
      have HB := Lib.hid hb
      clear hb
      go_loop [3] (fun i => ∃ k : Nat, k ≤ 32 ∧ i = .int .i64 k ∧ (a % 2 ^ (32 - n) = 0 ↔ a % 2 ^ (32 - k) = 0)) (fun i => 32 - (intOf i).toNat)
      case atStart => exact ⟨n, hn, rfl, Iff.rfl⟩
      case round =>
        obtain ⟨k, hk, rfl, hz⟩ := hrel
        have Z := Lib.hid hz
        clear hz
        by_cases hlt : k < 32
        · have E := Lib.hid (Am.zero_from a k hlt)
          go_wp2_with fail
          refine (bit_any a k ha hlt _).mono ?_
          rintro e w' ⟨rfl, rfl⟩
          cases hbit : Am.bit a k
          · have B := Lib.hid hbit
            clear hbit
            go_wp2
            go_round
            case rel => exact ⟨k + 1, by omega, by go_num, by rw [Z.out, E.out, B.out]; simp⟩
            case measure => simp [intOf]; omega
          · have B := Lib.hid hbit
            clear hbit
            go_wp2
            go_ret
            exact ⟨ret_bool (by rw [R.out]; symm; rw [decide_eq_false_iff_not, Z.out, E.out, B.out]; simp), HB.out⟩
        · obtain rfl : k = 32 := by omega
          go_wp2
          go_ret
          exact ⟨ret_bool (by rw [R.out]; symm; rw [decide_eq_true_eq, Z.out]; simp [Nat.mod_one]), HB.out⟩
theorem refRight_eq {a : Nat} {len : Int} {r : Bool} (ha : a < 4294967296) (h : Am.right a len = r) (w : World) :
    Calls Try.prog 30 #[.agg #[.int .u32 a, .int .i64 len]] w fun e w' => e = .returned (.bool r) ∧ Below w.heap.size w w' := h ▸ refRight_any a len ha w

set_option maxHeartbeats 1000000 in
theorem rright_any (k : Int) (g l i a : Nat) (n : Int) (o : Bool) (s m : Nat) (ha : a < 4294967296) (w : World) :
    Calls Try.prog 15 #[.agg #[.int .i64 k, .int .u32 g, .int .u32 l, .int .u32 i, .int .u32 a, .int .i64 n, .bool o, .int .u32 s, .int .u16 m]] w fun e w' => e = .returned (.bool (right2 ⟨k, g, l, i, a, n, o, s, m⟩)) ∧ Below w.heap.size w w' := by
  cases hr : Am.right a n
  · have R := Lib.hid hr
    have E : Hid (right2 ⟨k, g, l, i, a, n, o, s, m⟩ = false) := Lib.hid (by unfold right2; simp [hr])
    clear hr
    go_enter Try.func15, Try.ntmps15
    go_wp2_with fail
    have hb0 := below_new w (.cells #[.int .i64 k, .int .u32 g, .int .u32 l, .int .u32 i, .int .u32 a, .int .i64 n, .bool o, .int .u32 s, .int .u16 m] 37)
    refine (refRight_eq ha R.out _).mono ?_
    rintro e w1 ⟨rfl, hb⟩
    have HB := Lib.hid (next hb0 hb)
    clear hb hb0
    go_wp2_with fail
    go_ret
    exact ⟨ret_bool E.out.symm, HB.out⟩
  · have R := Lib.hid hr
    clear hr
    go_enter Try.func15, Try.ntmps15
    go_wp2_with fail
    refine (refRight_eq ha R.out _).mono ?_
    rintro e w1 ⟨rfl, hb⟩
    have hb0 := below_new w (.cells #[.int .i64 k, .int .u32 g, .int .u32 l, .int .u32 i, .int .u32 a, .int .i64 n, .bool o, .int .u32 s, .int .u16 m] 37)
    have C := (Blk.new w 37 #[.int .i64 k, .int .u32 g, .int .u32 l, .int .u32 i, .int .u32 a, .int .i64 n, .bool o, .int .u32 s, .int .u16 m]).held hb
    have HB := Lib.hid (next hb0 hb)
    clear hb hb0
    have c0 := C.at_ 0
    have c3 := C.at_ 3
    have c4 := C.at_ 4
    have c5 := C.at_ 5
    have c6 := C.at_ 6
    have c7 := C.at_ 7
    have c8 := C.at_ 8
    clear C
    simp at c0 c3 c4 c5 c6 c7 c8
    go_wp2_with fail
    all_goals
      clear c0 c3 c4 c5 c6 c7 c8
      have R' := R.out
      go_ret
      refine ⟨ret_bool ?_, HB.out⟩
      clear HB R
      simp_all [right2]
    all_goals first | (intros; omega) | (rw [Bool.eq_iff_iff]; simp; omega)

theorem rright_eq {k : Int} {g l i a : Nat} {n : Int} {o : Bool} {s m : Nat} {r : Bool} (ha : a < 4294967296) (h : right2 ⟨k, g, l, i, a, n, o, s, m⟩ = r) (w : World) :
    Calls Try.prog 15 #[.agg #[.int .i64 k, .int .u32 g, .int .u32 l, .int .u32 i, .int .u32 a, .int .i64 n, .bool o, .int .u32 s, .int .u16 m]] w fun e w' => e = .returned (.bool r) ∧ Below w.heap.size w w' := h ▸ rright_any k g l i a n o s m ha w
end Go.Proofs.Ytncliolkdkofhaa
