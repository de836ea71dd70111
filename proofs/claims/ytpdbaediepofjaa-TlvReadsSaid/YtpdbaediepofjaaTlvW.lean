/-
  The contracts of package tlv's small functions: bodyBytes, Right, headed, partBytes; and of the statement's own Right.
-/
import Derived.Test.YtpdbaediepofjaaTlvO
import Derived.Test.YtpdbaediepofjaaAddrW
import Derived.Lib.QuietBelow
namespace Go.Proofs.Ytpdbaediepofjaa
open Go.RowKit Tm

/-- what is told as a value's cells -/
def ucs (a : Nat) (len : Int) (id seq met : Nat) : Array Value := #[.int .u32 a, .int .i64 len, .int .u32 id, .int .u32 seq, .int .u16 met]
def Tm.Up.cs (u : Up) : Array Value := ucs u.a u.len u.id u.seq u.met

theorem lost_any (s m : Int) (w : World) : Calls Try.prog 17 #[.agg #[.int .u32 s, .int .u16 m]] w fun e w' => e = .returned (.bool (m == 65535)) ∧ Below w.heap.size w w' := by
  go_enter Try.func17, Try.ntmps17
  go_wp2
  go_ret
  exact ⟨rfl, (Below.refl _ _).alloc (Nat.le_refl _) _⟩
theorem lost_eq {s m : Int} {r : Bool} (h : (m == 65535) = r) (w : World) :
    Calls Try.prog 17 #[.agg #[.int .u32 s, .int .u16 m]] w fun e w' => e = .returned (.bool r) ∧ Below w.heap.size w w' := h ▸ lost_any s m w
theorem aright_eq {a : Nat} {len : Int} {r : Bool} (ha : a < 4294967296) (h : Am.right a len = r) (w : World) :
    Calls Try.prog 16 #[.agg #[.int .u32 a, .int .i64 len]] w fun e w' => e = .returned (.bool r) ∧ Below w.heap.size w w' := h ▸ right_any a len ha w
theorem refRight_eq {a : Nat} {len : Int} {r : Bool} (ha : a < 4294967296) (h : Am.right a len = r) (w : World) :
    Calls Try.prog 18 #[.agg #[.int .u32 a, .int .i64 len]] w fun e w' => e = .returned (.bool r) ∧ Below w.heap.size w w' := h ▸ refRight_any a len ha w

theorem bodyBytes_any (n : Nat) (hn : n ≤ 1000) (w : World) : Calls Try.prog 29 #[.int .i64 n] w fun e w' => e = .returned (.int .i64 (7 + nb n : Nat)) ∧ w = w' := by
  go_enter Try.func29, Try.ntmps29
  go_wp2
  go_ret
  exact ⟨ret_int (by unfold nb; omega), rfl⟩

/-! ### Right -/
theorem met_bool (m : Nat) : ((m : Int) == 65535) = decide (m = 65535) := by rw [Bool.eq_iff_iff]; simp only [beq_iff_eq, decide_eq_true_eq]; omega
set_option maxHeartbeats 1000000 in
theorem tright_any (a : Nat) (len : Int) (id seq met : Nat) (ha : a < 4294967296) (w : World) :
    Calls Try.prog 8 #[.agg #[.int .u32 a, .int .i64 len, .int .u32 id, .int .u32 seq, .int .u16 met]] w fun e w' => e = .returned (.bool (right ⟨a, len, id, seq, met⟩)) ∧ Below w.heap.size w w' := by
  have C := Blk.new w 31 #[.int .u32 a, .int .i64 len, .int .u32 id, .int .u32 seq, .int .u16 met]
  have hb0 := below_new w (.cells #[.int .u32 a, .int .i64 len, .int .u32 id, .int .u32 seq, .int .u16 met] 31)
  cases hr : Am.right a len
  · have R := Lib.hid hr
    have E : Hid (right ⟨a, len, id, seq, met⟩ = false) := Lib.hid (by unfold right; simp [hr])
    have H := Lib.hid hb0
    clear hr C hb0
    go_enter Try.func8, Try.ntmps8
    go_wp2_with fail
    refine (aright_eq ha R.out _).mono ?_
    rintro e w1 ⟨rfl, hb⟩
    have HB := Lib.hid (next H.out hb)
    clear hb
    go_wp2_with fail
    go_ret
    exact ⟨ret_bool E.out.symm, HB.out⟩
  · have R := Lib.hid hr
    have H := Lib.hid (And.intro C hb0)
    clear hr C hb0
    by_cases hs : seq ≤ 1073741824
    · have d1 : decide ((1073741824 : Int) < (seq : Int)) = false := decide_eq_false (by omega)
      go_enter Try.func8, Try.ntmps8
      go_wp2_with fail
      refine (aright_eq ha R.out _).mono ?_
      rintro e w1 ⟨rfl, hb⟩
      have C1 := H.out.1.held hb
      have hb1 := next H.out.2 hb
      clear hb
      have c2 : w1.cell? ⟨w.heap.size, 2, none⟩ = some (.int .u32 id) := C1.at_ 2
      have c3 : w1.cell? ⟨w.heap.size, 3, none⟩ = some (.int .u32 seq) := C1.at_ 3
      have c4 : w1.cell? ⟨w.heap.size, 4, none⟩ = some (.int .u16 met) := C1.at_ 4
      have H1 := Lib.hid (And.intro C1 hb1)
      clear C1 hb1
      go_wp2_with fail
      cases hm : ((met : Int) == 65535)
      · refine (lost_eq hm _).mono ?_
        rintro e w2 ⟨rfl, hb⟩
        have c2' := held hb c2
        have HB := Lib.hid (next H1.out.2 hb)
        have E : Hid (right ⟨a, len, id, seq, met⟩ = ((id : Int) != 0)) := Lib.hid (by
          have hm' : ¬ met = 65535 := by intro e; subst e; simp at hm
          unfold right
          simp only [R.out, decide_eq_true hs, Bool.true_and, if_neg hm']
          rw [Bool.eq_iff_iff]; simp only [bne_iff_ne]; omega)
        clear c2 c3 c4 hb H1 hm
        go_wp2_with fail
        go_ret
        exact ⟨ret_bool E.out.symm, HB.out⟩
      · refine (lost_eq hm _).mono ?_
        rintro e w2 ⟨rfl, hb⟩
        have c2' := held hb c2
        have c3' := held hb c3
        have HB := Lib.hid (next H1.out.2 hb)
        have hm' : met = 65535 := by have := beq_iff_eq.1 hm; omega
        have E : Hid (right ⟨a, len, id, seq, met⟩ = (id == 0 && seq == 0)) := Lib.hid (by
          unfold right
          simp only [R.out, decide_eq_true hs, Bool.true_and, if_pos hm'])
        clear c2 c3 c4 hb H1 hm hm'
        by_cases hi : id = 0
        · subst hi
          go_wp2_with fail
          go_ret
          refine ⟨ret_bool ?_, HB.out⟩
          rw [E.out, Bool.eq_iff_iff]; simp
        · have d2 : ((id : Int) == 0) = false := beq_eq_false_iff_ne.2 (by omega)
          go_wp2_with fail
          go_ret
          refine ⟨ret_bool ?_, HB.out⟩
          rw [E.out]
          simp [hi]
    · have d1 : decide ((1073741824 : Int) < (seq : Int)) = true := decide_eq_true (by omega)
      have E : Hid (right ⟨a, len, id, seq, met⟩ = false) := Lib.hid (by unfold right; simp [hs])
      go_enter Try.func8, Try.ntmps8
      go_wp2_with fail
      refine (aright_eq ha R.out _).mono ?_
      rintro e w1 ⟨rfl, hb⟩
      have C1 := H.out.1.held hb
      have c3 : w1.cell? ⟨w.heap.size, 3, none⟩ = some (.int .u32 seq) := C1.at_ 3
      have HB := Lib.hid (next H.out.2 hb)
      clear hb C1
      go_wp2_with fail
      go_ret
      exact ⟨ret_bool E.out.symm, HB.out⟩
end Go.Proofs.Ytpdbaediepofjaa
