/-
  The contracts of package tlv's headed and partBytes, and of the statement's own Right.
-/
import Derived.Test.YtpdbaediepofjaaTlvW
namespace Go.Proofs.Ytpdbaediepofjaa
open Go.RowKit Tm

set_option maxHeartbeats 1000000 in
theorem lright_any (a : Nat) (len : Int) (id seq met : Nat) (ha : a < 4294967296) (w : World) :
    Calls Try.prog 9 #[.agg #[.int .u32 a, .int .i64 len, .int .u32 id, .int .u32 seq, .int .u16 met]] w fun e w' => e = .returned (.bool (right ⟨a, len, id, seq, met⟩)) ∧ Below w.heap.size w w' := by
  have C := Blk.new w 31 #[.int .u32 a, .int .i64 len, .int .u32 id, .int .u32 seq, .int .u16 met]
  have hb0 := below_new w (.cells #[.int .u32 a, .int .i64 len, .int .u32 id, .int .u32 seq, .int .u16 met] 31)
  cases hr : Am.right a len
  · have R := Lib.hid hr
    have E : Hid (right ⟨a, len, id, seq, met⟩ = false) := Lib.hid (by unfold right; simp [hr])
    have H := Lib.hid hb0
    clear hr C hb0
    go_enter Try.func9, Try.ntmps9
    go_wp2_with fail
    refine (refRight_eq ha R.out _).mono ?_
    rintro e w1 ⟨rfl, hb⟩
    have HB := Lib.hid (next H.out hb)
    clear hb
    go_wp2_with fail
    go_ret
    exact ⟨ret_bool E.out.symm, HB.out⟩
  · have R := Lib.hid hr
    have H := Lib.hid (And.intro C hb0)
    clear hr C hb0
    by_cases hs : seq ≤ 1073741824
    · have d1 : decide ((1073741824 : Int) < (seq : Int)) = false := decide_eq_false (by omega)
      go_enter Try.func9, Try.ntmps9
      go_wp2_with fail
      refine (refRight_eq ha R.out _).mono ?_
      rintro e w1 ⟨rfl, hb⟩
      have C1 := H.out.1.held hb
      have HB := Lib.hid (next H.out.2 hb)
      clear hb
      have c2 : w1.cell? ⟨w.heap.size, 2, none⟩ = some (.int .u32 id) := C1.at_ 2
      have c3 : w1.cell? ⟨w.heap.size, 3, none⟩ = some (.int .u32 seq) := C1.at_ 3
      have c4 : w1.cell? ⟨w.heap.size, 4, none⟩ = some (.int .u16 met) := C1.at_ 4
      clear C1 H
      cases hm : ((met : Int) == 65535)
      · have E : Hid (right ⟨a, len, id, seq, met⟩ = ((id : Int) != 0)) := Lib.hid (by
          have hm' : ¬ met = 65535 := by intro e; subst e; simp at hm
          unfold right
          simp only [R.out, decide_eq_true hs, Bool.true_and, if_neg hm']
          rw [Bool.eq_iff_iff]; simp only [bne_iff_ne]; omega)
        go_wp2_with fail
        go_ret
        exact ⟨ret_bool E.out.symm, HB.out⟩
      · have hm' : met = 65535 := by have := beq_iff_eq.1 hm; omega
        have E : Hid (right ⟨a, len, id, seq, met⟩ = (id == 0 && seq == 0)) := Lib.hid (by
          unfold right
          simp only [R.out, decide_eq_true hs, Bool.true_and, if_pos hm'])
        clear hm'
        by_cases hi : id = 0
        · subst hi
          go_wp2_with fail
          go_ret
          refine ⟨ret_bool ?_, HB.out⟩
          rw [E.out, Bool.eq_iff_iff]; simp
        · have d2 : ((id : Int) == 0) = false := beq_eq_false_iff_ne.2 (by omega)
          go_wp2_with fail
          go_ret
          refine ⟨ret_bool ?_, HB.out⟩
          rw [E.out]
          simp [hi]
    · have d1 : decide ((1073741824 : Int) < (seq : Int)) = true := decide_eq_true (by omega)
      have E : Hid (right ⟨a, len, id, seq, met⟩ = false) := Lib.hid (by unfold right; simp [hs])
      go_enter Try.func9, Try.ntmps9
      go_wp2_with fail
      refine (refRight_eq ha R.out _).mono ?_
      rintro e w1 ⟨rfl, hb⟩
      have C1 := H.out.1.held hb
      have c3 : w1.cell? ⟨w.heap.size, 3, none⟩ = some (.int .u32 seq) := C1.at_ 3
      have HB := Lib.hid (next H.out.2 hb)
      clear hb C1
      go_wp2_with fail
      go_ret
      exact ⟨ret_bool E.out.symm, HB.out⟩

/-! ### bytes at a place -/
/-- a slice's value that reads as these bytes; its address is plain where there is one -/
structure Sl (w : World) (A : Option Addr) (n cap : Nat) (bs : List Nat) : Prop where
  bytes : BytesAt w A n bs
  cap : n ≤ cap
  plain : 0 < n → ∃ b off, A = some ⟨b, off, none⟩
theorem Sl.held {w w' : World} {A : Option Addr} {n cap : Nat} {bs : List Nat} (h : Sl w A n cap bs) (hb : Below w.heap.size w w') : Sl w' A n cap bs := ⟨h.bytes.held hb, h.cap, h.plain⟩
theorem Sl.at_ {w : World} {b off n cap : Nat} {bs : List Nat} (h : Sl w (some ⟨b, off, none⟩) n cap bs) {k : Nat} (hk : k < n) : w.cell? ⟨b, off + k, none⟩ = some (.int .u8 (bs.getD k 0 : Nat)) := by
  obtain ⟨ad', e, hc⟩ := h.bytes.2.2.2 k hk
  cases e
  rwa [Addr.add_mid] at hc
theorem Sl.part {w : World} {b off n cap : Nat} {bs : List Nat} (h : Sl w (some ⟨b, off, none⟩) n cap bs) (o m : Nat) (hm : o + m ≤ n) : Sl w (some ⟨b, off + o, none⟩) m (cap - o) ((bs.drop o).take m) := by
  obtain ⟨⟨h1, h2, h3, h4⟩, h5, -⟩ := h
  refine ⟨⟨by simp; omega, by omega, fun c hc => h3 c (List.mem_of_mem_drop (List.mem_of_mem_take hc)), fun k hk => ?_⟩, by omega, fun _ => ⟨_, _, rfl⟩⟩
  obtain ⟨ad', e, hc⟩ := h4 (o + k) (by omega)
  cases e
  refine ⟨_, rfl, ?_⟩
  rw [Addr.add_mid] at hc ⊢
  rw [Nat.add_assoc, hc]
  congr 3
  have h5 : o + k < bs.length := by omega
  simp [List.getD, hk, h5]
theorem Sl.rest {w : World} {b off n cap : Nat} {bs : List Nat} (h : Sl w (some ⟨b, off, none⟩) n cap bs) (o : Nat) (ho : o ≤ n) : Sl w (some ⟨b, off + o, none⟩) (n - o) (cap - o) (bs.drop o) := by
  have k := h.part o (n - o) (by omega)
  have e : (bs.drop o).take (n - o) = bs.drop o := List.take_of_length_le (by rw [List.length_drop, h.bytes.1]; omega)
  rwa [e] at k
theorem get_part {w : World} {b off n cap : Nat} {bs : List Nat} (h : Sl w (some ⟨b, off, none⟩) n cap bs) (o m : Nat) (hm : o + m ≤ n) (h4 : m ≤ 4) (c : Nat) :
    Calls Try.prog 23 #[.slice (some ⟨b, off + o, none⟩) m c] w fun e w' => e = .returned (.int .u32 (val ((bs.drop o).take m) : Nat)) ∧ w = w' :=
  get_any _ m c _ w (h.part o m hm).bytes h4

/-! ### headed -/
set_option maxHeartbeats 2000000 in
theorem headed_any {A : Option Addr} {n cap : Nat} {bs : List Nat} {w : World} (h : Sl w A n cap bs) {r : Bool} (hr : headed bs = r) :
    Calls Try.prog 21 #[.slice A n cap] w fun e w' => e = .returned (.bool r) ∧ w = w' := by
  have hl := h.bytes.1
  have hmx := h.bytes.2.1
  have hcap := h.cap
  have hmx' : n ≤ 9223372036854775807 := by unfold maxLen at hmx; omega
  clear hmx
  by_cases h4 : n < 4
  · have d1 : decide ((4 : Int) ≤ (n : Int)) = false := decide_eq_false (by omega)
    have E : Hid (r = false) := Lib.hid (by rw [← hr]; unfold headed; rw [decide_eq_false_iff_not]; omega)
    clear h hr hl
    go_enter Try.func21, Try.ntmps21
    go_wp2_with fail
    go_ret
    exact ⟨ret_bool E.out.symm, rfl⟩
  have d1 : decide ((4 : Int) ≤ (n : Int)) = true := decide_eq_true (by omega)
  by_cases h1024 : 1024 < n
  · have d2 : decide ((n : Int) ≤ 1024) = false := decide_eq_false (by omega)
    have E : Hid (r = false) := Lib.hid (by rw [← hr]; unfold headed; rw [decide_eq_false_iff_not]; omega)
    clear h hr hl h1024 h4
    go_enter Try.func21, Try.ntmps21
    go_wp2_with fail
    go_ret
    exact ⟨ret_bool E.out.symm, rfl⟩
  have d2 : decide ((n : Int) ≤ 1024) = true := decide_eq_true (by omega)
  obtain ⟨b, off, rfl⟩ := h.plain (by omega)
  have c0 : w.cell? ⟨b, off, none⟩ = some (.int .u8 (bs.getD 0 0 : Nat)) := h.at_ (k := 0) (by omega)
  have c1 : w.cell? ⟨b, off + 1, none⟩ = some (.int .u8 (bs.getD 1 0 : Nat)) := h.at_ (k := 1) (by omega)
  have G := get_part h 2 2 (by omega) (by omega) (cap - 2)
  have ev : val ((bs.drop 2).take 2) = bs.getD 2 0 * 256 + bs.getD 3 0 := by
    have : (bs.drop 2).take 2 = [bs.getD 2 0, bs.getD 3 0] := by
      apply List.ext_getElem
      · simp; omega
      · intro k h1 h2
        have hk : k = 0 ∨ k = 1 := by simp at h2; omega
        rcases hk with rfl | rfl <;> simp [List.getD, show 2 < bs.length by omega, show 3 < bs.length by omega]
    rw [this]; simp [val]
  rw [ev] at G
  have s2 : (Instr.slice 35 (.slice (some ⟨b, off, none⟩) n cap) (some (.int .i64 2)) (some (.int .i64 4)) none).run Try.prog w = .ok (.slice (some ⟨b, off + 2, none⟩) 2 (cap - 2)) w := by
    have d1 : (4 : Int) ≤ (cap : Int) := by omega
    have d2 : ¬ cap = 2 := by omega
    go_simp
  have hd : headed bs = (decide (bs.getD 0 0 = 87) && decide (bs.getD 1 0 = 1) && decide (bs.getD 2 0 * 256 + bs.getD 3 0 = n - 4)) := by
    unfold headed
    rw [hl, Bool.eq_iff_iff]
    simp only [decide_eq_true_eq, Bool.and_eq_true]
    constructor
    · rintro ⟨-, -, x, y, z⟩; exact ⟨⟨x, y⟩, z⟩
    · rintro ⟨⟨x, y⟩, z⟩; exact ⟨by omega, by omega, x, y, z⟩
  rw [hd] at hr
  have hx := h.bytes.lt 0
  have hy := h.bytes.lt 1
  have hz := h.bytes.lt 2
  have hu := h.bytes.lt 3
  clear h hl ev hd
  generalize bs.getD 0 0 = x0 at *
  generalize bs.getD 1 0 = x1 at *
  generalize bs.getD 2 0 = x2 at *
  generalize bs.getD 3 0 = x3 at *
  by_cases e0 : x0 = 87
  · by_cases e1 : x1 = 1
    · have d3 : ((x0 : Int) == 87) = true := beq_iff_eq.2 (by omega)
      have d4 : ((x1 : Int) == 1) = true := beq_iff_eq.2 (by omega)
      have E : Hid (r = (((x2 * 256 + x3 : Nat) : Int) == (n : Int) - 4)) := Lib.hid (by rw [← hr, Bool.eq_iff_iff]; simp only [e0, e1, decide_true, Bool.true_and, decide_eq_true_eq, beq_iff_eq]; omega)
      have hlt : x2 * 256 + x3 < 65536 := by omega
      clear hr hx hy hz hu
      generalize x2 * 256 + x3 = q at *
      clear e0 e1
      go_enter Try.func21, Try.ntmps21
      go_wp2_with fail
      refine G.mono ?_
      rintro e w1 ⟨rfl, rfl⟩
      go_wp2_with fail
      go_ret
      exact ⟨ret_bool E.out.symm, rfl⟩
    · have d3 : ((x0 : Int) == 87) = true := beq_iff_eq.2 (by omega)
      have d4 : ((x1 : Int) == 1) = false := beq_eq_false_iff_ne.2 (by omega)
      have E : Hid (r = false) := Lib.hid (by rw [← hr]; simp [e1])
      clear hr hx hy hz hu G s2 e0 e1
      go_enter Try.func21, Try.ntmps21
      go_wp2_with fail
      go_ret
      exact ⟨ret_bool E.out.symm, rfl⟩
  · have d3 : ((x0 : Int) == 87) = false := beq_eq_false_iff_ne.2 (by omega)
    have E : Hid (r = false) := Lib.hid (by rw [← hr]; simp [e0])
    clear hr hx hy hz hu G s2 e0
    go_enter Try.func21, Try.ntmps21
    go_wp2_with fail
    go_ret
    exact ⟨ret_bool E.out.symm, rfl⟩

/-! ### partBytes -/
/-- how many bytes the part has with which bytes begin -/
def Tm.pb (bs : List Nat) : Nat × Bool := if bs.getD 0 0 = 0 then (1, true) else if bs.length < 2 then (0, false) else (2 + bs.getD 1 0, decide (2 + bs.getD 1 0 ≤ bs.length))
set_option maxHeartbeats 1000000 in
theorem partBytes_any {b off n cap : Nat} {bs : List Nat} {w : World} (h : Sl w (some ⟨b, off, none⟩) n cap bs) (h0 : 0 < n) {m : Nat} {r : Bool} (hr : pb bs = (m, r)) :
    Calls Try.prog 22 #[.slice (some ⟨b, off, none⟩) n cap] w fun e w' => e = .returned (.tuple #[.int .i64 (m : Nat), .bool r]) ∧ w = w' := by
  have hl := h.bytes.1
  have hmx := h.bytes.2.1
  have hmx' : n ≤ 9223372036854775807 := by unfold maxLen at hmx; omega
  clear hmx
  have hx := h.bytes.lt 0
  have hy := h.bytes.lt 1
  have c0 : w.cell? ⟨b, off, none⟩ = some (.int .u8 (bs.getD 0 0 : Nat)) := h.at_ (k := 0) (by omega)
  unfold pb at hr
  rw [hl] at hr
  by_cases e0 : bs.getD 0 0 = 0
  · rw [if_pos e0] at hr
    cases hr
    rw [e0] at c0
    clear h hl e0 hx hy
    go_enter Try.func22, Try.ntmps22
    go_wp2_with fail
    go_ret2
    exact ⟨rfl, rfl⟩
  · rw [if_neg e0] at hr
    have d0 : (((bs.getD 0 0 : Nat) : Int) == 0) = false := beq_eq_false_iff_ne.2 (by omega)
    by_cases e2 : n < 2
    · rw [if_pos e2] at hr
      cases hr
      have d1 : decide ((n : Int) < 2) = true := decide_eq_true (by omega)
      clear h hl e0 hx hy
      generalize bs.getD 0 0 = x0 at *
      go_enter Try.func22, Try.ntmps22
      go_wp2_with fail
      go_ret2
      exact ⟨rfl, rfl⟩
    · rw [if_neg e2] at hr
      have c1 : w.cell? ⟨b, off + 1, none⟩ = some (.int .u8 (bs.getD 1 0 : Nat)) := h.at_ (k := 1) (by omega)
      have d1 : decide ((n : Int) < 2) = false := decide_eq_false (by omega)
      clear h hl e0
      generalize bs.getD 0 0 = x0 at *
      generalize bs.getD 1 0 = x1 at *
      obtain ⟨hm, hr2⟩ := Prod.mk.inj hr
      subst hm
      have E : Hid (r = decide (2 + (x1 : Int) ≤ (n : Int))) := Lib.hid (by rw [← hr2, decide_eq_decide]; omega)
      clear hr hr2
      go_enter Try.func22, Try.ntmps22
      go_wp2_with fail
      go_ret2
      exact ⟨by rw [E.out]; push_cast; rfl, rfl⟩
end Go.Proofs.Ytpdbaediepofjaa
