/-
  ScriptReads: whatever bytes.
-/
import Derived.Test.YtnpocnfmekgieaaScH
import Derived.Test.YtnpocnfmekgieaaScY
import Derived.Test.YtnpocnfmekgieaaScLd
import Derived.Lib.QuietBelow
namespace Go.Proofs.Ytnpocnfmekgieaa
open Go.RowKit Go.Maps Sc
attribute [local go_sem] Oper.semAt_some

theorem Evs.take_ {bs : List Nat} {l : List Ev} {k e : Nat} (h : Evs bs l k e) (h3 : 3 ≤ bs.length) (hb : ∀ c ∈ bs, c < 256) : script (bs.getD 0 0) (bs.getD 1 0 * 256 + bs.getD 2 0) l = bs.take k := by
  have h0 := getD_lt hb 0
  have h1 := getD_lt hb 1
  have h2 := getD_lt hb 2
  have hhd : bs.take 3 = [bs.getD 0 0, bs.getD 1 0, bs.getD 2 0] := by
    apply List.ext_getElem
    · simp; omega
    · intro k h1 h2
      have hk : k = 0 ∨ k = 1 ∨ k = 2 := by simp at h2; omega
      rcases hk with rfl | rfl | rfl <;> simp [List.getD, show 0 < bs.length by omega, show 1 < bs.length by omega, show 2 < bs.length by omega]
  have e1 : bs = bs.take 3 ++ (flat l ++ bs.drop k) := by rw [← h.parts, List.take_append_drop]
  have hk : k = (bs.take 3 ++ flat l).length := by rw [List.length_append, List.length_take, Nat.min_eq_left h3, h.at_]
  have e2 : bs.take k = bs.take 3 ++ flat l := by
    conv => lhs; rw [e1, ← List.append_assoc]
    rw [hk, List.take_left]
  rw [e2, hhd]
  unfold script two
  rw [Nat.mod_eq_of_lt h0, show (bs.getD 1 0 * 256 + bs.getD 2 0) / 256 % 256 = bs.getD 1 0 by omega, show (bs.getD 1 0 * 256 + bs.getD 2 0) % 256 = bs.getD 2 0 by omega]
  rfl
theorem flat_ge : ∀ l : List Ev, 16 * l.length ≤ (flat l).length
  | [] => by simp [flat_nil]
  | e :: r => by
    rw [flat_cons, List.length_append, ebytes_length, List.length_cons]
    have := flat_ge r
    omega

set_option maxRecDepth 100000 in
set_option maxHeartbeats 4000000 in
theorem reads_n0 {A : Option Addr} {n cap : Nat} {bs : List Nat} {w : World} (h : Sl w A n cap bs) (hn : n ≤ 800) (hh : Sc.headed bs = false) (h3 : n < 3) :
    Calls Try.prog 4 #[.slice A n cap] w fun x w' => x = .returned (.bool true) ∧ Below w.heap.size w w' := by
  have hl := h.bytes.1
  have hcap := h.cap
  have d0 : decide ((800 : Int) < (n : Int)) = false := decide_eq_false (by omega)
  have d1 : decide ((n : Int) < 3) = true := decide_eq_true (by omega)
  have H := Lib.hid (And.intro h hh)
  clear h hh hl
  go_enter Try.func4, Try.ntmps4
  go_upto_region 3 with (go_at_call 7; refine (head_any w).mono ?_; rintro e w1 ⟨rfl, hb1⟩)
  have HD := decode_none (H.out.1.held hb1) (by omega) H.out.2
  have B1 := Lib.hid hb1
  go_upto_region 6 with (go_at_call 12; refine HD.mono ?_; rintro e w2 ⟨rfl, hb2⟩)
  have hb := next B1.out hb2
  have h2 := H.out.1.held hb
  clear H h2
  have B2 := Lib.hid hb
  clear HD hb1 B1 hb2 hb
  refine wp_region_quiet_below (by kernel_rfl) (by kernel_rfl) ?_
  repeat (go_big_quiet_step (fail))
  refine wpQuiet_nil ?_
  intro _ hw'
  obtain ⟨⟨dq, osq⟩, hw''⟩ := hw'
  subst hw''
  have B3 := Lib.hid (next B2.out (below_regrown w2 dq osq))
  go_wp2_with fail
  go_ret
  exact ⟨rfl, B3.out⟩
set_option maxRecDepth 100000 in
set_option maxHeartbeats 4000000 in
theorem reads_n1 {A : Option Addr} {n cap : Nat} {bs : List Nat} {w : World} (h : Sl w A n cap bs) (hn : n ≤ 800) (hh : Sc.headed bs = false) (h3 : 3 ≤ n) (hc : bs.getD 0 0 < 1) :
    Calls Try.prog 4 #[.slice A n cap] w fun x w' => x = .returned (.bool true) ∧ Below w.heap.size w w' := by
  have hl := h.bytes.1
  have hcap := h.cap
  have d0 : decide ((800 : Int) < (n : Int)) = false := decide_eq_false (by omega)
  obtain ⟨b, off, rfl⟩ := h.plain (by omega)
  have hx0 := h.bytes.lt 0
  have hx1 := h.bytes.lt 1
  have hx2 := h.bytes.lt 2
  have i0 : (0 : Int) < (n : Int) := by omega
  have i1 : (1 : Int) < (n : Int) := by omega
  have i2 : (2 : Int) < (n : Int) := by omega
  have d1 : decide ((n : Int) < 3) = false := decide_eq_false (by omega)
  have d2 : decide (((bs.getD 0 0 : Nat) : Int) < 1) = true := decide_eq_true (by omega)
  have H := Lib.hid (And.intro h hh)
  clear h hh hl
  go_enter Try.func4, Try.ntmps4
  go_upto_region 3 with (go_at_call 7; refine (head_any w).mono ?_; rintro e w1 ⟨rfl, hb1⟩)
  have HD := decode_none (H.out.1.held hb1) (by omega) H.out.2
  have B1 := Lib.hid hb1
  go_upto_region 6 with (go_at_call 12; refine HD.mono ?_; rintro e w2 ⟨rfl, hb2⟩)
  have hb := next B1.out hb2
  have h2 := H.out.1.held hb
  have c0 : w2.cell? ⟨b, off, none⟩ = some (.int .u8 (bs.getD 0 0 : Nat)) := h2.at_ (k := 0) (by omega)
  have c1 : w2.cell? ⟨b, off + 1, none⟩ = some (.int .u8 (bs.getD 1 0 : Nat)) := h2.at_ (k := 1) (by omega)
  have c2 : w2.cell? ⟨b, off + 2, none⟩ = some (.int .u8 (bs.getD 2 0 : Nat)) := h2.at_ (k := 2) (by omega)
  clear H h2
  generalize bs.getD 0 0 = x0 at *
  generalize bs.getD 1 0 = x1 at *
  generalize bs.getD 2 0 = x2 at *
  have k0 := fun d os => cell_regrown c0 d os
  have k1 := fun d os => cell_regrown c1 d os
  have k2 := fun d os => cell_regrown c2 d os
  clear c0 c1 c2
  have B2 := Lib.hid hb
  clear HD hb1 B1 hb2 hb
  refine wp_region_quiet_below (by kernel_rfl) (by kernel_rfl) ?_
  repeat (go_big_quiet_step (fail))
  refine wpQuiet_nil ?_
  intro _ hw'
  obtain ⟨⟨dq, osq⟩, hw''⟩ := hw'
  subst hw''
  have B3 := Lib.hid (next B2.out (below_regrown w2 dq osq))
  clear k0 k1 k2
  go_wp2_with fail
  go_ret
  exact ⟨rfl, B3.out⟩
set_option maxRecDepth 100000 in
set_option maxHeartbeats 4000000 in
theorem reads_n2 {A : Option Addr} {n cap : Nat} {bs : List Nat} {w : World} (h : Sl w A n cap bs) (hn : n ≤ 800) (hh : Sc.headed bs = false) (h3 : 3 ≤ n) (hc : 8 < bs.getD 0 0) :
    Calls Try.prog 4 #[.slice A n cap] w fun x w' => x = .returned (.bool true) ∧ Below w.heap.size w w' := by
  have hl := h.bytes.1
  have hcap := h.cap
  have d0 : decide ((800 : Int) < (n : Int)) = false := decide_eq_false (by omega)
  obtain ⟨b, off, rfl⟩ := h.plain (by omega)
  have hx0 := h.bytes.lt 0
  have hx1 := h.bytes.lt 1
  have hx2 := h.bytes.lt 2
  have i0 : (0 : Int) < (n : Int) := by omega
  have i1 : (1 : Int) < (n : Int) := by omega
  have i2 : (2 : Int) < (n : Int) := by omega
  have d1 : decide ((n : Int) < 3) = false := decide_eq_false (by omega)
  have d2 : decide (((bs.getD 0 0 : Nat) : Int) < 1) = false := decide_eq_false (by omega)
  have d3 : decide ((8 : Int) < ((bs.getD 0 0 : Nat) : Int)) = true := decide_eq_true (by omega)
  have H := Lib.hid (And.intro h hh)
  clear h hh hl
  go_enter Try.func4, Try.ntmps4
  go_upto_region 3 with (go_at_call 7; refine (head_any w).mono ?_; rintro e w1 ⟨rfl, hb1⟩)
  have HD := decode_none (H.out.1.held hb1) (by omega) H.out.2
  have B1 := Lib.hid hb1
  go_upto_region 6 with (go_at_call 12; refine HD.mono ?_; rintro e w2 ⟨rfl, hb2⟩)
  have hb := next B1.out hb2
  have h2 := H.out.1.held hb
  have c0 : w2.cell? ⟨b, off, none⟩ = some (.int .u8 (bs.getD 0 0 : Nat)) := h2.at_ (k := 0) (by omega)
  have c1 : w2.cell? ⟨b, off + 1, none⟩ = some (.int .u8 (bs.getD 1 0 : Nat)) := h2.at_ (k := 1) (by omega)
  have c2 : w2.cell? ⟨b, off + 2, none⟩ = some (.int .u8 (bs.getD 2 0 : Nat)) := h2.at_ (k := 2) (by omega)
  clear H h2
  generalize bs.getD 0 0 = x0 at *
  generalize bs.getD 1 0 = x1 at *
  generalize bs.getD 2 0 = x2 at *
  have k0 := fun d os => cell_regrown c0 d os
  have k1 := fun d os => cell_regrown c1 d os
  have k2 := fun d os => cell_regrown c2 d os
  clear c0 c1 c2
  have B2 := Lib.hid hb
  clear HD hb1 B1 hb2 hb
  refine wp_region_quiet_below (by kernel_rfl) (by kernel_rfl) ?_
  repeat (go_big_quiet_step (fail))
  refine wpQuiet_nil ?_
  intro _ hw'
  obtain ⟨⟨dq, osq⟩, hw''⟩ := hw'
  subst hw''
  have B3 := Lib.hid (next B2.out (below_regrown w2 dq osq))
  clear k0 k1 k2
  go_wp2_with fail
  go_ret
  exact ⟨rfl, B3.out⟩
set_option maxRecDepth 100000 in
set_option maxHeartbeats 4000000 in
theorem reads_n3 {A : Option Addr} {n cap : Nat} {bs : List Nat} {w : World} (h : Sl w A n cap bs) (hn : n ≤ 800) (hh : Sc.headed bs = false) (h3 : 3 ≤ n) (hc0 : 1 ≤ bs.getD 0 0) (hc1 : bs.getD 0 0 ≤ 8) (hc : 256 * bs.getD 1 0 + bs.getD 2 0 < 1) :
    Calls Try.prog 4 #[.slice A n cap] w fun x w' => x = .returned (.bool true) ∧ Below w.heap.size w w' := by
  have hl := h.bytes.1
  have hcap := h.cap
  have d0 : decide ((800 : Int) < (n : Int)) = false := decide_eq_false (by omega)
  obtain ⟨b, off, rfl⟩ := h.plain (by omega)
  have hx0 := h.bytes.lt 0
  have hx1 := h.bytes.lt 1
  have hx2 := h.bytes.lt 2
  have i0 : (0 : Int) < (n : Int) := by omega
  have i1 : (1 : Int) < (n : Int) := by omega
  have i2 : (2 : Int) < (n : Int) := by omega
  have d1 : decide ((n : Int) < 3) = false := decide_eq_false (by omega)
  have d2 : decide (((bs.getD 0 0 : Nat) : Int) < 1) = false := decide_eq_false (by omega)
  have d3 : decide ((8 : Int) < ((bs.getD 0 0 : Nat) : Int)) = false := decide_eq_false (by omega)
  have d4 : decide ((256 : Int) * ((bs.getD 1 0 : Nat) : Int) + ((bs.getD 2 0 : Nat) : Int) < 1) = true := decide_eq_true (by omega)
  have H := Lib.hid (And.intro h hh)
  clear h hh hl
  go_enter Try.func4, Try.ntmps4
  go_upto_region 3 with (go_at_call 7; refine (head_any w).mono ?_; rintro e w1 ⟨rfl, hb1⟩)
  have HD := decode_none (H.out.1.held hb1) (by omega) H.out.2
  have B1 := Lib.hid hb1
  go_upto_region 6 with (go_at_call 12; refine HD.mono ?_; rintro e w2 ⟨rfl, hb2⟩)
  have hb := next B1.out hb2
  have h2 := H.out.1.held hb
  have c0 : w2.cell? ⟨b, off, none⟩ = some (.int .u8 (bs.getD 0 0 : Nat)) := h2.at_ (k := 0) (by omega)
  have c1 : w2.cell? ⟨b, off + 1, none⟩ = some (.int .u8 (bs.getD 1 0 : Nat)) := h2.at_ (k := 1) (by omega)
  have c2 : w2.cell? ⟨b, off + 2, none⟩ = some (.int .u8 (bs.getD 2 0 : Nat)) := h2.at_ (k := 2) (by omega)
  clear H h2
  generalize bs.getD 0 0 = x0 at *
  generalize bs.getD 1 0 = x1 at *
  generalize bs.getD 2 0 = x2 at *
  have k0 := fun d os => cell_regrown c0 d os
  have k1 := fun d os => cell_regrown c1 d os
  have k2 := fun d os => cell_regrown c2 d os
  clear c0 c1 c2
  have B2 := Lib.hid hb
  clear HD hb1 B1 hb2 hb
  refine wp_region_quiet_below (by kernel_rfl) (by kernel_rfl) ?_
  repeat (go_big_quiet_step (fail))
  refine wpQuiet_nil ?_
  intro _ hw'
  obtain ⟨⟨dq, osq⟩, hw''⟩ := hw'
  subst hw''
  have B3 := Lib.hid (next B2.out (below_regrown w2 dq osq))
  clear k0 k1 k2
  go_wp2_with fail
  go_ret
  exact ⟨rfl, B3.out⟩
set_option maxRecDepth 100000 in
set_option maxHeartbeats 4000000 in
theorem reads_n4 {A : Option Addr} {n cap : Nat} {bs : List Nat} {w : World} (h : Sl w A n cap bs) (hn : n ≤ 800) (hh : Sc.headed bs = false) (h3 : 3 ≤ n) (hc0 : 1 ≤ bs.getD 0 0) (hc1 : bs.getD 0 0 ≤ 8) (hc : 512 < 256 * bs.getD 1 0 + bs.getD 2 0) :
    Calls Try.prog 4 #[.slice A n cap] w fun x w' => x = .returned (.bool true) ∧ Below w.heap.size w w' := by
  have hl := h.bytes.1
  have hcap := h.cap
  have d0 : decide ((800 : Int) < (n : Int)) = false := decide_eq_false (by omega)
  obtain ⟨b, off, rfl⟩ := h.plain (by omega)
  have hx0 := h.bytes.lt 0
  have hx1 := h.bytes.lt 1
  have hx2 := h.bytes.lt 2
  have i0 : (0 : Int) < (n : Int) := by omega
  have i1 : (1 : Int) < (n : Int) := by omega
  have i2 : (2 : Int) < (n : Int) := by omega
  have d1 : decide ((n : Int) < 3) = false := decide_eq_false (by omega)
  have d2 : decide (((bs.getD 0 0 : Nat) : Int) < 1) = false := decide_eq_false (by omega)
  have d3 : decide ((8 : Int) < ((bs.getD 0 0 : Nat) : Int)) = false := decide_eq_false (by omega)
  have d4 : decide ((256 : Int) * ((bs.getD 1 0 : Nat) : Int) + ((bs.getD 2 0 : Nat) : Int) < 1) = false := decide_eq_false (by omega)
  have d5 : decide ((512 : Int) < (256 : Int) * ((bs.getD 1 0 : Nat) : Int) + ((bs.getD 2 0 : Nat) : Int)) = true := decide_eq_true (by omega)
  have H := Lib.hid (And.intro h hh)
  clear h hh hl
  go_enter Try.func4, Try.ntmps4
  go_upto_region 3 with (go_at_call 7; refine (head_any w).mono ?_; rintro e w1 ⟨rfl, hb1⟩)
  have HD := decode_none (H.out.1.held hb1) (by omega) H.out.2
  have B1 := Lib.hid hb1
  go_upto_region 6 with (go_at_call 12; refine HD.mono ?_; rintro e w2 ⟨rfl, hb2⟩)
  have hb := next B1.out hb2
  have h2 := H.out.1.held hb
  have c0 : w2.cell? ⟨b, off, none⟩ = some (.int .u8 (bs.getD 0 0 : Nat)) := h2.at_ (k := 0) (by omega)
  have c1 : w2.cell? ⟨b, off + 1, none⟩ = some (.int .u8 (bs.getD 1 0 : Nat)) := h2.at_ (k := 1) (by omega)
  have c2 : w2.cell? ⟨b, off + 2, none⟩ = some (.int .u8 (bs.getD 2 0 : Nat)) := h2.at_ (k := 2) (by omega)
  clear H h2
  generalize bs.getD 0 0 = x0 at *
  generalize bs.getD 1 0 = x1 at *
  generalize bs.getD 2 0 = x2 at *
  have k0 := fun d os => cell_regrown c0 d os
  have k1 := fun d os => cell_regrown c1 d os
  have k2 := fun d os => cell_regrown c2 d os
  clear c0 c1 c2
  have B2 := Lib.hid hb
  clear HD hb1 B1 hb2 hb
  refine wp_region_quiet_below (by kernel_rfl) (by kernel_rfl) ?_
  repeat (go_big_quiet_step (fail))
  refine wpQuiet_nil ?_
  intro _ hw'
  obtain ⟨⟨dq, osq⟩, hw''⟩ := hw'
  subst hw''
  have B3 := Lib.hid (next B2.out (below_regrown w2 dq osq))
  clear k0 k1 k2
  go_wp2_with fail
  go_ret
  exact ⟨rfl, B3.out⟩
theorem reads_none {A : Option Addr} {n cap : Nat} {bs : List Nat} {w : World} (h : Sl w A n cap bs) (hn : n ≤ 800) (hh : Sc.headed bs = false) :
    Calls Try.prog 4 #[.slice A n cap] w fun x w' => x = .returned (.bool true) ∧ Below w.heap.size w w' := by
  by_cases h3 : n < 3
  · exact reads_n0 h hn hh h3
  have h3' : 3 ≤ n := by omega
  by_cases a0 : bs.getD 0 0 < 1
  · exact reads_n1 h hn hh h3' a0
  by_cases a1 : 8 < bs.getD 0 0
  · exact reads_n2 h hn hh h3' a1
  by_cases a2 : 256 * bs.getD 1 0 + bs.getD 2 0 < 1
  · exact reads_n3 h hn hh h3' (by omega) (by omega) a2
  by_cases a3 : 512 < 256 * bs.getD 1 0 + bs.getD 2 0
  · exact reads_n4 h hn hh h3' (by omega) (by omega) a3
  · exfalso
    unfold Sc.headed Sc.scripted at hh
    rw [h.bytes.1, decide_eq_true h3', decide_eq_true (show (1 : Int) ≤ ((bs.getD 0 0 : Nat) : Int) by omega), decide_eq_true (show ((bs.getD 0 0 : Nat) : Int) ≤ 8 by omega), decide_eq_true (show (1 : Int) ≤ ((bs.getD 1 0 * 256 + bs.getD 2 0 : Nat) : Int) by omega), decide_eq_true (show ((bs.getD 1 0 * 256 + bs.getD 2 0 : Nat) : Int) ≤ 512 by omega)] at hh
    cases hh
set_option maxRecDepth 100000 in
set_option maxHeartbeats 1000000 in
theorem reads_long {A : Option Addr} {n cap : Nat} {w : World} (hn : 800 < n) (hmx : n ≤ maxLen) :
    Calls Try.prog 4 #[.slice A n cap] w fun x w' => x = .returned (.bool true) ∧ Below w.heap.size w w' := by
  have d0 : decide ((800 : Int) < (n : Int)) = true := decide_eq_true (by omega)
  have hmx' : n ≤ 9223372036854775807 := by unfold maxLen at hmx; omega
  clear hmx
  go_enter Try.func4, Try.ntmps4
  go_wp2_with (go_at_call 7; refine (head_any w).mono ?_; rintro e w1 ⟨rfl, hb1⟩)
  go_ret
  exact ⟨rfl, hb1⟩
end Go.Proofs.Ytnpocnfmekgieaa
