/-
  A sort that keeps the order of equals: up to sixty entries, by how many there are.
-/
import Derived.Test.YtblhijgjidfioaaStbF
namespace Go.Proofs.Ytblhijgjidfioaa
open Go.RowKit Go.Lib Go.Sort Fm Sb

/-- nothing from lo on has moved -/
def Raw (lo n : Nat) (d : Array De) : Prop := ∀ p, lo ≤ p → p < n → d[p]!.i = p
/-- a run: in order, of its own places -/
structure Run (lo hi : Nat) (d : Array De) : Prop where
  srt : Srt lo hi d
  bnd : ∀ p, lo ≤ p → p < hi → lo ≤ d[p]!.i ∧ d[p]!.i < hi
theorem Raw.keep {lo n a b : Nat} {d d' : Array De} (h : Raw lo n d) (hp : PermIn a b d d') (hb : b ≤ lo) : Raw lo n d' := fun p h1 h2 => by rw [hp.2.1 p (.inr (by omega))]; exact h p h1 h2
theorem Raw.later {lo lo' n : Nat} {d : Array De} (h : Raw lo n d) (hl : lo ≤ lo') : Raw lo' n d := fun p h1 h2 => h p (by omega) h2
theorem Raw.inc {lo n : Nat} {d : Array De} (h : Raw lo n d) {a b : Nat} (ha : lo ≤ a) (hb : b ≤ n) : ∀ p q, a ≤ p → p < q → q < b → d[p]!.i < d[q]!.i := fun p q h1 h2 h3 => by rw [h p (by omega) (by omega), h q (by omega) (by omega)]; exact h2
theorem Raw.run {lo n a b : Nat} {d d' : Array De} (h : Raw lo n d) (ha : lo ≤ a) (hb : b ≤ n) (hbs : b ≤ d.size) (hp : PermIn a b d d') (hs : Srt a b d') : Run a b d' :=
  ⟨hs, permIn_all d d' a b (fun x => a ≤ x.i ∧ x.i < b) hbs hp fun p h1 h2 => by rw [h p (by omega) (by omega)]; exact ⟨h1, h2⟩⟩
theorem Run.keep {lo hi a b : Nat} {d d' : Array De} (h : Run lo hi d) (hp : PermIn a b d d') (hd : hi ≤ a ∨ b ≤ lo) : Run lo hi d' := by
  have e : ∀ p, lo ≤ p → p < hi → d'[p]! = d[p]! := fun p h1 h2 => hp.2.1 p (by omega)
  exact ⟨h.srt.same e, fun p h1 h2 => by rw [e p h1 h2]; exact h.bnd p h1 h2⟩
theorem Run.mer {a m b : Nat} {d : Array De} (h1 : Run a m d) (h2 : Run m b d) : Mer a m b d := ⟨h1.srt, h2.srt, fun i j k1 k2 k3 k4 => by have := (h1.bnd i k1 k2).2; have := (h2.bnd j k3 k4).1; omega⟩
theorem Run.join {a m b : Nat} {d d' : Array De} (h1 : Run a m d) (h2 : Run m b d) (ham : a ≤ m) (hmb : m ≤ b) (hb : b ≤ d.size) (hp : PermIn a b d d') (hs : Srt a b d') : Run a b d' :=
  ⟨hs, permIn_all d d' a b (fun x => a ≤ x.i ∧ x.i < b) hb hp fun p k1 k2 => by
    by_cases c : p < m
    · have := h1.bnd p k1 c; omega
    · have := h2.bnd p (by omega) k2; omega⟩
/-- where the sort stands -/
structure Stg (blk off n : Nat) (w0 : World) (d0 : Array De) (W : World) (dk : Array De) : Prop where
  s : SW w0 blk off dk W
  sz : dk.size = n
  s0 : dk.size = d0.size
  perm : PermIn 0 n d0 dk
theorem Stg.next {blk off n : Nat} {w0 W W' : World} {d0 dk d' : Array De} (h : Stg blk off n w0 d0 W dk) (hS : SW w0 blk off d' W') {a b : Nat} (hp : PermIn a b dk d') (hb : b ≤ n) : Stg blk off n w0 d0 W' d' :=
  ⟨hS, hp.1.trans h.sz, hp.1.trans h.s0, permIn_trans _ _ _ _ _ h.perm (permIn_mono _ _ _ _ _ _ (Nat.zero_le _) hb (by rw [h.sz]; exact Nat.le_refl _) hp)⟩
theorem ins_at {blk off cap sz a b : Nat} {za zb : Int} {d0 d : Array De} {w0 w : World} (ea : za = (a : Int)) (eb : zb = (b : Int)) (R : RW w0 blk off d0) (hs : d.size = d0.size) (hz : d.size = sz) (S : SW w0 blk off d w) (hab : a ≤ b) (hb : b ≤ d.size) (hsz : d.size < 4611686018427387904) (hi : ∀ p q, a ≤ p → p < q → q < b → d[p]!.i < d[q]!.i) :
    Calls Try.prog 63 #[.slice (some ⟨blk, off, none⟩) sz cap, .int .i64 za, .int .i64 zb, .func (.func 38) #[] #[]] w fun e w' => e = .returned (.tuple #[]) ∧ ∃ d', SW w0 blk off d' w' ∧ PermIn a b d d' ∧ Srt a b d' := by
  subst ea eb
  exact ins_any R hs hz S hab hb hsz hi
theorem sym_at {blk off cap sz a m b : Nat} {za zm zb : Int} {d0 d : Array De} {w0 w : World} (ea : za = (a : Int)) (em : zm = (m : Int)) (eb : zb = (b : Int)) (R : RW w0 blk off d0) (hs : d.size = d0.size) (hz : d.size = sz) (S : SW w0 blk off d w) (ham : a < m) (hmb : m < b) (hb : b ≤ d.size) (hsz : d.size < 4611686018427387904) (hM : Mer a m b d) :
    Calls Try.prog 64 #[.slice (some ⟨blk, off, none⟩) sz cap, .int .i64 za, .int .i64 zm, .int .i64 zb, .func (.func 38) #[] #[]] w fun e w' => e = .returned (.tuple #[]) ∧ ∃ d', SW w0 blk off d' w' ∧ PermIn a b d d' ∧ Srt a b d' := by
  subst ea em eb
  exact sym_any R (by omega) _ a m b d w (Nat.le_refl _) hs hz S ham hmb hb hM

set_option maxHeartbeats 2000000 in
set_option maxRecDepth 100000 in
theorem stable_lt20 {blk off cap n : Nat} {d : Array De} {w : World} (R : RW w blk off d) (hn : d.size = n) (hc : n < 20) (hraw : Raw 0 n d) :
    Calls Try.prog 50 #[.slice (some ⟨blk, off, none⟩) n cap, .int .i64 n, .func (.func 38) #[] #[]] w fun e w' => e = .returned (.tuple #[]) ∧ ∃ d', SW w blk off d' w' ∧ PermIn 0 n d d' ∧ Srt 0 n d' := by
  have G0 := Lib.hid (show Stg blk off n w d w d from ⟨SWK.start R.hH, hn, rfl, permIn_refl d 0 n⟩)
  have Q0 := Lib.hid hraw
  clear hn hraw
  have p0 : ¬ ((20 : Int) ≤ (n : Int)) := by omega
  have p1 : ¬ ((20 : Int) < (n : Int)) := by omega
  go_enter Try.func50, Try.ntmps50
  go_wp2_with fail
  repeat ((first | rw [rounds_succ] | refine wp_loop_rounds 4 ?_); go_wp2_with fail)
  refine (ins_at (a := 0) (b := n) rfl rfl R G0.out.s0 G0.out.sz G0.out.s (by omega) (by rw [G0.out.sz]; omega) (by rw [G0.out.sz]; omega) (Q0.out.inc (by omega) (by omega))).mono ?_
  rintro e w1 ⟨rfl, d1, hS, hP, hT⟩
  have G1 := Lib.hid (G0.out.next hS hP (by omega))
  have R1_1 := Lib.hid (Q0.out.run (by omega) (by omega) (by rw [G0.out.sz]; omega) hP hT)
  have Q1 := Lib.hid ((Q0.out.later (lo' := n) (by omega)).keep hP (by omega))
  clear hS hP hT
  go_wp2_with fail
  repeat ((first | rw [rounds_succ] | refine wp_loop_rounds 4 ?_); go_wp2_with fail)
  go_end0
  exact ⟨rfl, d1, G1.out.s, G1.out.perm, R1_1.out.srt⟩

set_option maxHeartbeats 2000000 in
set_option maxRecDepth 100000 in
theorem stable_eq20 {blk off cap : Nat} {d : Array De} {w : World} (R : RW w blk off d) (hn : d.size = 20) (hraw : Raw 0 20 d) :
    Calls Try.prog 50 #[.slice (some ⟨blk, off, none⟩) 20 cap, .int .i64 20, .func (.func 38) #[] #[]] w fun e w' => e = .returned (.tuple #[]) ∧ ∃ d', SW w blk off d' w' ∧ PermIn 0 20 d d' ∧ Srt 0 20 d' := by
  have G0 := Lib.hid (show Stg blk off 20 w d w d from ⟨SWK.start R.hH, hn, rfl, permIn_refl d 0 20⟩)
  have Q0 := Lib.hid hraw
  clear hn hraw
  go_enter Try.func50, Try.ntmps50
  go_wp2_with fail
  repeat ((first | rw [rounds_succ] | refine wp_loop_rounds 4 ?_); go_wp2_with fail)
  refine (ins_at (a := 0) (b := 20) rfl rfl R G0.out.s0 G0.out.sz G0.out.s (by omega) (by rw [G0.out.sz]; omega) (by rw [G0.out.sz]; omega) (Q0.out.inc (by omega) (by omega))).mono ?_
  rintro e w1 ⟨rfl, d1, hS, hP, hT⟩
  have G1 := Lib.hid (G0.out.next hS hP (by omega))
  have R1_1 := Lib.hid (Q0.out.run (by omega) (by omega) (by rw [G0.out.sz]; omega) hP hT)
  have Q1 := Lib.hid ((Q0.out.later (lo' := 20) (by omega)).keep hP (by omega))
  clear hS hP hT
  go_wp2_with fail
  repeat ((first | rw [rounds_succ] | refine wp_loop_rounds 4 ?_); go_wp2_with fail)
  refine (ins_at (a := 20) (b := 20) rfl rfl R G1.out.s0 G1.out.sz G1.out.s (by omega) (by rw [G1.out.sz]; omega) (by rw [G1.out.sz]; omega) (Q1.out.inc (by omega) (by omega))).mono ?_
  rintro e w2 ⟨rfl, d2, hS, hP, hT⟩
  have G2 := Lib.hid (G1.out.next hS hP (by omega))
  have R1_2 := Lib.hid (R1_1.out.keep hP (by omega))
  have Q2 := Lib.hid ((Q1.out.later (lo' := 20) (by omega)).keep hP (by omega))
  clear hS hP hT
  go_wp2_with fail
  repeat ((first | rw [rounds_succ] | refine wp_loop_rounds 4 ?_); go_wp2_with fail)
  go_end0
  exact ⟨rfl, d2, G2.out.s, G2.out.perm, R1_2.out.srt⟩

set_option maxHeartbeats 2000000 in
set_option maxRecDepth 100000 in
theorem stable_lt40 {blk off cap n : Nat} {d : Array De} {w : World} (R : RW w blk off d) (hn : d.size = n) (hc : 20 < n ∧ n < 40) (hraw : Raw 0 n d) :
    Calls Try.prog 50 #[.slice (some ⟨blk, off, none⟩) n cap, .int .i64 n, .func (.func 38) #[] #[]] w fun e w' => e = .returned (.tuple #[]) ∧ ∃ d', SW w blk off d' w' ∧ PermIn 0 n d d' ∧ Srt 0 n d' := by
  have G0 := Lib.hid (show Stg blk off n w d w d from ⟨SWK.start R.hH, hn, rfl, permIn_refl d 0 n⟩)
  have Q0 := Lib.hid hraw
  clear hn hraw
  have p0 : ¬ ((40 : Int) ≤ (n : Int)) := by omega
  have p1 : (20 : Int) ≤ (n : Int) := by omega
  have p2 : (20 : Int) < (n : Int) := by omega
  have p3 : ¬ ((40 : Int) < (n : Int)) := by omega
  go_enter Try.func50, Try.ntmps50
  go_wp2_with fail
  repeat ((first | rw [rounds_succ] | refine wp_loop_rounds 4 ?_); go_wp2_with fail)
  refine (ins_at (a := 0) (b := 20) rfl rfl R G0.out.s0 G0.out.sz G0.out.s (by omega) (by rw [G0.out.sz]; omega) (by rw [G0.out.sz]; omega) (Q0.out.inc (by omega) (by omega))).mono ?_
  rintro e w1 ⟨rfl, d1, hS, hP, hT⟩
  have G1 := Lib.hid (G0.out.next hS hP (by omega))
  have R1_1 := Lib.hid (Q0.out.run (by omega) (by omega) (by rw [G0.out.sz]; omega) hP hT)
  have Q1 := Lib.hid ((Q0.out.later (lo' := 20) (by omega)).keep hP (by omega))
  clear hS hP hT
  go_wp2_with fail
  repeat ((first | rw [rounds_succ] | refine wp_loop_rounds 4 ?_); go_wp2_with fail)
  refine (ins_at (a := 20) (b := n) rfl rfl R G1.out.s0 G1.out.sz G1.out.s (by omega) (by rw [G1.out.sz]; omega) (by rw [G1.out.sz]; omega) (Q1.out.inc (by omega) (by omega))).mono ?_
  rintro e w2 ⟨rfl, d2, hS, hP, hT⟩
  have G2 := Lib.hid (G1.out.next hS hP (by omega))
  have R1_2 := Lib.hid (R1_1.out.keep hP (by omega))
  have R2_2 := Lib.hid (Q1.out.run (by omega) (by omega) (by rw [G1.out.sz]; omega) hP hT)
  have Q2 := Lib.hid ((Q1.out.later (lo' := n) (by omega)).keep hP (by omega))
  clear hS hP hT
  go_wp2_with fail
  repeat ((first | rw [rounds_succ] | refine wp_loop_rounds 4 ?_); go_wp2_with fail)
  refine (sym_at (a := 0) (m := 20) (b := n) rfl rfl rfl R G2.out.s0 G2.out.sz G2.out.s (by omega) (by omega) (by rw [G2.out.sz]; omega) (by rw [G2.out.sz]; omega) (R1_2.out.mer R2_2.out)).mono ?_
  rintro e w3 ⟨rfl, d3, hS, hP, hT⟩
  have G3 := Lib.hid (G2.out.next hS hP (by omega))
  have R1_3 := Lib.hid (R1_2.out.join R2_2.out (by omega) (by omega) (by rw [G2.out.sz]; omega) hP hT)
  have Q3 := Lib.hid True.intro
  clear hS hP hT
  go_wp2_with fail
  repeat ((first | rw [rounds_succ] | refine wp_loop_rounds 4 ?_); go_wp2_with fail)
  go_end0
  exact ⟨rfl, d3, G3.out.s, G3.out.perm, R1_3.out.srt⟩

set_option maxHeartbeats 2000000 in
set_option maxRecDepth 100000 in
theorem stable_eq40 {blk off cap : Nat} {d : Array De} {w : World} (R : RW w blk off d) (hn : d.size = 40) (hraw : Raw 0 40 d) :
    Calls Try.prog 50 #[.slice (some ⟨blk, off, none⟩) 40 cap, .int .i64 40, .func (.func 38) #[] #[]] w fun e w' => e = .returned (.tuple #[]) ∧ ∃ d', SW w blk off d' w' ∧ PermIn 0 40 d d' ∧ Srt 0 40 d' := by
  have G0 := Lib.hid (show Stg blk off 40 w d w d from ⟨SWK.start R.hH, hn, rfl, permIn_refl d 0 40⟩)
  have Q0 := Lib.hid hraw
  clear hn hraw
  go_enter Try.func50, Try.ntmps50
  go_wp2_with fail
  repeat ((first | rw [rounds_succ] | refine wp_loop_rounds 4 ?_); go_wp2_with fail)
  refine (ins_at (a := 0) (b := 20) rfl rfl R G0.out.s0 G0.out.sz G0.out.s (by omega) (by rw [G0.out.sz]; omega) (by rw [G0.out.sz]; omega) (Q0.out.inc (by omega) (by omega))).mono ?_
  rintro e w1 ⟨rfl, d1, hS, hP, hT⟩
  have G1 := Lib.hid (G0.out.next hS hP (by omega))
  have R1_1 := Lib.hid (Q0.out.run (by omega) (by omega) (by rw [G0.out.sz]; omega) hP hT)
  have Q1 := Lib.hid ((Q0.out.later (lo' := 20) (by omega)).keep hP (by omega))
  clear hS hP hT
  go_wp2_with fail
  repeat ((first | rw [rounds_succ] | refine wp_loop_rounds 4 ?_); go_wp2_with fail)
  refine (ins_at (a := 20) (b := 40) rfl rfl R G1.out.s0 G1.out.sz G1.out.s (by omega) (by rw [G1.out.sz]; omega) (by rw [G1.out.sz]; omega) (Q1.out.inc (by omega) (by omega))).mono ?_
  rintro e w2 ⟨rfl, d2, hS, hP, hT⟩
  have G2 := Lib.hid (G1.out.next hS hP (by omega))
  have R1_2 := Lib.hid (R1_1.out.keep hP (by omega))
  have R2_2 := Lib.hid (Q1.out.run (by omega) (by omega) (by rw [G1.out.sz]; omega) hP hT)
  have Q2 := Lib.hid ((Q1.out.later (lo' := 40) (by omega)).keep hP (by omega))
  clear hS hP hT
  go_wp2_with fail
  repeat ((first | rw [rounds_succ] | refine wp_loop_rounds 4 ?_); go_wp2_with fail)
  refine (ins_at (a := 40) (b := 40) rfl rfl R G2.out.s0 G2.out.sz G2.out.s (by omega) (by rw [G2.out.sz]; omega) (by rw [G2.out.sz]; omega) (Q2.out.inc (by omega) (by omega))).mono ?_
  rintro e w3 ⟨rfl, d3, hS, hP, hT⟩
  have G3 := Lib.hid (G2.out.next hS hP (by omega))
  have R1_3 := Lib.hid (R1_2.out.keep hP (by omega))
  have R2_3 := Lib.hid (R2_2.out.keep hP (by omega))
  have Q3 := Lib.hid ((Q2.out.later (lo' := 40) (by omega)).keep hP (by omega))
  clear hS hP hT
  go_wp2_with fail
  repeat ((first | rw [rounds_succ] | refine wp_loop_rounds 4 ?_); go_wp2_with fail)
  refine (sym_at (a := 0) (m := 20) (b := 40) rfl rfl rfl R G3.out.s0 G3.out.sz G3.out.s (by omega) (by omega) (by rw [G3.out.sz]; omega) (by rw [G3.out.sz]; omega) (R1_3.out.mer R2_3.out)).mono ?_
  rintro e w4 ⟨rfl, d4, hS, hP, hT⟩
  have G4 := Lib.hid (G3.out.next hS hP (by omega))
  have R1_4 := Lib.hid (R1_3.out.join R2_3.out (by omega) (by omega) (by rw [G3.out.sz]; omega) hP hT)
  have Q4 := Lib.hid True.intro
  clear hS hP hT
  go_wp2_with fail
  repeat ((first | rw [rounds_succ] | refine wp_loop_rounds 4 ?_); go_wp2_with fail)
  go_end0
  exact ⟨rfl, d4, G4.out.s, G4.out.perm, R1_4.out.srt⟩

set_option maxHeartbeats 2000000 in
set_option maxRecDepth 100000 in
theorem stable_lt60 {blk off cap n : Nat} {d : Array De} {w : World} (R : RW w blk off d) (hn : d.size = n) (hc : 40 < n ∧ n < 60) (hraw : Raw 0 n d) :
    Calls Try.prog 50 #[.slice (some ⟨blk, off, none⟩) n cap, .int .i64 n, .func (.func 38) #[] #[]] w fun e w' => e = .returned (.tuple #[]) ∧ ∃ d', SW w blk off d' w' ∧ PermIn 0 n d d' ∧ Srt 0 n d' := by
  have G0 := Lib.hid (show Stg blk off n w d w d from ⟨SWK.start R.hH, hn, rfl, permIn_refl d 0 n⟩)
  have Q0 := Lib.hid hraw
  clear hn hraw
  have p0 : ¬ ((60 : Int) ≤ (n : Int)) := by omega
  have p1 : (20 : Int) ≤ (n : Int) := by omega
  have p2 : (40 : Int) ≤ (n : Int) := by omega
  have p3 : (20 : Int) < (n : Int) := by omega
  have p4 : (40 : Int) < (n : Int) := by omega
  have p5 : ¬ ((60 : Int) < (n : Int)) := by omega
  have p6 : ¬ ((80 : Int) ≤ (n : Int)) := by omega
  have p7 : ¬ ((80 : Int) < (n : Int)) := by omega
  go_enter Try.func50, Try.ntmps50
  go_wp2_with fail
  repeat ((first | rw [rounds_succ] | refine wp_loop_rounds 4 ?_); go_wp2_with fail)
  refine (ins_at (a := 0) (b := 20) rfl rfl R G0.out.s0 G0.out.sz G0.out.s (by omega) (by rw [G0.out.sz]; omega) (by rw [G0.out.sz]; omega) (Q0.out.inc (by omega) (by omega))).mono ?_
  rintro e w1 ⟨rfl, d1, hS, hP, hT⟩
  have G1 := Lib.hid (G0.out.next hS hP (by omega))
  have R1_1 := Lib.hid (Q0.out.run (by omega) (by omega) (by rw [G0.out.sz]; omega) hP hT)
  have Q1 := Lib.hid ((Q0.out.later (lo' := 20) (by omega)).keep hP (by omega))
  clear hS hP hT
  go_wp2_with fail
  repeat ((first | rw [rounds_succ] | refine wp_loop_rounds 4 ?_); go_wp2_with fail)
  refine (ins_at (a := 20) (b := 40) rfl rfl R G1.out.s0 G1.out.sz G1.out.s (by omega) (by rw [G1.out.sz]; omega) (by rw [G1.out.sz]; omega) (Q1.out.inc (by omega) (by omega))).mono ?_
  rintro e w2 ⟨rfl, d2, hS, hP, hT⟩
  have G2 := Lib.hid (G1.out.next hS hP (by omega))
  have R1_2 := Lib.hid (R1_1.out.keep hP (by omega))
  have R2_2 := Lib.hid (Q1.out.run (by omega) (by omega) (by rw [G1.out.sz]; omega) hP hT)
  have Q2 := Lib.hid ((Q1.out.later (lo' := 40) (by omega)).keep hP (by omega))
  clear hS hP hT
  go_wp2_with fail
  repeat ((first | rw [rounds_succ] | refine wp_loop_rounds 4 ?_); go_wp2_with fail)
  refine (ins_at (a := 40) (b := n) rfl rfl R G2.out.s0 G2.out.sz G2.out.s (by omega) (by rw [G2.out.sz]; omega) (by rw [G2.out.sz]; omega) (Q2.out.inc (by omega) (by omega))).mono ?_
  rintro e w3 ⟨rfl, d3, hS, hP, hT⟩
  have G3 := Lib.hid (G2.out.next hS hP (by omega))
  have R1_3 := Lib.hid (R1_2.out.keep hP (by omega))
  have R2_3 := Lib.hid (R2_2.out.keep hP (by omega))
  have R3_3 := Lib.hid (Q2.out.run (by omega) (by omega) (by rw [G2.out.sz]; omega) hP hT)
  have Q3 := Lib.hid ((Q2.out.later (lo' := n) (by omega)).keep hP (by omega))
  clear hS hP hT
  go_wp2_with fail
  repeat ((first | rw [rounds_succ] | refine wp_loop_rounds 4 ?_); go_wp2_with fail)
  refine (sym_at (a := 0) (m := 20) (b := 40) rfl rfl rfl R G3.out.s0 G3.out.sz G3.out.s (by omega) (by omega) (by rw [G3.out.sz]; omega) (by rw [G3.out.sz]; omega) (R1_3.out.mer R2_3.out)).mono ?_
  rintro e w4 ⟨rfl, d4, hS, hP, hT⟩
  have G4 := Lib.hid (G3.out.next hS hP (by omega))
  have R3_4 := Lib.hid (R3_3.out.keep hP (by omega))
  have R1_4 := Lib.hid (R1_3.out.join R2_3.out (by omega) (by omega) (by rw [G3.out.sz]; omega) hP hT)
  have Q4 := Lib.hid True.intro
  clear hS hP hT
  go_wp2_with fail
  repeat ((first | rw [rounds_succ] | refine wp_loop_rounds 4 ?_); go_wp2_with fail)
  refine (sym_at (a := 0) (m := 40) (b := n) rfl rfl rfl R G4.out.s0 G4.out.sz G4.out.s (by omega) (by omega) (by rw [G4.out.sz]; omega) (by rw [G4.out.sz]; omega) (R1_4.out.mer R3_4.out)).mono ?_
  rintro e w5 ⟨rfl, d5, hS, hP, hT⟩
  have G5 := Lib.hid (G4.out.next hS hP (by omega))
  have R1_5 := Lib.hid (R1_4.out.join R3_4.out (by omega) (by omega) (by rw [G4.out.sz]; omega) hP hT)
  have Q5 := Lib.hid True.intro
  clear hS hP hT
  go_wp2_with fail
  repeat ((first | rw [rounds_succ] | refine wp_loop_rounds 4 ?_); go_wp2_with fail)
  go_end0
  exact ⟨rfl, d5, G5.out.s, G5.out.perm, R1_5.out.srt⟩

set_option maxHeartbeats 2000000 in
set_option maxRecDepth 100000 in
theorem stable_eq60 {blk off cap : Nat} {d : Array De} {w : World} (R : RW w blk off d) (hn : d.size = 60) (hraw : Raw 0 60 d) :
    Calls Try.prog 50 #[.slice (some ⟨blk, off, none⟩) 60 cap, .int .i64 60, .func (.func 38) #[] #[]] w fun e w' => e = .returned (.tuple #[]) ∧ ∃ d', SW w blk off d' w' ∧ PermIn 0 60 d d' ∧ Srt 0 60 d' := by
  have G0 := Lib.hid (show Stg blk off 60 w d w d from ⟨SWK.start R.hH, hn, rfl, permIn_refl d 0 60⟩)
  have Q0 := Lib.hid hraw
  clear hn hraw
  go_enter Try.func50, Try.ntmps50
  go_wp2_with fail
  repeat ((first | rw [rounds_succ] | refine wp_loop_rounds 4 ?_); go_wp2_with fail)
  refine (ins_at (a := 0) (b := 20) rfl rfl R G0.out.s0 G0.out.sz G0.out.s (by omega) (by rw [G0.out.sz]; omega) (by rw [G0.out.sz]; omega) (Q0.out.inc (by omega) (by omega))).mono ?_
  rintro e w1 ⟨rfl, d1, hS, hP, hT⟩
  have G1 := Lib.hid (G0.out.next hS hP (by omega))
  have R1_1 := Lib.hid (Q0.out.run (by omega) (by omega) (by rw [G0.out.sz]; omega) hP hT)
  have Q1 := Lib.hid ((Q0.out.later (lo' := 20) (by omega)).keep hP (by omega))
  clear hS hP hT
  go_wp2_with fail
  repeat ((first | rw [rounds_succ] | refine wp_loop_rounds 4 ?_); go_wp2_with fail)
  refine (ins_at (a := 20) (b := 40) rfl rfl R G1.out.s0 G1.out.sz G1.out.s (by omega) (by rw [G1.out.sz]; omega) (by rw [G1.out.sz]; omega) (Q1.out.inc (by omega) (by omega))).mono ?_
  rintro e w2 ⟨rfl, d2, hS, hP, hT⟩
  have G2 := Lib.hid (G1.out.next hS hP (by omega))
  have R1_2 := Lib.hid (R1_1.out.keep hP (by omega))
  have R2_2 := Lib.hid (Q1.out.run (by omega) (by omega) (by rw [G1.out.sz]; omega) hP hT)
  have Q2 := Lib.hid ((Q1.out.later (lo' := 40) (by omega)).keep hP (by omega))
  clear hS hP hT
  go_wp2_with fail
  repeat ((first | rw [rounds_succ] | refine wp_loop_rounds 4 ?_); go_wp2_with fail)
  refine (ins_at (a := 40) (b := 60) rfl rfl R G2.out.s0 G2.out.sz G2.out.s (by omega) (by rw [G2.out.sz]; omega) (by rw [G2.out.sz]; omega) (Q2.out.inc (by omega) (by omega))).mono ?_
  rintro e w3 ⟨rfl, d3, hS, hP, hT⟩
  have G3 := Lib.hid (G2.out.next hS hP (by omega))
  have R1_3 := Lib.hid (R1_2.out.keep hP (by omega))
  have R2_3 := Lib.hid (R2_2.out.keep hP (by omega))
  have R3_3 := Lib.hid (Q2.out.run (by omega) (by omega) (by rw [G2.out.sz]; omega) hP hT)
  have Q3 := Lib.hid ((Q2.out.later (lo' := 60) (by omega)).keep hP (by omega))
  clear hS hP hT
  go_wp2_with fail
  repeat ((first | rw [rounds_succ] | refine wp_loop_rounds 4 ?_); go_wp2_with fail)
  refine (ins_at (a := 60) (b := 60) rfl rfl R G3.out.s0 G3.out.sz G3.out.s (by omega) (by rw [G3.out.sz]; omega) (by rw [G3.out.sz]; omega) (Q3.out.inc (by omega) (by omega))).mono ?_
  rintro e w4 ⟨rfl, d4, hS, hP, hT⟩
  have G4 := Lib.hid (G3.out.next hS hP (by omega))
  have R1_4 := Lib.hid (R1_3.out.keep hP (by omega))
  have R2_4 := Lib.hid (R2_3.out.keep hP (by omega))
  have R3_4 := Lib.hid (R3_3.out.keep hP (by omega))
  have Q4 := Lib.hid ((Q3.out.later (lo' := 60) (by omega)).keep hP (by omega))
  clear hS hP hT
  go_wp2_with fail
  repeat ((first | rw [rounds_succ] | refine wp_loop_rounds 4 ?_); go_wp2_with fail)
  refine (sym_at (a := 0) (m := 20) (b := 40) rfl rfl rfl R G4.out.s0 G4.out.sz G4.out.s (by omega) (by omega) (by rw [G4.out.sz]; omega) (by rw [G4.out.sz]; omega) (R1_4.out.mer R2_4.out)).mono ?_
  rintro e w5 ⟨rfl, d5, hS, hP, hT⟩
  have G5 := Lib.hid (G4.out.next hS hP (by omega))
  have R3_5 := Lib.hid (R3_4.out.keep hP (by omega))
  have R1_5 := Lib.hid (R1_4.out.join R2_4.out (by omega) (by omega) (by rw [G4.out.sz]; omega) hP hT)
  have Q5 := Lib.hid True.intro
  clear hS hP hT
  go_wp2_with fail
  repeat ((first | rw [rounds_succ] | refine wp_loop_rounds 4 ?_); go_wp2_with fail)
  refine (sym_at (a := 0) (m := 40) (b := 60) rfl rfl rfl R G5.out.s0 G5.out.sz G5.out.s (by omega) (by omega) (by rw [G5.out.sz]; omega) (by rw [G5.out.sz]; omega) (R1_5.out.mer R3_5.out)).mono ?_
  rintro e w6 ⟨rfl, d6, hS, hP, hT⟩
  have G6 := Lib.hid (G5.out.next hS hP (by omega))
  have R1_6 := Lib.hid (R1_5.out.join R3_5.out (by omega) (by omega) (by rw [G5.out.sz]; omega) hP hT)
  have Q6 := Lib.hid True.intro
  clear hS hP hT
  go_wp2_with fail
  repeat ((first | rw [rounds_succ] | refine wp_loop_rounds 4 ?_); go_wp2_with fail)
  go_end0
  exact ⟨rfl, d6, G6.out.s, G6.out.perm, R1_6.out.srt⟩
end Go.Proofs.Ytblhijgjidfioaa
