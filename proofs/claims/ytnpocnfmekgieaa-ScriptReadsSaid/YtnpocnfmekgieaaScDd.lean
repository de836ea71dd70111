/-
  The contract of script's Decode.
-/
import Derived.Test.YtnpocnfmekgieaaScD
import Derived.Test.YtnpocnfmekgieaaScN
import Derived.Lib.QuietBelow
namespace Go.Proofs.Ytnpocnfmekgieaa
open Go.RowKit Go.Maps Sc

/-- the machines and sectors with which bytes begin are such as a script may have -/
def Sc.headed (b : List Nat) : Bool := decide (3 ≤ b.length) && Sc.scripted (b.getD 0 0 : Nat) (b.getD 1 0 * 256 + b.getD 2 0 : Nat)
theorem val_pair {bs : List Nat} (h : 3 ≤ bs.length) : val ((bs.drop 1).take 2) = bs.getD 1 0 * 256 + bs.getD 2 0 := by
  have : (bs.drop 1).take 2 = [bs.getD 1 0, bs.getD 2 0] := by
    apply List.ext_getElem
    · simp; omega
    · intro k h1 h2
      have hk : k = 0 ∨ k = 1 := by simp at h2; omega
      rcases hk with rfl | rfl <;> simp [List.getD, show 1 < bs.length by omega, show 2 < bs.length by omega]
  rw [this]; simp [val]
theorem ret5 {fn : Func} {a b c d e : Tmp} (h : fn.results = #[.tmp a, .tmp b, .tmp c, .tmp d, .tmp e]) (tmps : Array Value) (P : Program) (w : World) :
    (results fn tmps).run P w = .ok (.tuple #[tmps.getD a undef, tmps.getD b undef, tmps.getD c undef, tmps.getD d undef, tmps.getD e undef]) w := by
  simp [results, h]

set_option maxRecDepth 100000 in
set_option maxHeartbeats 2000000 in
theorem decode_none {A : Option Addr} {n cap : Nat} {bs : List Nat} {w : World} (h : Sl w A n cap bs) (hn : n ≤ 262144) (hh : Sc.headed bs = false) :
    Calls Try.prog 12 #[.slice A n cap] w fun x w' => x = .returned (.tuple #[.int .i64 0, .int .i64 0, .slice none 0 0, .int .i64 0, .int .i64 6]) ∧ Below w.heap.size w w' := by
  have hl := h.bytes.1
  have hcap := h.cap
  have d0 : decide ((262144 : Int) < (n : Int)) = false := decide_eq_false (by omega)
  by_cases h3 : n < 3
  · have d1 : decide ((n : Int) < 3) = true := decide_eq_true (by omega)
    clear h hh hl
    go_enter Try.func12, Try.ntmps12
    go_wp2_with fail
    refine bodyPost_ret (ret5 rfl _ _ _) rfl ⟨rfl, .refl _ _⟩
  · have d1 : decide ((n : Int) < 3) = false := decide_eq_false (by omega)
    unfold Sc.headed at hh
    rw [hl, decide_eq_true (show 3 ≤ n by omega), Bool.true_and] at hh
    obtain ⟨b, off, rfl⟩ := h.plain (by omega)
    have c0 : w.cell? ⟨b, off, none⟩ = some (.int .u8 (bs.getD 0 0 : Nat)) := h.at_ (k := 0) (by omega)
    have hyv := val_pair (bs := bs) (by omega)
    have G0 := fun (d : Nat) (os : Array Obj) => get_part (h.held (below_regrown w d os)) 1 2 (by omega) (by omega) (cap - 1)
    rw [hyv] at G0
    have hx0 := h.bytes.lt 0
    have hx1 := h.bytes.lt 1
    have hx2 := h.bytes.lt 2
    have s1 : ∀ W : World, (Instr.slice 32 (.slice (some ⟨b, off, none⟩) n cap) (some (.int .i64 1)) (some (.int .i64 3)) none).run Try.prog W = .ok (.slice (some ⟨b, off + 1, none⟩) 2 (cap - 1)) W := fun W => cut_both b off n cap 1 3 (by omega) (by omega) W rfl rfl rfl rfl rfl
    obtain ⟨y, hy⟩ : ∃ y, y = bs.getD 1 0 * 256 + bs.getD 2 0 := ⟨_, rfl⟩
    rw [← hy] at G0 hh
    have G : ∀ (d : Nat) (os : Array Obj), Calls Try.prog 26 #[.slice (some ⟨b, off + 1, none⟩) 2 (cap - 1)] (Sort.grow (redrawn w d) os) fun e w' => e = .returned (.int .u32 (y : Nat)) ∧ Below (Sort.grow (redrawn w d) os).heap.size (Sort.grow (redrawn w d) os) w' := fun d os => (G0 d os).mono fun _ _ h' => ⟨h'.1, h'.2 ▸ Below.refl _ _⟩
    have hyb : y < 65536 := by omega
    generalize bs.getD 0 0 = x at *
    have HS := fun u => scripted_eq hh u
    have i0 : (0 : Int) < (n : Int) := by omega
    have q1 : IntKind.i64.wrap (y : Int) = y := wrap64 (by omega)
    have k0 := fun d os => cell_regrown c0 d os
    clear h hl hh hx1 hx2 hy G0 hyv c0
    go_enter Try.func12, Try.ntmps12
    go_upto_region 5 with fail
    refine wp_region_quiet_below (by kernel_rfl) (by kernel_rfl) ?_
    repeat (go_big_quiet_step ((go_at_call 26; exact Calls.regrown_of (G _ _))))
    refine wpQuiet_nil ?_
    intro _ hw'
    obtain ⟨⟨dq, osq⟩, hw''⟩ := hw'
    subst hw''
    have HB := Lib.hid (below_regrown w dq osq)
    clear G k0 s1
    go_wp2_with (go_at_call 21; refine (HS _).mono ?_; rintro e5 w5 ⟨rfl, rfl⟩)
    refine bodyPost_ret (ret5 rfl _ _ _) rfl ⟨rfl, HB.out⟩

set_option maxRecDepth 100000 in
set_option maxHeartbeats 2000000 in
theorem decode_long {A : Option Addr} {n cap : Nat} {w : World} (hn : 262144 < n) (hmx : n ≤ maxLen) :
    Calls Try.prog 12 #[.slice A n cap] w fun x w' => x = .returned (.tuple #[.int .i64 0, .int .i64 0, .slice none 0 0, .int .i64 0, .int .i64 7]) ∧ Below w.heap.size w w' := by
  have d0 : decide ((262144 : Int) < (n : Int)) = true := decide_eq_true (by omega)
  have hmx' : n ≤ 9223372036854775807 := by unfold maxLen at hmx; omega
  clear hmx
  go_enter Try.func12, Try.ntmps12
  go_wp2_with fail
  refine bodyPost_ret (ret5 rfl _ _ _) rfl ⟨rfl, .refl _ _⟩

set_option maxRecDepth 100000 in
set_option maxHeartbeats 2000000 in
theorem decode_good {A : Option Addr} {n cap : Nat} {bs : List Nat} {w : World} (h : Sl w A n cap bs) (hn : n ≤ 262144) (hh : Sc.headed bs = true) :
    Calls Try.prog 12 #[.slice A n cap] w fun x w' => ∃ v l k e, x = .returned (.tuple #[.int .i64 (bs.getD 0 0 : Nat), .int .i64 (bs.getD 1 0 * 256 + bs.getD 2 0 : Nat), v, .int .i64 (k : Nat), .int .i64 (e : Nat)]) ∧ Oe w.heap.size v l w' ∧ Evs bs l k e ∧ Below w.heap.size w w' := by
  have hl := h.bytes.1
  have hcap := h.cap
  have d0 : decide ((262144 : Int) < (n : Int)) = false := decide_eq_false (by omega)
  unfold Sc.headed at hh
  rw [Bool.and_eq_true, decide_eq_true_eq, hl] at hh
  obtain ⟨h3, hh⟩ := hh
  have d1 : decide ((n : Int) < 3) = false := decide_eq_false (by omega)
  obtain ⟨b, off, rfl⟩ := h.plain (by omega)
  have c0 : w.cell? ⟨b, off, none⟩ = some (.int .u8 (bs.getD 0 0 : Nat)) := h.at_ (k := 0) (by omega)
  have hyv := val_pair (bs := bs) (by omega)
  have G0 := fun (d : Nat) (os : Array Obj) => get_part (h.held (below_regrown w d os)) 1 2 (by omega) (by omega) (cap - 1)
  rw [hyv] at G0
  have hx0 := h.bytes.lt 0
  have hx1 := h.bytes.lt 1
  have hx2 := h.bytes.lt 2
  have s1 : ∀ W : World, (Instr.slice 32 (.slice (some ⟨b, off, none⟩) n cap) (some (.int .i64 1)) (some (.int .i64 3)) none).run Try.prog W = .ok (.slice (some ⟨b, off + 1, none⟩) 2 (cap - 1)) W := fun W => cut_both b off n cap 1 3 (by omega) (by omega) W rfl rfl rfl rfl rfl
  obtain ⟨y, hy⟩ : ∃ y, y = bs.getD 1 0 * 256 + bs.getD 2 0 := ⟨_, rfl⟩
  rw [← hy] at G0 hh ⊢
  have G : ∀ (d : Nat) (os : Array Obj), Calls Try.prog 26 #[.slice (some ⟨b, off + 1, none⟩) 2 (cap - 1)] (Sort.grow (redrawn w d) os) fun e w' => e = .returned (.int .u32 (y : Nat)) ∧ Below (Sort.grow (redrawn w d) os).heap.size (Sort.grow (redrawn w d) os) w' := fun d os => (G0 d os).mono fun _ _ h' => ⟨h'.1, h'.2 ▸ Below.refl _ _⟩
  have hyb : y < 65536 := by omega
  have H := Lib.hid h
  have HE := fun u (hu : Below w.heap.size w u) => events_any (h.held hu) h3 hn
  generalize bs.getD 0 0 = x at *
  have HS := fun u => scripted_eq hh u
  have i0 : (0 : Int) < (n : Int) := by omega
  have q1 : IntKind.i64.wrap (y : Int) = y := wrap64 (by omega)
  have k0 := fun d os => cell_regrown c0 d os
  clear h hl hh hx1 hx2 hy G0 hyv c0
  go_enter Try.func12, Try.ntmps12
  go_upto_region 5 with fail
  refine wp_region_quiet_below (by kernel_rfl) (by kernel_rfl) ?_
  repeat (go_big_quiet_step ((go_at_call 26; exact Calls.regrown_of (G _ _))))
  refine wpQuiet_nil ?_
  intro _ hw'
  obtain ⟨⟨dq, osq⟩, hw''⟩ := hw'
  subst hw''
  have HB := Lib.hid (below_regrown w dq osq)
  have HE2 := HE _ (below_regrown w dq osq)
  clear G k0 s1 HE
  go_wp2_with (first | (go_at_call 21; refine (HS _).mono ?_; rintro e5 w5 ⟨rfl, rfl⟩) | (go_at_call 27; refine HE2.mono ?_; rintro e6 w6 ⟨v, l, k, e, rfl, hO, hE, hb6⟩))
  refine bodyPost_ret (ret5 rfl _ _ _) rfl ⟨v, l, k, e, rfl, hO.mono HB.out.size, hE, next HB.out hb6⟩
end Go.Proofs.Ytnpocnfmekgieaa
