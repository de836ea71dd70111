/-
  Package wal: Append on a disk that fails.
-/
import Derived.Test.YtpgcnjoodoabhaaGreatM08
namespace Go.Proofs.YtpgcnjoodoabhaaGreat
open Go.RowKit Rm

section
variable {w w' : World} {d S M n : Nat} {safe : Nat → List UInt8} {wn : Int → Option (List UInt8)} {well : Int}
theorem put_at_fail1 (h : Dk w d S M n safe wn 0) {first size gen place : Nat} {z : Int} (hz : z = (place : Int)) (hi : first + place < n) {k : Int} {g l id a : Nat} {len : Int} {on : Bool} {s m : Nat} (hf : (⟨k, gen, place, id, a, len, on, s, m⟩ : Rc).Fits) (hr : right ⟨k, gen, place, id, a, len, on, s, m⟩ = true) :
    Calls Tryz.prog 35 #[.agg #[.pointer (some ⟨d, 0, none⟩), .int .i64 first, .int .i64 size, .int .u32 gen], .int .i64 z, .agg #[.int .i64 k, .int .u32 g, .int .u32 l, .int .u32 id, .int .u32 a, .int .i64 len, .bool on, .int .u32 s, .int .u16 m]] w fun e w' => e = .returned (.int .i64 4) ∧ Turn [d, S, M] w w' := by
  subst hz
  exact (put_fail1 h hi hf hr).mono fun e w' h => ⟨h.1, h.2.2⟩

set_option maxRecDepth 20000 in
set_option maxHeartbeats 4000000 in
theorem append_fail1 {lb first size gen len : Nat} {laid : Bool} {o fl : Option Nat} {id N : Nat} {T : Sm} (hN : Notes 74 (lgX d first size gen len laid) w lb o fl id N T) (h : Dk w d S M n safe wn 0)
    (hdis : ∀ x, x ∈ fp lb o fl → x ∉ [d, S, M]) (hi : first + (1 + len) < n) (hsz : 1 + len < size) (hg : gen < 4294967296) {k : Int} {g l rid a : Nat} {rn : Int} {on : Bool} {s m : Nat} (hf : (⟨k, g, l, rid, a, rn, on, s, m⟩ : Rc).Fits) (hr : right ⟨k, g, l, rid, a, rn, on, s, m⟩ = true) (hk : k ≠ 1) :
    Calls Tryz.prog 12 #[.pointer (some ⟨lb, 0, none⟩), .agg #[.int .i64 k, .int .u32 g, .int .u32 l, .int .u32 rid, .int .u32 a, .int .i64 rn, .bool on, .int .u32 s, .int .u16 m]] w fun e w' => e = .returned (.int .i64 4) ∧ Turn [d, S, M] w w' := by
  obtain ⟨cn, cm, hnm, hS⟩ := hN
  have n2 := h.n2
  have hk1 : (k == 1) = false := beq_eq_false_iff_ne.2 hk
  have hf2 : (⟨k, gen, 1 + len, rid, a, rn, on, s, m⟩ : Rc).Fits := ⟨hf.k1, hf.k2, hg, by show 1 + len < 4294967296; omega, hf.id, hf.a, hf.n1, hf.n2, hf.seq, hf.met⟩
  have hr2 : right ⟨k, gen, 1 + len, rid, a, rn, on, s, m⟩ = true := by rw [← right_two] at hr ⊢; unfold right2 at hr ⊢; exact hr
  have RB := Blk.new w 41 #[.int .i64 k, .int .u32 g, .int .u32 l, .int .u32 rid, .int .u32 a, .int .i64 rn, .bool on, .int .u32 s, .int .u16 m]
  have hb := below_new w (.cells #[.int .i64 k, .int .u32 g, .int .u32 l, .int .u32 rid, .int .u32 a, .int .i64 rn, .bool on, .int .u32 s, .int .u16 m] 41)
  go_enter Tryz.func12, Tryz.ntmps12
  have HH := Lib.hid (And.intro h (And.intro hS (And.intro hf (And.intro hf2 (And.intro hr2 (And.intro RB hb))))))
  have HRT := prright_eq hf.a hr (w.alloc (.cells #[.int .i64 k, .int .u32 g, .int .u32 l, .int .u32 rid, .int .u32 a, .int .i64 rn, .bool on, .int .u32 s, .int .u16 m] 41))
  have HDIS := Lib.hid hdis
  clear h hS hf hf2 hr hr2 RB hb hdis hk
  go_wp2_with fail
  generalize w.alloc (.cells #[.int .i64 k, .int .u32 g, .int .u32 l, .int .u32 rid, .int .u32 a, .int .i64 rn, .bool on, .int .u32 s, .int .u16 m] 41) = W at *
  refine HRT.mono ?_
  rintro e x1 ⟨rfl, hb1⟩
  obtain ⟨h, hS, hf, hf2, hr2, RB, hb⟩ := HH.out
  have hbb := next hb hb1
  have RB1 := RB.held hb1
  have hS1 := hS.held hbb
  have HF := full_log hS1 (by omega) (q := false) (decide_eq_false (by omega))
  have r0 := RB1.at_ 0
  have H1 := Lib.hid (And.intro hbb (And.intro RB1 hS1))
  clear h hS hf hf2 hr2 RB hb hbb RB1 hS1 HRT hb1
  go_wp2_with fail
  refine HF.mono ?_
  rintro e x2 ⟨rfl, hb2⟩
  obtain ⟨h, hS, hf, hf2, hr2, RB, hb⟩ := HH.out
  obtain ⟨hbb, RB1, hS1⟩ := H1.out
  have hbb2 := next hbb hb2
  have RB2 := (RB1.held hb2).drew
  have hS2 := (hS1.held hb2).drew
  have HL := lg_head hS2
  have hlb := hS.head.lt
  have hlt := h.head.lt
  have hltM := h.map.lt
  have hltS := h.ltS
  have hl1 := HDIS.out lb (mem_fp.2 (.inl rfl))
  simp only [List.mem_cons, List.not_mem_nil, or_false, not_or] at hl1
  obtain ⟨hl1, hl2, hl3⟩ := hl1
  clear r0
  have l4 : x2.drew.cell? ⟨lb, 4, none⟩ = some (.pointer (some ⟨d, 0, none⟩)) := HL.at_ 4
  have l5 : x2.drew.cell? ⟨lb, 5, none⟩ = some (.int .i64 first) := HL.at_ 5
  have l6 : x2.drew.cell? ⟨lb, 6, none⟩ = some (.int .i64 size) := HL.at_ 6
  have l7 : x2.drew.cell? ⟨lb, 7, none⟩ = some (.int .u32 gen) := HL.at_ 7
  have r0 : x2.drew.cell? ⟨w.heap.size, 0, none⟩ = some (.int .i64 k) := RB2.at_ 0
  have r1 : x2.drew.cell? ⟨w.heap.size, 1, none⟩ = some (.int .u32 g) := RB2.at_ 1
  have r2 : x2.drew.cell? ⟨w.heap.size, 2, none⟩ = some (.int .u32 l) := RB2.at_ 2
  have r3 : x2.drew.cell? ⟨w.heap.size, 3, none⟩ = some (.int .u32 rid) := RB2.at_ 3
  have r4 : x2.drew.cell? ⟨w.heap.size, 4, none⟩ = some (.int .u32 a) := RB2.at_ 4
  have r5 : x2.drew.cell? ⟨w.heap.size, 5, none⟩ = some (.int .i64 rn) := RB2.at_ 5
  have r6 : x2.drew.cell? ⟨w.heap.size, 6, none⟩ = some (.bool on) := RB2.at_ 6
  have r7 : x2.drew.cell? ⟨w.heap.size, 7, none⟩ = some (.int .u32 s) := RB2.at_ 7
  have r8 : x2.drew.cell? ⟨w.heap.size, 8, none⟩ = some (.int .u16 m) := RB2.at_ 8
  have HNX := next_any hS2 (by omega)
  have HPUT := put_at_fail1 (h.held hbb2).drew (size := size) (z := 1 + (len : Int)) (place := 1 + len) (by push_cast; rfl) hi (g := g) (l := l) hf2 hr2
  have H2 := Lib.hid (And.intro hbb2 (And.intro RB2 hS2))
  clear h hS hf hf2 hr2 RB hb hbb RB1 hS1 hbb2 RB2 hS2 HL H1 HF hb2
  go_wp2_with fail
  go_region_held3 (fun w' => w'.cell? ⟨lb, 4, none⟩ = some (.pointer (some ⟨d, 0, none⟩)) ∧ w'.cell? ⟨lb, 5, none⟩ = some (.int .i64 first) ∧ w'.cell? ⟨lb, 6, none⟩ = some (.int .i64 size) ∧ w'.cell? ⟨lb, 7, none⟩ = some (.int .u32 gen) ∧ w'.cell? ⟨w.heap.size, 0, none⟩ = some (.int .i64 k) ∧ w'.cell? ⟨w.heap.size, 1, none⟩ = some (.int .u32 g) ∧ w'.cell? ⟨w.heap.size, 2, none⟩ = some (.int .u32 l) ∧ w'.cell? ⟨w.heap.size, 3, none⟩ = some (.int .u32 rid) ∧ w'.cell? ⟨w.heap.size, 4, none⟩ = some (.int .u32 a) ∧ w'.cell? ⟨w.heap.size, 5, none⟩ = some (.int .i64 rn) ∧ w'.cell? ⟨w.heap.size, 6, none⟩ = some (.bool on) ∧ w'.cell? ⟨w.heap.size, 7, none⟩ = some (.int .u32 s) ∧ w'.cell? ⟨w.heap.size, 8, none⟩ = some (.int .u16 m))
    (first | exact ⟨l4, l5, l6, l7, r0, r1, r2, r3, r4, r5, r6, r7, r8⟩ | exact ⟨hT3.cell l4 (by simp; omega), hT3.cell l5 (by simp; omega), hT3.cell l6 (by simp; omega), hT3.cell l7 (by simp; omega), hT3.cell r0 (by simp; omega), hT3.cell r1 (by simp; omega), hT3.cell r2 (by simp; omega), hT3.cell r3 (by simp; omega), hT3.cell r4 (by simp; omega), hT3.cell r5 (by simp; omega), hT3.cell r6 (by simp; omega), hT3.cell r7 (by simp; omega), hT3.cell r8 (by simp; omega)⟩ | go_keep)
    (first | (go_at_call 36; refine HNX.mono ?_; rintro e w' ⟨rfl, rfl⟩)
           | (go_at_call 35; refine HPUT.mono ?_; rintro e x3 ⟨rfl, hT3⟩))
  obtain ⟨hbb2, RB2, hS2⟩ := H2.out
  have hTT := (Turn.of_below [d, S, M] hbb2.drew).trans hT3
  clear l4 l5 l6 l7 r0 r1 r2 r3 r4 r5 r6 r7 r8 hbb2 RB2 hS2 hT3 HNX HPUT H2
  go_wp2_with fail
  go_ret
  exact ⟨rfl, hTT⟩
theorem put_at_fail2 (h : Dk w d S M n safe wn 1) {first size gen place : Nat} {z : Int} (hz : z = (place : Int)) (hi : first + place < n) {k : Int} {g l id a : Nat} {len : Int} {on : Bool} {s m : Nat} (hf : (⟨k, gen, place, id, a, len, on, s, m⟩ : Rc).Fits) (hr : right ⟨k, gen, place, id, a, len, on, s, m⟩ = true) :
    Calls Tryz.prog 35 #[.agg #[.pointer (some ⟨d, 0, none⟩), .int .i64 first, .int .i64 size, .int .u32 gen], .int .i64 z, .agg #[.int .i64 k, .int .u32 g, .int .u32 l, .int .u32 id, .int .u32 a, .int .i64 len, .bool on, .int .u32 s, .int .u16 m]] w fun e w' => e = .returned (.int .i64 4) ∧ Turn [d, S, M] w w' := by
  subst hz
  exact (put_fail2 h hi hf hr).mono fun e w' h => ⟨h.1, h.2.2⟩

set_option maxRecDepth 20000 in
set_option maxHeartbeats 4000000 in
theorem append_fail2 {lb first size gen len : Nat} {laid : Bool} {o fl : Option Nat} {id N : Nat} {T : Sm} (hN : Notes 74 (lgX d first size gen len laid) w lb o fl id N T) (h : Dk w d S M n safe wn 1)
    (hdis : ∀ x, x ∈ fp lb o fl → x ∉ [d, S, M]) (hi : first + (1 + len) < n) (hsz : 1 + len < size) (hg : gen < 4294967296) {k : Int} {g l rid a : Nat} {rn : Int} {on : Bool} {s m : Nat} (hf : (⟨k, g, l, rid, a, rn, on, s, m⟩ : Rc).Fits) (hr : right ⟨k, g, l, rid, a, rn, on, s, m⟩ = true) (hk : k ≠ 1) :
    Calls Tryz.prog 12 #[.pointer (some ⟨lb, 0, none⟩), .agg #[.int .i64 k, .int .u32 g, .int .u32 l, .int .u32 rid, .int .u32 a, .int .i64 rn, .bool on, .int .u32 s, .int .u16 m]] w fun e w' => e = .returned (.int .i64 4) ∧ Turn [d, S, M] w w' := by
  obtain ⟨cn, cm, hnm, hS⟩ := hN
  have n2 := h.n2
  have hk1 : (k == 1) = false := beq_eq_false_iff_ne.2 hk
  have hf2 : (⟨k, gen, 1 + len, rid, a, rn, on, s, m⟩ : Rc).Fits := ⟨hf.k1, hf.k2, hg, by show 1 + len < 4294967296; omega, hf.id, hf.a, hf.n1, hf.n2, hf.seq, hf.met⟩
  have hr2 : right ⟨k, gen, 1 + len, rid, a, rn, on, s, m⟩ = true := by rw [← right_two] at hr ⊢; unfold right2 at hr ⊢; exact hr
  have RB := Blk.new w 41 #[.int .i64 k, .int .u32 g, .int .u32 l, .int .u32 rid, .int .u32 a, .int .i64 rn, .bool on, .int .u32 s, .int .u16 m]
  have hb := below_new w (.cells #[.int .i64 k, .int .u32 g, .int .u32 l, .int .u32 rid, .int .u32 a, .int .i64 rn, .bool on, .int .u32 s, .int .u16 m] 41)
  go_enter Tryz.func12, Tryz.ntmps12
  have HH := Lib.hid (And.intro h (And.intro hS (And.intro hf (And.intro hf2 (And.intro hr2 (And.intro RB hb))))))
  have HRT := prright_eq hf.a hr (w.alloc (.cells #[.int .i64 k, .int .u32 g, .int .u32 l, .int .u32 rid, .int .u32 a, .int .i64 rn, .bool on, .int .u32 s, .int .u16 m] 41))
  have HDIS := Lib.hid hdis
  clear h hS hf hf2 hr hr2 RB hb hdis hk
  go_wp2_with fail
  generalize w.alloc (.cells #[.int .i64 k, .int .u32 g, .int .u32 l, .int .u32 rid, .int .u32 a, .int .i64 rn, .bool on, .int .u32 s, .int .u16 m] 41) = W at *
  refine HRT.mono ?_
  rintro e x1 ⟨rfl, hb1⟩
  obtain ⟨h, hS, hf, hf2, hr2, RB, hb⟩ := HH.out
  have hbb := next hb hb1
  have RB1 := RB.held hb1
  have hS1 := hS.held hbb
  have HF := full_log hS1 (by omega) (q := false) (decide_eq_false (by omega))
  have r0 := RB1.at_ 0
  have H1 := Lib.hid (And.intro hbb (And.intro RB1 hS1))
  clear h hS hf hf2 hr2 RB hb hbb RB1 hS1 HRT hb1
  go_wp2_with fail
  refine HF.mono ?_
  rintro e x2 ⟨rfl, hb2⟩
  obtain ⟨h, hS, hf, hf2, hr2, RB, hb⟩ := HH.out
  obtain ⟨hbb, RB1, hS1⟩ := H1.out
  have hbb2 := next hbb hb2
  have RB2 := (RB1.held hb2).drew
  have hS2 := (hS1.held hb2).drew
  have HL := lg_head hS2
  have hlb := hS.head.lt
  have hlt := h.head.lt
  have hltM := h.map.lt
  have hltS := h.ltS
  have hl1 := HDIS.out lb (mem_fp.2 (.inl rfl))
  simp only [List.mem_cons, List.not_mem_nil, or_false, not_or] at hl1
  obtain ⟨hl1, hl2, hl3⟩ := hl1
  clear r0
  have l4 : x2.drew.cell? ⟨lb, 4, none⟩ = some (.pointer (some ⟨d, 0, none⟩)) := HL.at_ 4
  have l5 : x2.drew.cell? ⟨lb, 5, none⟩ = some (.int .i64 first) := HL.at_ 5
  have l6 : x2.drew.cell? ⟨lb, 6, none⟩ = some (.int .i64 size) := HL.at_ 6
  have l7 : x2.drew.cell? ⟨lb, 7, none⟩ = some (.int .u32 gen) := HL.at_ 7
  have r0 : x2.drew.cell? ⟨w.heap.size, 0, none⟩ = some (.int .i64 k) := RB2.at_ 0
  have r1 : x2.drew.cell? ⟨w.heap.size, 1, none⟩ = some (.int .u32 g) := RB2.at_ 1
  have r2 : x2.drew.cell? ⟨w.heap.size, 2, none⟩ = some (.int .u32 l) := RB2.at_ 2
  have r3 : x2.drew.cell? ⟨w.heap.size, 3, none⟩ = some (.int .u32 rid) := RB2.at_ 3
  have r4 : x2.drew.cell? ⟨w.heap.size, 4, none⟩ = some (.int .u32 a) := RB2.at_ 4
  have r5 : x2.drew.cell? ⟨w.heap.size, 5, none⟩ = some (.int .i64 rn) := RB2.at_ 5
  have r6 : x2.drew.cell? ⟨w.heap.size, 6, none⟩ = some (.bool on) := RB2.at_ 6
  have r7 : x2.drew.cell? ⟨w.heap.size, 7, none⟩ = some (.int .u32 s) := RB2.at_ 7
  have r8 : x2.drew.cell? ⟨w.heap.size, 8, none⟩ = some (.int .u16 m) := RB2.at_ 8
  have HNX := next_any hS2 (by omega)
  have HPUT := put_at_fail2 (h.held hbb2).drew (size := size) (z := 1 + (len : Int)) (place := 1 + len) (by push_cast; rfl) hi (g := g) (l := l) hf2 hr2
  have H2 := Lib.hid (And.intro hbb2 (And.intro RB2 hS2))
  clear h hS hf hf2 hr2 RB hb hbb RB1 hS1 hbb2 RB2 hS2 HL H1 HF hb2
  go_wp2_with fail
  go_region_held3 (fun w' => w'.cell? ⟨lb, 4, none⟩ = some (.pointer (some ⟨d, 0, none⟩)) ∧ w'.cell? ⟨lb, 5, none⟩ = some (.int .i64 first) ∧ w'.cell? ⟨lb, 6, none⟩ = some (.int .i64 size) ∧ w'.cell? ⟨lb, 7, none⟩ = some (.int .u32 gen) ∧ w'.cell? ⟨w.heap.size, 0, none⟩ = some (.int .i64 k) ∧ w'.cell? ⟨w.heap.size, 1, none⟩ = some (.int .u32 g) ∧ w'.cell? ⟨w.heap.size, 2, none⟩ = some (.int .u32 l) ∧ w'.cell? ⟨w.heap.size, 3, none⟩ = some (.int .u32 rid) ∧ w'.cell? ⟨w.heap.size, 4, none⟩ = some (.int .u32 a) ∧ w'.cell? ⟨w.heap.size, 5, none⟩ = some (.int .i64 rn) ∧ w'.cell? ⟨w.heap.size, 6, none⟩ = some (.bool on) ∧ w'.cell? ⟨w.heap.size, 7, none⟩ = some (.int .u32 s) ∧ w'.cell? ⟨w.heap.size, 8, none⟩ = some (.int .u16 m))
    (first | exact ⟨l4, l5, l6, l7, r0, r1, r2, r3, r4, r5, r6, r7, r8⟩ | exact ⟨hT3.cell l4 (by simp; omega), hT3.cell l5 (by simp; omega), hT3.cell l6 (by simp; omega), hT3.cell l7 (by simp; omega), hT3.cell r0 (by simp; omega), hT3.cell r1 (by simp; omega), hT3.cell r2 (by simp; omega), hT3.cell r3 (by simp; omega), hT3.cell r4 (by simp; omega), hT3.cell r5 (by simp; omega), hT3.cell r6 (by simp; omega), hT3.cell r7 (by simp; omega), hT3.cell r8 (by simp; omega)⟩ | go_keep)
    (first | (go_at_call 36; refine HNX.mono ?_; rintro e w' ⟨rfl, rfl⟩)
           | (go_at_call 35; refine HPUT.mono ?_; rintro e x3 ⟨rfl, hT3⟩))
  obtain ⟨hbb2, RB2, hS2⟩ := H2.out
  have hTT := (Turn.of_below [d, S, M] hbb2.drew).trans hT3
  clear l4 l5 l6 l7 r0 r1 r2 r3 r4 r5 r6 r7 r8 hbb2 RB2 hS2 hT3 HNX HPUT H2
  go_wp2_with fail
  go_ret
  exact ⟨rfl, hTT⟩
end
end Go.Proofs.YtpgcnjoodoabhaaGreat

