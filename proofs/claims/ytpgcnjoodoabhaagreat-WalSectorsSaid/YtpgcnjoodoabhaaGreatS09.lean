/-
  Package state: ID and Own.
  Package wal: a region's Begin.
  Package wal: Open, on a disk without records.
  Package wal: what a Log tells of itself.
  Package wal: Append, where there is room.
  Package wal: laying records into the other region.
-/
import Derived.Test.YtpgcnjoodoabhaaGreatS02
import Derived.Test.YtpgcnjoodoabhaaGreatS08
namespace Go.Proofs.YtpgcnjoodoabhaaGreat
open Go.RowKit Rm
variable {tS : TypeId} {XS : List Value}

theorem id_any {w : World} {d : Nat} {o fl : Option Nat} {id lease n m : Nat} {own : Pk → Option Bool} {floor : Ky → Option (Nat × Nat)} (h : St tS XS w d o fl id lease n m own floor) : Calls Tryz.prog 38 #[.pointer (some ⟨d, 0, none⟩)] w fun e w' => e = .returned (.int .u32 id) ∧ w = w' := by
  have c0 : w.cell? ⟨d, 0, none⟩ = some (.int .u32 id) := h.head.at_ 0
  clear h
  go_enter Tryz.func38, Tryz.ntmps38
  go_wp2
  go_ret
  exact ⟨rfl, rfl⟩

set_option maxHeartbeats 1000000 in
theorem own_any {w : World} {d : Nat} {o fl : Option Nat} {id lease n m : Nat} {own : Pk → Option Bool} {floor : Ky → Option (Nat × Nat)} (h : St tS XS w d o fl id lease n m own floor) {ka : Nat} {kn : Int} (hk : Pk.ok ⟨ka, kn⟩) {v ok : Bool}
    (hv : ((own ⟨ka, kn⟩).map ownV).getD (.agg #[.bool false]) = .agg #[.bool v]) (ho : (own ⟨ka, kn⟩).isSome = ok) :
    Calls Tryz.prog 40 #[.pointer (some ⟨d, 0, none⟩), .agg #[.int .u32 ka, .int .i64 kn]] w fun e w' => e = .returned (.tuple #[.bool v, .bool ok]) ∧ Below w.heap.size w w' := by
  have hlook : ∀ w', Below w.heap.size w w' → (Instr.lookup 68 (.map o) (.agg #[.int .u32 ka, .int .i64 kn]) true).run Tryz.prog w' = .ok (.tuple #[.agg #[.bool v], .bool ok]) w' := fun w' hb => by
    have h2 := (h.held hb).owns.look_ok (t := 68) (e := 117) (by kernel_rfl) zero_own (i := ⟨ka, kn⟩) hk
    rw [show ((own ⟨ka, kn⟩).map ownV).isSome = (own ⟨ka, kn⟩).isSome by cases own ⟨ka, kn⟩ <;> rfl, hv, ho] at h2
    exact h2
  have c2 : w.cell? ⟨d, 2, none⟩ = some (.map o) := h.head.at_ 2
  have dl : d < w.heap.size := h.head.lt
  clear h hv ho
  go_enter Tryz.func40, Tryz.ntmps40
  go_wp2_with fail
  have KB := Blk.new w 36 #[.int .u32 ka, .int .i64 kn]
  have hb2 := below_new w (.cells #[.int .u32 ka, .int .i64 kn] 36)
  have hz := size_new w (.cells #[.int .u32 ka, .int .i64 kn] 36)
  generalize w.alloc (.cells #[.int .u32 ka, .int .i64 kn] 36) = W at *
  have fc := held hb2 c2
  have k0 := KB.at_ 0
  have k1 := KB.at_ 1
  have dW : d < W.heap.size := by omega
  have kW : w.heap.size < W.heap.size := by omega
  have fc3 := held (below_new W (.cells #[.bool false] 117)) fc
  have k03 := held (below_new W (.cells #[.bool false] 117)) k0
  have k13 := held (below_new W (.cells #[.bool false] 117)) k1
  have q1 := hlook _ hb2.drew
  have q2 := hlook _ (next hb2 (below_new W (.cells #[.bool false] 117))).drew
  clear hlook c2
  go_region
  all_goals
    have hb4 := next hb2 (below_new W (.cells #[.bool v] 117)).drew
    clear q1 q2 fc3 k03 k13 fc k0 k1 KB hb2
    go_wp2_with fail
    refine bodyPost_ret (v := .tuple #[.bool v, .bool ok]) ?_ rfl ⟨rfl, hb4⟩
    simp [results, Tryz.results40, go_sem]
end Go.Proofs.YtpgcnjoodoabhaaGreat

namespace Go.Proofs.YtpgcnjoodoabhaaGreat
open Go.RowKit Rm

theorem begin_right {gen id : Nat} (h : 0 < id) : right ⟨1, gen, 0, id, 0, 0, false, 0, 0⟩ = true := by
  rw [← right_two]
  unfold right2
  simp [show Am.right 0 0 = true by decide, h]
theorem begin_fits {gen id : Nat} (hg : gen < 4294967296) (h : id < 4294967296) : (⟨1, gen, 0, id, 0, 0, false, 0, 0⟩ : Rc).Fits := by constructor <;> (dsimp only; omega)

section
variable {w w' : World} {d S M n : Nat} {safe : Nat → List UInt8} {wn : Int → Option (List UInt8)} {well : Int} {tS : TypeId} {XS : List Value} {lb : Nat} {o fl : Option Nat} {id lease cn cm : Nat} {own : Pk → Option Bool} {floor : Ky → Option (Nat × Nat)}
theorem putb_well (h : Dk w d S M n safe wn well) (hw : well ≠ 0) (hw2 : dec well ≠ 0) {first size gen id : Nat} (hi : first < n) (hg : gen < 4294967296) (h0 : 0 < id) (h1 : id < 4294967296) :
    Calls Tryz.prog 35 #[.agg #[.pointer (some ⟨d, 0, none⟩), .int .i64 first, .int .i64 size, .int .u32 gen], .int .i64 0, .agg #[.int .i64 1, .int .u32 0, .int .u32 0, .int .u32 id, .int .u32 0, .int .i64 0, .bool false, .int .u32 0, .int .u16 0]] w fun e w' => e = .returned (.int .i64 0) ∧ Dk w' d S M n (synced safe (updD wn ((first : Int) + (0 : Nat)) (u8s (Rm.bytes (⟨1, gen, 0, id, 0, 0, false, 0, 0⟩ : Rc))))) (fun _ => none) (dec (dec well)) ∧ Turn [d, S, M] w w' :=
  put_well h hw hw2 (place := 0) (size := size) (k := 1) (g := 0) (l := 0) (a := 0) (len := 0) (on := false) (s := 0) (m := 0) hi (begin_fits hg h1) (begin_right h0)
set_option maxRecDepth 20000 in
set_option maxHeartbeats 2000000 in
theorem begin_well (hS : St tS XS w lb o fl id lease cn cm own floor) (h : Dk w d S M n safe wn well) (hw : well ≠ 0) (hw2 : dec well ≠ 0) {first size gen : Nat} (hi : first < n) (hg : gen < 4294967296) (h0 : 0 < id) (h1 : id < 4294967296) :
    Calls Tryz.prog 28 #[.pointer (some ⟨lb, 0, none⟩), .agg #[.pointer (some ⟨d, 0, none⟩), .int .i64 first, .int .i64 size, .int .u32 gen]] w fun e w' => e = .returned (.int .i64 0) ∧ Dk w' d S M n (synced safe (updD wn ((first : Int) + (0 : Nat)) (u8s (Rm.bytes (⟨1, gen, 0, id, 0, 0, false, 0, 0⟩ : Rc))))) (fun _ => none) (dec (dec well)) ∧ Turn [d, S, M] w w' := by
  have hP := Blk.new w 65 #[.pointer (some ⟨d, 0, none⟩), .int .i64 first, .int .i64 size, .int .u32 gen]
  have hb := below_new w (.cells #[.pointer (some ⟨d, 0, none⟩), .int .i64 first, .int .i64 size, .int .u32 gen] 65)
  have hlt := h.head.lt
  have hltM := h.map.lt
  have hltS := h.ltS
  have hll := hS.head.lt
  go_enter Tryz.func28, Tryz.ntmps28
  go_wp2_with fail
  generalize w.alloc (.cells #[.pointer (some ⟨d, 0, none⟩), .int .i64 first, .int .i64 size, .int .u32 gen] 65) = W at *
  have c0 : W.drew.cell? ⟨w.heap.size, 0, none⟩ = some (.pointer (some ⟨d, 0, none⟩)) := hP.at_ 0
  have c1 : W.drew.cell? ⟨w.heap.size, 1, none⟩ = some (.int .i64 first) := hP.at_ 1
  have c2 : W.drew.cell? ⟨w.heap.size, 2, none⟩ = some (.int .i64 size) := hP.at_ 2
  have c3 : W.drew.cell? ⟨w.heap.size, 3, none⟩ = some (.int .u32 gen) := hP.at_ 3
  have hSW := Lib.hid ((hS.held hb).drew)
  have hPUT := Lib.hid (putb_well ((h.held hb).drew) hw hw2 (size := size) hi hg h0 h1)
  have HB := Lib.hid hb
  clear hP hb hS h
  go_region_held3 (fun w' => w'.cell? ⟨w.heap.size, 0, none⟩ = some (.pointer (some ⟨d, 0, none⟩)) ∧ w'.cell? ⟨w.heap.size, 1, none⟩ = some (.int .i64 first) ∧ w'.cell? ⟨w.heap.size, 2, none⟩ = some (.int .i64 size) ∧ w'.cell? ⟨w.heap.size, 3, none⟩ = some (.int .u32 gen))
    (first | exact ⟨c0, c1, c2, c3⟩ | exact ⟨hT3.cell c0 (by simp; omega), hT3.cell c1 (by simp; omega), hT3.cell c2 (by simp; omega), hT3.cell c3 (by simp; omega)⟩ | go_keep)
    (first | (go_at_call 38; refine (id_any hSW.out).mono ?_; rintro e w' ⟨rfl, rfl⟩)
           | (go_at_call 35; refine hPUT.out.mono ?_; rintro e w3 ⟨rfl, hD3, hT3⟩))
  have hTT := (Turn.of_below [d, S, M] HB.out.drew).trans hT3
  clear c0 c1 c2 c3 hSW hPUT
  go_wp2_with fail
  go_ret
  exact ⟨rfl, hD3, hTT⟩
theorem putb_fail2 (h : Dk w d S M n safe wn 1) {first size gen id : Nat} (hi : first < n) (hg : gen < 4294967296) (h0 : 0 < id) (h1 : id < 4294967296) :
    Calls Tryz.prog 35 #[.agg #[.pointer (some ⟨d, 0, none⟩), .int .i64 first, .int .i64 size, .int .u32 gen], .int .i64 0, .agg #[.int .i64 1, .int .u32 0, .int .u32 0, .int .u32 id, .int .u32 0, .int .i64 0, .bool false, .int .u32 0, .int .u16 0]] w fun e w' => e = .returned (.int .i64 4) ∧ Dk w' d S M n safe (updD wn ((first : Int) + (0 : Nat)) (u8s (Rm.bytes (⟨1, gen, 0, id, 0, 0, false, 0, 0⟩ : Rc)))) (-1) ∧ Turn [d, S, M] w w' :=
  put_fail2 h (place := 0) (size := size) (k := 1) (g := 0) (l := 0) (a := 0) (len := 0) (on := false) (s := 0) (m := 0) hi (begin_fits hg h1) (begin_right h0)
set_option maxRecDepth 20000 in
set_option maxHeartbeats 2000000 in
theorem begin_fail2 (hS : St tS XS w lb o fl id lease cn cm own floor) (h : Dk w d S M n safe wn 1) {first size gen : Nat} (hi : first < n) (hg : gen < 4294967296) (h0 : 0 < id) (h1 : id < 4294967296) :
    Calls Tryz.prog 28 #[.pointer (some ⟨lb, 0, none⟩), .agg #[.pointer (some ⟨d, 0, none⟩), .int .i64 first, .int .i64 size, .int .u32 gen]] w fun e w' => e = .returned (.int .i64 4) ∧ Dk w' d S M n safe (updD wn ((first : Int) + (0 : Nat)) (u8s (Rm.bytes (⟨1, gen, 0, id, 0, 0, false, 0, 0⟩ : Rc)))) (-1) ∧ Turn [d, S, M] w w' := by
  have hP := Blk.new w 65 #[.pointer (some ⟨d, 0, none⟩), .int .i64 first, .int .i64 size, .int .u32 gen]
  have hb := below_new w (.cells #[.pointer (some ⟨d, 0, none⟩), .int .i64 first, .int .i64 size, .int .u32 gen] 65)
  have hlt := h.head.lt
  have hltM := h.map.lt
  have hltS := h.ltS
  have hll := hS.head.lt
  go_enter Tryz.func28, Tryz.ntmps28
  go_wp2_with fail
  generalize w.alloc (.cells #[.pointer (some ⟨d, 0, none⟩), .int .i64 first, .int .i64 size, .int .u32 gen] 65) = W at *
  have c0 : W.drew.cell? ⟨w.heap.size, 0, none⟩ = some (.pointer (some ⟨d, 0, none⟩)) := hP.at_ 0
  have c1 : W.drew.cell? ⟨w.heap.size, 1, none⟩ = some (.int .i64 first) := hP.at_ 1
  have c2 : W.drew.cell? ⟨w.heap.size, 2, none⟩ = some (.int .i64 size) := hP.at_ 2
  have c3 : W.drew.cell? ⟨w.heap.size, 3, none⟩ = some (.int .u32 gen) := hP.at_ 3
  have hSW := Lib.hid ((hS.held hb).drew)
  have hPUT := Lib.hid (putb_fail2 ((h.held hb).drew)  (size := size) hi hg h0 h1)
  have HB := Lib.hid hb
  clear hP hb hS h
  go_region_held3 (fun w' => w'.cell? ⟨w.heap.size, 0, none⟩ = some (.pointer (some ⟨d, 0, none⟩)) ∧ w'.cell? ⟨w.heap.size, 1, none⟩ = some (.int .i64 first) ∧ w'.cell? ⟨w.heap.size, 2, none⟩ = some (.int .i64 size) ∧ w'.cell? ⟨w.heap.size, 3, none⟩ = some (.int .u32 gen))
    (first | exact ⟨c0, c1, c2, c3⟩ | exact ⟨hT3.cell c0 (by simp; omega), hT3.cell c1 (by simp; omega), hT3.cell c2 (by simp; omega), hT3.cell c3 (by simp; omega)⟩ | go_keep)
    (first | (go_at_call 38; refine (id_any hSW.out).mono ?_; rintro e w' ⟨rfl, rfl⟩)
           | (go_at_call 35; refine hPUT.out.mono ?_; rintro e w3 ⟨rfl, hD3, hT3⟩))
  have hTT := (Turn.of_below [d, S, M] HB.out.drew).trans hT3
  clear c0 c1 c2 c3 hSW hPUT
  go_wp2_with fail
  go_ret
  exact ⟨rfl, hD3, hTT⟩
theorem putb_fail1 (h : Dk w d S M n safe wn 0) {first size gen id : Nat} (hi : first < n) (hg : gen < 4294967296) (h0 : 0 < id) (h1 : id < 4294967296) :
    Calls Tryz.prog 35 #[.agg #[.pointer (some ⟨d, 0, none⟩), .int .i64 first, .int .i64 size, .int .u32 gen], .int .i64 0, .agg #[.int .i64 1, .int .u32 0, .int .u32 0, .int .u32 id, .int .u32 0, .int .i64 0, .bool false, .int .u32 0, .int .u16 0]] w fun e w' => e = .returned (.int .i64 4) ∧ Dk w' d S M n safe wn (-1) ∧ Turn [d, S, M] w w' :=
  put_fail1 h (place := 0) (size := size) (k := 1) (g := 0) (l := 0) (a := 0) (len := 0) (on := false) (s := 0) (m := 0) hi (begin_fits hg h1) (begin_right h0)
set_option maxRecDepth 20000 in
set_option maxHeartbeats 2000000 in
theorem begin_fail1 (hS : St tS XS w lb o fl id lease cn cm own floor) (h : Dk w d S M n safe wn 0) {first size gen : Nat} (hi : first < n) (hg : gen < 4294967296) (h0 : 0 < id) (h1 : id < 4294967296) :
    Calls Tryz.prog 28 #[.pointer (some ⟨lb, 0, none⟩), .agg #[.pointer (some ⟨d, 0, none⟩), .int .i64 first, .int .i64 size, .int .u32 gen]] w fun e w' => e = .returned (.int .i64 4) ∧ Dk w' d S M n safe wn (-1) ∧ Turn [d, S, M] w w' := by
  have hP := Blk.new w 65 #[.pointer (some ⟨d, 0, none⟩), .int .i64 first, .int .i64 size, .int .u32 gen]
  have hb := below_new w (.cells #[.pointer (some ⟨d, 0, none⟩), .int .i64 first, .int .i64 size, .int .u32 gen] 65)
  have hlt := h.head.lt
  have hltM := h.map.lt
  have hltS := h.ltS
  have hll := hS.head.lt
  go_enter Tryz.func28, Tryz.ntmps28
  go_wp2_with fail
  generalize w.alloc (.cells #[.pointer (some ⟨d, 0, none⟩), .int .i64 first, .int .i64 size, .int .u32 gen] 65) = W at *
  have c0 : W.drew.cell? ⟨w.heap.size, 0, none⟩ = some (.pointer (some ⟨d, 0, none⟩)) := hP.at_ 0
  have c1 : W.drew.cell? ⟨w.heap.size, 1, none⟩ = some (.int .i64 first) := hP.at_ 1
  have c2 : W.drew.cell? ⟨w.heap.size, 2, none⟩ = some (.int .i64 size) := hP.at_ 2
  have c3 : W.drew.cell? ⟨w.heap.size, 3, none⟩ = some (.int .u32 gen) := hP.at_ 3
  have hSW := Lib.hid ((hS.held hb).drew)
  have hPUT := Lib.hid (putb_fail1 ((h.held hb).drew)  (size := size) hi hg h0 h1)
  have HB := Lib.hid hb
  clear hP hb hS h
  go_region_held3 (fun w' => w'.cell? ⟨w.heap.size, 0, none⟩ = some (.pointer (some ⟨d, 0, none⟩)) ∧ w'.cell? ⟨w.heap.size, 1, none⟩ = some (.int .i64 first) ∧ w'.cell? ⟨w.heap.size, 2, none⟩ = some (.int .i64 size) ∧ w'.cell? ⟨w.heap.size, 3, none⟩ = some (.int .u32 gen))
    (first | exact ⟨c0, c1, c2, c3⟩ | exact ⟨hT3.cell c0 (by simp; omega), hT3.cell c1 (by simp; omega), hT3.cell c2 (by simp; omega), hT3.cell c3 (by simp; omega)⟩ | go_keep)
    (first | (go_at_call 38; refine (id_any hSW.out).mono ?_; rintro e w' ⟨rfl, rfl⟩)
           | (go_at_call 35; refine hPUT.out.mono ?_; rintro e w3 ⟨rfl, hD3, hT3⟩))
  have hTT := (Turn.of_below [d, S, M] HB.out.drew).trans hT3
  clear c0 c1 c2 c3 hSW hPUT
  go_wp2_with fail
  go_ret
  exact ⟨rfl, hD3, hTT⟩
end
end Go.Proofs.YtpgcnjoodoabhaaGreat

namespace Go.Proofs.YtpgcnjoodoabhaaGreat
open Go.RowKit Rm

/-- what lies in a Log behind its state -/
def lgX (d first size gen len : Nat) (laid : Bool) : List Value := [.pointer (some ⟨d, 0, none⟩), .int .i64 first, .int .i64 size, .int .u32 gen, .int .i64 len, .bool laid]

section
variable {w w' : World} {d S M n : Nat} {safe : Nat → List UInt8} {wn : Int → Option (List UInt8)} {well : Int}
set_option maxRecDepth 20000 in
set_option maxHeartbeats 2000000 in
theorem open_small (h : Dk w d S M n safe wn well) {id : Nat} (hn : n < 4) :
    Calls Tryz.prog 7 #[.pointer (some ⟨d, 0, none⟩), .int .u32 id] w fun e w' => e = .returned (.tuple #[.pointer none, .int .i64 1]) ∧ Below w.heap.size w w' := by
  have HR := regions_any h (half := n / 2) rfl
  obtain ⟨half, hh⟩ : ∃ half, half = n / 2 := ⟨_, rfl⟩
  rw [← hh] at HR
  have hlt : decide ((half : Int) < 2) = true := decide_eq_true (by omega)
  clear hh h
  go_enter Tryz.func7, Tryz.ntmps7
  go_wp2_with fail
  refine HR.mono ?_
  rintro e w1 ⟨rfl, hb1⟩
  have hb2 := next hb1 (below_new w1 (.cells #[.pointer (some ⟨d, 0, none⟩), .int .i64 0, .int .i64 half, .int .u32 0, .pointer (some ⟨d, 0, none⟩), .int .i64 half, .int .i64 half, .int .u32 0] 66))
  clear HR hb1
  go_wp2_with fail
  go_ret2
  exact ⟨rfl, hb2⟩

set_option maxRecDepth 20000 in
set_option maxHeartbeats 4000000 in
theorem open_well (h : Dk w d S M n safe wn well) (hN : ∀ i, i < n → recAt (synced safe wn i) = none) (hw : well ≠ 0) (hw2 : dec well ≠ 0) {id : Nat} (h0 : 0 < id) (h1 : id < 4294967296) (hn : 4 ≤ n) :
    Calls Tryz.prog 7 #[.pointer (some ⟨d, 0, none⟩), .int .u32 id] w fun e w' => ∃ lb, e = .returned (.tuple #[.pointer (some ⟨lb, 0, none⟩), .int .i64 0]) ∧ w.heap.size ≤ lb ∧
      Notes 74 (lgX d 0 (n / 2) 1 0 false) w' lb none none id 0 sm0 ∧ Dk w' d S M n (synced safe (updD wn (((0 : Nat) : Int) + (0 : Nat)) (u8s (Rm.bytes ⟨1, 1, 0, id, 0, 0, false, 0, 0⟩)))) (fun _ => none) (dec (dec well)) ∧ Turn [d, S, M] w w' := by
  have n1 := h.n1
  have HR := regions_any h (half := n / 2) rfl
  obtain ⟨half, hh⟩ : ∃ half, half = n / 2 := ⟨_, rfl⟩
  rw [← hh] at HR ⊢
  have hlt : decide ((half : Int) < 2) = false := decide_eq_false (by omega)
  have hi0 : ((id : Int) == 0) = false := by rw [beq_eq_false_iff_ne]; omega
  have hhn : half < n := by omega
  have HH := Lib.hid (And.intro h hN)
  clear hh h hN
  go_enter Tryz.func7, Tryz.ntmps7
  go_wp2_with fail
  refine HR.mono ?_
  rintro e w1 ⟨rfl, hb1⟩
  have hb2 := next hb1 (below_new w1 (.cells #[.pointer (some ⟨d, 0, none⟩), .int .i64 0, .int .i64 half, .int .u32 0, .pointer (some ⟨d, 0, none⟩), .int .i64 half, .int .i64 half, .int .u32 0] 66))
  have hH := Blk.new w1 66 #[.pointer (some ⟨d, 0, none⟩), .int .i64 0, .int .i64 half, .int .u32 0, .pointer (some ⟨d, 0, none⟩), .int .i64 half, .int .i64 half, .int .u32 0]
  have hz := size_new w1 (.cells #[.pointer (some ⟨d, 0, none⟩), .int .i64 0, .int .i64 half, .int .u32 0, .pointer (some ⟨d, 0, none⟩), .int .i64 half, .int .i64 half, .int .u32 0] 66)
  have hz1 := hb1.size
  clear HR hb1
  go_wp2_with fail
  generalize w1.alloc (.cells #[.pointer (some ⟨d, 0, none⟩), .int .i64 0, .int .i64 half, .int .u32 0, .pointer (some ⟨d, 0, none⟩), .int .i64 half, .int .i64 half, .int .u32 0] 66) = V at *
  refine (new_any id V).mono ?_
  rintro e w2 ⟨rfl, hS, hb3⟩
  have hz3 := hb3.size
  rw [hz] at hS
  have HS := Lib.hid hS
  have s0 : w2.cell? ⟨w1.heap.size + 1, 0, none⟩ = some (.int .u32 id) := hS.head.at_ 0
  have s1 : w2.cell? ⟨w1.heap.size + 1, 1, none⟩ = some (.int .u32 0) := hS.head.at_ 1
  have s2 : w2.cell? ⟨w1.heap.size + 1, 2, none⟩ = some (.map none) := hS.head.at_ 2
  have s3 : w2.cell? ⟨w1.heap.size + 1, 3, none⟩ = some (.map none) := hS.head.at_ 3
  have hs := hS.head.lt
  have L0 := Blk.new w2 74 #[.int .u32 id, .int .u32 0, .map none, .map none, .pointer none, .int .i64 0, .int .i64 0, .int .u32 0, .int .i64 0, .bool false]
  have hb4 := below_new w2 (.cells #[.int .u32 id, .int .u32 0, .map none, .map none, .pointer none, .int .i64 0, .int .i64 0, .int .u32 0, .int .i64 0, .bool false] 74)
  have hH4 := (hH.held hb3).held hb4
  have a0 := hH4.at_ 0
  have a1 := hH4.at_ 1
  have a2 := hH4.at_ 2
  have a3 := hH4.at_ 3
  have a4 := hH4.at_ 4
  have a5 := hH4.at_ 5
  have a6 := hH4.at_ 6
  have a7 := hH4.at_ 7
  have hbb := next (next hb2 hb3) hb4
  have HJ := journal_none (HH.out.1.held hbb) HH.out.2 (rid := id) hhn
  have HX := Lib.hid (And.intro hbb (And.intro hH4 L0))
  clear hS hb3 hb4 hH hH4 hb2 L0 hbb
  go_wp2_with fail
  refine HJ.mono ?_
  rintro e w5 ⟨rfl, hb5⟩
  have hb6 := next hb5 (below_new w5 (.cells #[.pointer none, .int .i64 0, .int .i64 0, .int .u32 0] 65))
  obtain ⟨hbb, hH4, L0⟩ := HX.out
  have hH6 := hH4.held hb6
  have L6 := L0.held hb6
  have hb7 := next hbb hb6
  clear a0 a1 a2 a3 a4 a5 a6 a7 HJ hb5 hb6 hbb hH4 L0 HX s0 s1 s2 s3
  have a0 := hH6.at_ 0
  have a1 := hH6.at_ 1
  have a2 := hH6.at_ 2
  have a3 := hH6.at_ 3
  have l4 := L6.at_ 4
  have l5 := L6.at_ 5
  have l6 := L6.at_ 6
  have l7 := L6.at_ 7
  have f4 := L6.free 4
  have f5 := L6.free 5
  have f6 := L6.free 6
  have f7 := L6.free 7
  have hle : w.heap.size ≤ w2.heap.size := by omega
  have L7 := (((L6.store 4 (.pointer (some ⟨d, 0, none⟩))).store 5 (.int .i64 0)).store 6 (.int .i64 half)).store 7 (.int .u32 0)
  have hb8 := (((hb7.setCell (p := ⟨w2.heap.size, 4, none⟩) hle (.pointer (some ⟨d, 0, none⟩))).setCell (p := ⟨w2.heap.size, 5, none⟩) hle (.int .i64 0)).setCell (p := ⟨w2.heap.size, 6, none⟩) hle (.int .i64 half)).setCell (p := ⟨w2.heap.size, 7, none⟩) hle (.int .u32 0)
  have HG := greatest_none (HH.out.1.held hb8) HH.out.2
  have HX := Lib.hid (And.intro L7 hb8)
  clear L6 L7 hb7 hb8 hH6
  go_wp2_with fail
  generalize ((((w5.alloc (.cells #[.pointer none, .int .i64 0, .int .i64 0, .int .u32 0] 65)).setCell ⟨w2.heap.size, 4, none⟩ (.pointer (some ⟨d, 0, none⟩))).setCell ⟨w2.heap.size, 5, none⟩ (.int .i64 0)).setCell ⟨w2.heap.size, 6, none⟩ (.int .i64 half)).setCell ⟨w2.heap.size, 7, none⟩ (.int .u32 0) = w7 at *
  refine HG.mono ?_
  rintro e w8 ⟨rfl, hb9⟩
  have L7 : Blk 74 w7 w2.heap.size #[.int .u32 id, .int .u32 0, .map none, .map none, .pointer (some ⟨d, 0, none⟩), .int .i64 0, .int .i64 half, .int .u32 0, .int .i64 0, .bool false] := HX.out.1
  have L8 := L7.held hb9
  have hb10 := next HX.out.2 hb9
  have L9 : Blk 74 (w8.setCell ⟨w2.heap.size, 7, none⟩ (.int .u32 1)) w2.heap.size #[.int .u32 id, .int .u32 0, .map none, .map none, .pointer (some ⟨d, 0, none⟩), .int .i64 0, .int .i64 half, .int .u32 1, .int .i64 0, .bool false] := L8.store 7 (.int .u32 1)
  have hb11 := hb10.setCell (p := ⟨w2.heap.size, 7, none⟩) hle (.int .u32 1)
  have hS9 : St 74 (lgX d 0 half 1 0 false) (w8.setCell ⟨w2.heap.size, 7, none⟩ (.int .u32 1)) w2.heap.size none none id 0 0 0 (fun _ => none) (fun _ => none) :=
    ⟨L9, HS.out.owns.of_block (fun _ h => by cases h), HS.out.floors.of_block (fun _ h => by cases h), HS.out.apart, HS.out.small, HS.out.lease_lt, HS.out.counts⟩
  have hBG : Calls Tryz.prog 28 #[.pointer (some ⟨w2.heap.size, 0, none⟩), .agg #[.pointer (some ⟨d, 0, none⟩), .int .i64 0, .int .i64 half, .int .u32 1]] (w8.setCell ⟨w2.heap.size, 7, none⟩ (.int .u32 1)) _ :=
    begin_well hS9 (HH.out.1.held hb11) hw hw2 (first := 0) (size := half) (gen := 1) (by omega) (by omega) h0 h1
  clear l4 l5 l6 l7 f4 f5 f6 f7 a0 a1 a2 a3 HG L7
  have f7 := L8.free 7
  have l7 := L8.at_ 7
  have HX2 := Lib.hid (And.intro hS9 hb11)
  have l4 := L9.at_ 4
  have l5 := L9.at_ 5
  have l6 := L9.at_ 6
  have l7' := L9.at_ 7
  clear L8 L9 hb9 hb10 hb11 hS9 HX
  go_wp2_with fail
  refine hBG.mono ?_
  rintro e w10 ⟨rfl, hD, hT⟩
  obtain ⟨hS9, hb11⟩ := HX2.out
  have hlts := HH.out.1.head.lt
  have hltM := HH.out.1.map.lt
  have hltS := HH.out.1.ltS
  have hS10 := hS9.turn hT (fun x hx => by
    rcases mem_fp.1 hx with rfl | h | h
    · simp; omega
    · cases h
    · cases h)
  have hTT := (Turn.of_below [d, S, M] hb11).trans hT
  clear hBG hT hb11 hS9 HX2 l4 l5 l6 l7 l7' f7
  go_wp2_with fail
  go_ret2
  exact ⟨w2.heap.size, rfl, hle, ⟨0, 0, Nat.le_refl _, hS10⟩, hD, hTT⟩

set_option maxRecDepth 20000 in
set_option maxHeartbeats 4000000 in
theorem open_fail2 (h : Dk w d S M n safe wn 1) (hN : ∀ i, i < n → recAt (synced safe wn i) = none) {id : Nat} (h0 : 0 < id) (h1 : id < 4294967296) (hn : 4 ≤ n) :
    Calls Tryz.prog 7 #[.pointer (some ⟨d, 0, none⟩), .int .u32 id] w fun e w' => e = .returned (.tuple #[.pointer none, .int .i64 4]) ∧ Turn [d, S, M] w w' := by
  have n1 := h.n1
  have HR := regions_any h (half := n / 2) rfl
  obtain ⟨half, hh⟩ : ∃ half, half = n / 2 := ⟨_, rfl⟩
  rw [← hh] at HR
  have hlt : decide ((half : Int) < 2) = false := decide_eq_false (by omega)
  have hi0 : ((id : Int) == 0) = false := by rw [beq_eq_false_iff_ne]; omega
  have hhn : half < n := by omega
  have HH := Lib.hid (And.intro h hN)
  clear hh h hN
  go_enter Tryz.func7, Tryz.ntmps7
  go_wp2_with fail
  refine HR.mono ?_
  rintro e w1 ⟨rfl, hb1⟩
  have hb2 := next hb1 (below_new w1 (.cells #[.pointer (some ⟨d, 0, none⟩), .int .i64 0, .int .i64 half, .int .u32 0, .pointer (some ⟨d, 0, none⟩), .int .i64 half, .int .i64 half, .int .u32 0] 66))
  have hH := Blk.new w1 66 #[.pointer (some ⟨d, 0, none⟩), .int .i64 0, .int .i64 half, .int .u32 0, .pointer (some ⟨d, 0, none⟩), .int .i64 half, .int .i64 half, .int .u32 0]
  have hz := size_new w1 (.cells #[.pointer (some ⟨d, 0, none⟩), .int .i64 0, .int .i64 half, .int .u32 0, .pointer (some ⟨d, 0, none⟩), .int .i64 half, .int .i64 half, .int .u32 0] 66)
  have hz1 := hb1.size
  clear HR hb1
  go_wp2_with fail
  generalize w1.alloc (.cells #[.pointer (some ⟨d, 0, none⟩), .int .i64 0, .int .i64 half, .int .u32 0, .pointer (some ⟨d, 0, none⟩), .int .i64 half, .int .i64 half, .int .u32 0] 66) = V at *
  refine (new_any id V).mono ?_
  rintro e w2 ⟨rfl, hS, hb3⟩
  have hz3 := hb3.size
  rw [hz] at hS
  have HS := Lib.hid hS
  have s0 : w2.cell? ⟨w1.heap.size + 1, 0, none⟩ = some (.int .u32 id) := hS.head.at_ 0
  have s1 : w2.cell? ⟨w1.heap.size + 1, 1, none⟩ = some (.int .u32 0) := hS.head.at_ 1
  have s2 : w2.cell? ⟨w1.heap.size + 1, 2, none⟩ = some (.map none) := hS.head.at_ 2
  have s3 : w2.cell? ⟨w1.heap.size + 1, 3, none⟩ = some (.map none) := hS.head.at_ 3
  have hs := hS.head.lt
  have L0 := Blk.new w2 74 #[.int .u32 id, .int .u32 0, .map none, .map none, .pointer none, .int .i64 0, .int .i64 0, .int .u32 0, .int .i64 0, .bool false]
  have hb4 := below_new w2 (.cells #[.int .u32 id, .int .u32 0, .map none, .map none, .pointer none, .int .i64 0, .int .i64 0, .int .u32 0, .int .i64 0, .bool false] 74)
  have hH4 := (hH.held hb3).held hb4
  have a0 := hH4.at_ 0
  have a1 := hH4.at_ 1
  have a2 := hH4.at_ 2
  have a3 := hH4.at_ 3
  have a4 := hH4.at_ 4
  have a5 := hH4.at_ 5
  have a6 := hH4.at_ 6
  have a7 := hH4.at_ 7
  have hbb := next (next hb2 hb3) hb4
  have HJ := journal_none (HH.out.1.held hbb) HH.out.2 (rid := id) hhn
  have HX := Lib.hid (And.intro hbb (And.intro hH4 L0))
  clear hS hb3 hb4 hH hH4 hb2 L0 hbb
  go_wp2_with fail
  refine HJ.mono ?_
  rintro e w5 ⟨rfl, hb5⟩
  have hb6 := next hb5 (below_new w5 (.cells #[.pointer none, .int .i64 0, .int .i64 0, .int .u32 0] 65))
  obtain ⟨hbb, hH4, L0⟩ := HX.out
  have hH6 := hH4.held hb6
  have L6 := L0.held hb6
  have hb7 := next hbb hb6
  clear a0 a1 a2 a3 a4 a5 a6 a7 HJ hb5 hb6 hbb hH4 L0 HX s0 s1 s2 s3
  have a0 := hH6.at_ 0
  have a1 := hH6.at_ 1
  have a2 := hH6.at_ 2
  have a3 := hH6.at_ 3
  have l4 := L6.at_ 4
  have l5 := L6.at_ 5
  have l6 := L6.at_ 6
  have l7 := L6.at_ 7
  have f4 := L6.free 4
  have f5 := L6.free 5
  have f6 := L6.free 6
  have f7 := L6.free 7
  have hle : w.heap.size ≤ w2.heap.size := by omega
  have L7 := (((L6.store 4 (.pointer (some ⟨d, 0, none⟩))).store 5 (.int .i64 0)).store 6 (.int .i64 half)).store 7 (.int .u32 0)
  have hb8 := (((hb7.setCell (p := ⟨w2.heap.size, 4, none⟩) hle (.pointer (some ⟨d, 0, none⟩))).setCell (p := ⟨w2.heap.size, 5, none⟩) hle (.int .i64 0)).setCell (p := ⟨w2.heap.size, 6, none⟩) hle (.int .i64 half)).setCell (p := ⟨w2.heap.size, 7, none⟩) hle (.int .u32 0)
  have HG := greatest_none (HH.out.1.held hb8) HH.out.2
  have HX := Lib.hid (And.intro L7 hb8)
  clear L6 L7 hb7 hb8 hH6
  go_wp2_with fail
  generalize ((((w5.alloc (.cells #[.pointer none, .int .i64 0, .int .i64 0, .int .u32 0] 65)).setCell ⟨w2.heap.size, 4, none⟩ (.pointer (some ⟨d, 0, none⟩))).setCell ⟨w2.heap.size, 5, none⟩ (.int .i64 0)).setCell ⟨w2.heap.size, 6, none⟩ (.int .i64 half)).setCell ⟨w2.heap.size, 7, none⟩ (.int .u32 0) = w7 at *
  refine HG.mono ?_
  rintro e w8 ⟨rfl, hb9⟩
  have L7 : Blk 74 w7 w2.heap.size #[.int .u32 id, .int .u32 0, .map none, .map none, .pointer (some ⟨d, 0, none⟩), .int .i64 0, .int .i64 half, .int .u32 0, .int .i64 0, .bool false] := HX.out.1
  have L8 := L7.held hb9
  have hb10 := next HX.out.2 hb9
  have L9 : Blk 74 (w8.setCell ⟨w2.heap.size, 7, none⟩ (.int .u32 1)) w2.heap.size #[.int .u32 id, .int .u32 0, .map none, .map none, .pointer (some ⟨d, 0, none⟩), .int .i64 0, .int .i64 half, .int .u32 1, .int .i64 0, .bool false] := L8.store 7 (.int .u32 1)
  have hb11 := hb10.setCell (p := ⟨w2.heap.size, 7, none⟩) hle (.int .u32 1)
  have hS9 : St 74 (lgX d 0 half 1 0 false) (w8.setCell ⟨w2.heap.size, 7, none⟩ (.int .u32 1)) w2.heap.size none none id 0 0 0 (fun _ => none) (fun _ => none) :=
    ⟨L9, HS.out.owns.of_block (fun _ h => by cases h), HS.out.floors.of_block (fun _ h => by cases h), HS.out.apart, HS.out.small, HS.out.lease_lt, HS.out.counts⟩
  have hBG : Calls Tryz.prog 28 #[.pointer (some ⟨w2.heap.size, 0, none⟩), .agg #[.pointer (some ⟨d, 0, none⟩), .int .i64 0, .int .i64 half, .int .u32 1]] (w8.setCell ⟨w2.heap.size, 7, none⟩ (.int .u32 1)) _ :=
    begin_fail2 hS9 (HH.out.1.held hb11) (first := 0) (size := half) (gen := 1) (by omega) (by omega) h0 h1
  clear l4 l5 l6 l7 f4 f5 f6 f7 a0 a1 a2 a3 HG L7
  have f7 := L8.free 7
  have l7 := L8.at_ 7
  have HX2 := Lib.hid (And.intro hS9 hb11)
  have l4 := L9.at_ 4
  have l5 := L9.at_ 5
  have l6 := L9.at_ 6
  have l7' := L9.at_ 7
  clear L8 L9 hb9 hb10 hb11 hS9 HX
  go_wp2_with fail
  refine hBG.mono ?_
  rintro e w10 ⟨rfl, -, hT⟩
  obtain ⟨hS9, hb11⟩ := HX2.out
  have hTT := (Turn.of_below [d, S, M] hb11).trans hT
  clear hBG hT hb11 hS9 HX2 l4 l5 l6 l7 l7' f7
  go_wp2_with fail
  go_ret2
  exact ⟨rfl, hTT⟩

set_option maxRecDepth 20000 in
set_option maxHeartbeats 4000000 in
theorem open_fail1 (h : Dk w d S M n safe wn 0) (hN : ∀ i, i < n → recAt (synced safe wn i) = none) {id : Nat} (h0 : 0 < id) (h1 : id < 4294967296) (hn : 4 ≤ n) :
    Calls Tryz.prog 7 #[.pointer (some ⟨d, 0, none⟩), .int .u32 id] w fun e w' => e = .returned (.tuple #[.pointer none, .int .i64 4]) ∧ Turn [d, S, M] w w' := by
  have n1 := h.n1
  have HR := regions_any h (half := n / 2) rfl
  obtain ⟨half, hh⟩ : ∃ half, half = n / 2 := ⟨_, rfl⟩
  rw [← hh] at HR
  have hlt : decide ((half : Int) < 2) = false := decide_eq_false (by omega)
  have hi0 : ((id : Int) == 0) = false := by rw [beq_eq_false_iff_ne]; omega
  have hhn : half < n := by omega
  have HH := Lib.hid (And.intro h hN)
  clear hh h hN
  go_enter Tryz.func7, Tryz.ntmps7
  go_wp2_with fail
  refine HR.mono ?_
  rintro e w1 ⟨rfl, hb1⟩
  have hb2 := next hb1 (below_new w1 (.cells #[.pointer (some ⟨d, 0, none⟩), .int .i64 0, .int .i64 half, .int .u32 0, .pointer (some ⟨d, 0, none⟩), .int .i64 half, .int .i64 half, .int .u32 0] 66))
  have hH := Blk.new w1 66 #[.pointer (some ⟨d, 0, none⟩), .int .i64 0, .int .i64 half, .int .u32 0, .pointer (some ⟨d, 0, none⟩), .int .i64 half, .int .i64 half, .int .u32 0]
  have hz := size_new w1 (.cells #[.pointer (some ⟨d, 0, none⟩), .int .i64 0, .int .i64 half, .int .u32 0, .pointer (some ⟨d, 0, none⟩), .int .i64 half, .int .i64 half, .int .u32 0] 66)
  have hz1 := hb1.size
  clear HR hb1
  go_wp2_with fail
  generalize w1.alloc (.cells #[.pointer (some ⟨d, 0, none⟩), .int .i64 0, .int .i64 half, .int .u32 0, .pointer (some ⟨d, 0, none⟩), .int .i64 half, .int .i64 half, .int .u32 0] 66) = V at *
  refine (new_any id V).mono ?_
  rintro e w2 ⟨rfl, hS, hb3⟩
  have hz3 := hb3.size
  rw [hz] at hS
  have HS := Lib.hid hS
  have s0 : w2.cell? ⟨w1.heap.size + 1, 0, none⟩ = some (.int .u32 id) := hS.head.at_ 0
  have s1 : w2.cell? ⟨w1.heap.size + 1, 1, none⟩ = some (.int .u32 0) := hS.head.at_ 1
  have s2 : w2.cell? ⟨w1.heap.size + 1, 2, none⟩ = some (.map none) := hS.head.at_ 2
  have s3 : w2.cell? ⟨w1.heap.size + 1, 3, none⟩ = some (.map none) := hS.head.at_ 3
  have hs := hS.head.lt
  have L0 := Blk.new w2 74 #[.int .u32 id, .int .u32 0, .map none, .map none, .pointer none, .int .i64 0, .int .i64 0, .int .u32 0, .int .i64 0, .bool false]
  have hb4 := below_new w2 (.cells #[.int .u32 id, .int .u32 0, .map none, .map none, .pointer none, .int .i64 0, .int .i64 0, .int .u32 0, .int .i64 0, .bool false] 74)
  have hH4 := (hH.held hb3).held hb4
  have a0 := hH4.at_ 0
  have a1 := hH4.at_ 1
  have a2 := hH4.at_ 2
  have a3 := hH4.at_ 3
  have a4 := hH4.at_ 4
  have a5 := hH4.at_ 5
  have a6 := hH4.at_ 6
  have a7 := hH4.at_ 7
  have hbb := next (next hb2 hb3) hb4
  have HJ := journal_none (HH.out.1.held hbb) HH.out.2 (rid := id) hhn
  have HX := Lib.hid (And.intro hbb (And.intro hH4 L0))
  clear hS hb3 hb4 hH hH4 hb2 L0 hbb
  go_wp2_with fail
  refine HJ.mono ?_
  rintro e w5 ⟨rfl, hb5⟩
  have hb6 := next hb5 (below_new w5 (.cells #[.pointer none, .int .i64 0, .int .i64 0, .int .u32 0] 65))
  obtain ⟨hbb, hH4, L0⟩ := HX.out
  have hH6 := hH4.held hb6
  have L6 := L0.held hb6
  have hb7 := next hbb hb6
  clear a0 a1 a2 a3 a4 a5 a6 a7 HJ hb5 hb6 hbb hH4 L0 HX s0 s1 s2 s3
  have a0 := hH6.at_ 0
  have a1 := hH6.at_ 1
  have a2 := hH6.at_ 2
  have a3 := hH6.at_ 3
  have l4 := L6.at_ 4
  have l5 := L6.at_ 5
  have l6 := L6.at_ 6
  have l7 := L6.at_ 7
  have f4 := L6.free 4
  have f5 := L6.free 5
  have f6 := L6.free 6
  have f7 := L6.free 7
  have hle : w.heap.size ≤ w2.heap.size := by omega
  have L7 := (((L6.store 4 (.pointer (some ⟨d, 0, none⟩))).store 5 (.int .i64 0)).store 6 (.int .i64 half)).store 7 (.int .u32 0)
  have hb8 := (((hb7.setCell (p := ⟨w2.heap.size, 4, none⟩) hle (.pointer (some ⟨d, 0, none⟩))).setCell (p := ⟨w2.heap.size, 5, none⟩) hle (.int .i64 0)).setCell (p := ⟨w2.heap.size, 6, none⟩) hle (.int .i64 half)).setCell (p := ⟨w2.heap.size, 7, none⟩) hle (.int .u32 0)
  have HG := greatest_none (HH.out.1.held hb8) HH.out.2
  have HX := Lib.hid (And.intro L7 hb8)
  clear L6 L7 hb7 hb8 hH6
  go_wp2_with fail
  generalize ((((w5.alloc (.cells #[.pointer none, .int .i64 0, .int .i64 0, .int .u32 0] 65)).setCell ⟨w2.heap.size, 4, none⟩ (.pointer (some ⟨d, 0, none⟩))).setCell ⟨w2.heap.size, 5, none⟩ (.int .i64 0)).setCell ⟨w2.heap.size, 6, none⟩ (.int .i64 half)).setCell ⟨w2.heap.size, 7, none⟩ (.int .u32 0) = w7 at *
  refine HG.mono ?_
  rintro e w8 ⟨rfl, hb9⟩
  have L7 : Blk 74 w7 w2.heap.size #[.int .u32 id, .int .u32 0, .map none, .map none, .pointer (some ⟨d, 0, none⟩), .int .i64 0, .int .i64 half, .int .u32 0, .int .i64 0, .bool false] := HX.out.1
  have L8 := L7.held hb9
  have hb10 := next HX.out.2 hb9
  have L9 : Blk 74 (w8.setCell ⟨w2.heap.size, 7, none⟩ (.int .u32 1)) w2.heap.size #[.int .u32 id, .int .u32 0, .map none, .map none, .pointer (some ⟨d, 0, none⟩), .int .i64 0, .int .i64 half, .int .u32 1, .int .i64 0, .bool false] := L8.store 7 (.int .u32 1)
  have hb11 := hb10.setCell (p := ⟨w2.heap.size, 7, none⟩) hle (.int .u32 1)
  have hS9 : St 74 (lgX d 0 half 1 0 false) (w8.setCell ⟨w2.heap.size, 7, none⟩ (.int .u32 1)) w2.heap.size none none id 0 0 0 (fun _ => none) (fun _ => none) :=
    ⟨L9, HS.out.owns.of_block (fun _ h => by cases h), HS.out.floors.of_block (fun _ h => by cases h), HS.out.apart, HS.out.small, HS.out.lease_lt, HS.out.counts⟩
  have hBG : Calls Tryz.prog 28 #[.pointer (some ⟨w2.heap.size, 0, none⟩), .agg #[.pointer (some ⟨d, 0, none⟩), .int .i64 0, .int .i64 half, .int .u32 1]] (w8.setCell ⟨w2.heap.size, 7, none⟩ (.int .u32 1)) _ :=
    begin_fail1 hS9 (HH.out.1.held hb11) (first := 0) (size := half) (gen := 1) (by omega) (by omega) h0 h1
  clear l4 l5 l6 l7 f4 f5 f6 f7 a0 a1 a2 a3 HG L7
  have f7 := L8.free 7
  have l7 := L8.at_ 7
  have HX2 := Lib.hid (And.intro hS9 hb11)
  have l4 := L9.at_ 4
  have l5 := L9.at_ 5
  have l6 := L9.at_ 6
  have l7' := L9.at_ 7
  clear L8 L9 hb9 hb10 hb11 hS9 HX
  go_wp2_with fail
  refine hBG.mono ?_
  rintro e w10 ⟨rfl, -, hT⟩
  obtain ⟨hS9, hb11⟩ := HX2.out
  have hTT := (Turn.of_below [d, S, M] hb11).trans hT
  clear hBG hT hb11 hS9 HX2 l4 l5 l6 l7 l7' f7
  go_wp2_with fail
  go_ret2
  exact ⟨rfl, hTT⟩
end
end Go.Proofs.YtpgcnjoodoabhaaGreat

namespace Go.Proofs.YtpgcnjoodoabhaaGreat
open Go.RowKit Rm

section
variable {w w' : World} {d lb first size gen len : Nat} {laid : Bool} {o fl : Option Nat} {id lease cn cm : Nat} {own : Pk → Option Bool} {floor : Ky → Option (Nat × Nat)}
theorem lg_head (h : St 74 (lgX d first size gen len laid) w lb o fl id lease cn cm own floor) : Blk 74 w lb #[.int .u32 id, .int .u32 lease, .map o, .map fl, .pointer (some ⟨d, 0, none⟩), .int .i64 first, .int .i64 size, .int .u32 gen, .int .i64 len, .bool laid] := h.head
theorem gen_any (h : St 74 (lgX d first size gen len laid) w lb o fl id lease cn cm own floor) :
    Calls Tryz.prog 15 #[.pointer (some ⟨lb, 0, none⟩)] w fun e w' => e = .returned (.int .u32 gen) ∧ w = w' := by
  have c7 := (lg_head h).at_ 7
  clear h
  go_enter Tryz.func15, Tryz.ntmps15
  go_wp2
  go_ret
  exact ⟨rfl, rfl⟩
theorem len_any (h : St 74 (lgX d first size gen len laid) w lb o fl id lease cn cm own floor) :
    Calls Tryz.prog 16 #[.pointer (some ⟨lb, 0, none⟩)] w fun e w' => e = .returned (.int .i64 len) ∧ w = w' := by
  have c8 := (lg_head h).at_ 8
  clear h
  go_enter Tryz.func16, Tryz.ntmps16
  go_wp2
  go_ret
  exact ⟨rfl, rfl⟩
theorem state_any (h : St 74 (lgX d first size gen len laid) w lb o fl id lease cn cm own floor) :
    Calls Tryz.prog 10 #[.pointer (some ⟨lb, 0, none⟩)] w fun e w' => e = .returned (.pointer (some ⟨lb, 0, none⟩)) ∧ w = w' := by
  have c0 := (lg_head h).at_ 0
  clear h
  go_enter Tryz.func10, Tryz.ntmps10
  go_wp2
  go_ret
  exact ⟨rfl, rfl⟩
theorem next_any (h : St 74 (lgX d first size gen len laid) w lb o fl id lease cn cm own floor) (hl : len ≤ 100000) :
    Calls Tryz.prog 36 #[.pointer (some ⟨lb, 0, none⟩)] w fun e w' => e = .returned (.int .i64 (1 + (len : Int))) ∧ w = w' := by
  have c8 := (lg_head h).at_ 8
  have hw : IntKind.i64.wrap (1 + (len : Int)) = 1 + (len : Int) := by simp only [IntKind.wrap, IntKind.bits, IntKind.signed]; simp; omega
  clear h
  go_enter Tryz.func36, Tryz.ntmps36
  go_wp2
  go_ret
  exact ⟨rfl, rfl⟩
set_option maxHeartbeats 1000000 in
theorem full_log (h : St 74 (lgX d first size gen len laid) w lb o fl id lease cn cm own floor) (hl : len ≤ 100000) {q : Bool} (hq : decide ((size : Int) ≤ 1 + (len : Int)) = q) :
    Calls Tryz.prog 33 #[.pointer (some ⟨lb, 0, none⟩)] w fun e w' => e = .returned (.bool q) ∧ Below w.heap.size w w' := by
  have c6 : w.drew.cell? ⟨lb, 6, none⟩ = some (.int .i64 size) := (lg_head h).at_ 6
  have HN := next_any h.drew hl
  clear h
  go_enter Tryz.func33, Tryz.ntmps33
  go_wp2_with fail
  go_region_held3 (fun w' => w'.cell? ⟨lb, 6, none⟩ = some (.int .i64 size)) (go_keep)
    (first | (go_at_call 36; refine HN.mono ?_; rintro e w' ⟨rfl, rfl⟩))
  go_wp2_with fail
  go_ret
  exact ⟨ret_bool (by rw [← hq]), (Below.refl _ _).drew⟩
end
end Go.Proofs.YtpgcnjoodoabhaaGreat

namespace Go.Proofs.YtpgcnjoodoabhaaGreat
open Go.RowKit Rm

section
variable {w w' : World} {d S M n : Nat} {safe : Nat → List UInt8} {wn : Int → Option (List UInt8)} {well : Int}
theorem put_at (h : Dk w d S M n safe wn well) (hw : well ≠ 0) (hw2 : dec well ≠ 0) {first size gen place : Nat} {z : Int} (hz : z = (place : Int)) (hi : first + place < n) {k : Int} {g l id a : Nat} {len : Int} {on : Bool} {s m : Nat} (hf : (⟨k, gen, place, id, a, len, on, s, m⟩ : Rc).Fits) (hr : right ⟨k, gen, place, id, a, len, on, s, m⟩ = true) :
    Calls Tryz.prog 35 #[.agg #[.pointer (some ⟨d, 0, none⟩), .int .i64 first, .int .i64 size, .int .u32 gen], .int .i64 z, .agg #[.int .i64 k, .int .u32 g, .int .u32 l, .int .u32 id, .int .u32 a, .int .i64 len, .bool on, .int .u32 s, .int .u16 m]] w fun e w' => (e = .returned (.int .i64 0) ∧
      Dk w' d S M n (synced safe (updD wn ((first : Int) + place) (u8s (Rm.bytes ⟨k, gen, place, id, a, len, on, s, m⟩)))) (fun _ => none) (dec (dec well))) ∧ Turn [d, S, M] w w' := by
  subst hz
  exact (put_well h hw hw2 hi hf hr).mono fun e w' h => ⟨⟨h.1, h.2.1⟩, h.2.2⟩

set_option maxRecDepth 20000 in
set_option maxHeartbeats 4000000 in
theorem append_well {lb first size gen len : Nat} {laid : Bool} {o fl : Option Nat} {id N : Nat} {T : Sm} (hN : Notes 74 (lgX d first size gen len laid) w lb o fl id N T) (hNN : N < 100000) (h : Dk w d S M n safe wn well) (hw : well ≠ 0) (hw2 : dec well ≠ 0)
    (hdis : ∀ x, x ∈ fp lb o fl → x ∉ [d, S, M]) (hi : first + (1 + len) < n) (hsz : 1 + len < size) (hg : gen < 4294967296) {k : Int} {g l rid a : Nat} {rn : Int} {on : Bool} {s m : Nat} (hf : (⟨k, g, l, rid, a, rn, on, s, m⟩ : Rc).Fits) (hr : right ⟨k, g, l, rid, a, rn, on, s, m⟩ = true) (hk : k ≠ 1) :
    Calls Tryz.prog 12 #[.pointer (some ⟨lb, 0, none⟩), .agg #[.int .i64 k, .int .u32 g, .int .u32 l, .int .u32 rid, .int .u32 a, .int .i64 rn, .bool on, .int .u32 s, .int .u16 m]] w fun e w' => e = .returned (.int .i64 0) ∧
      Dk w' d S M n (synced safe (updD wn ((first : Int) + ((1 + len : Nat) : Int)) (u8s (Rm.bytes ⟨k, gen, 1 + len, rid, a, rn, on, s, m⟩)))) (fun _ => none) (dec (dec well)) ∧
      ∃ o' fl', Notes 74 (lgX d first size gen (len + 1) laid) w' lb o' fl' id (N + 1) (app T ⟨k, g, l, rid, a, rn, on, s, m⟩) ∧ Turn ([d, S, M] ++ fp lb o fl) w w' ∧ ∀ y, y ∈ fp lb o' fl' → y ∈ fp lb o fl ∨ w.heap.size ≤ y := by
  obtain ⟨cn, cm, hnm, hS⟩ := hN
  have n2 := h.n2
  have hk1 : (k == 1) = false := beq_eq_false_iff_ne.2 hk
  have hf2 : (⟨k, gen, 1 + len, rid, a, rn, on, s, m⟩ : Rc).Fits := ⟨hf.k1, hf.k2, hg, by show 1 + len < 4294967296; omega, hf.id, hf.a, hf.n1, hf.n2, hf.seq, hf.met⟩
  have hr2 : right ⟨k, gen, 1 + len, rid, a, rn, on, s, m⟩ = true := by rw [← right_two] at hr ⊢; unfold right2 at hr ⊢; exact hr
  have RB := Blk.new w 41 #[.int .i64 k, .int .u32 g, .int .u32 l, .int .u32 rid, .int .u32 a, .int .i64 rn, .bool on, .int .u32 s, .int .u16 m]
  have hb := below_new w (.cells #[.int .i64 k, .int .u32 g, .int .u32 l, .int .u32 rid, .int .u32 a, .int .i64 rn, .bool on, .int .u32 s, .int .u16 m] 41)
  go_enter Tryz.func12, Tryz.ntmps12
  have HH := Lib.hid (And.intro h (And.intro hS (And.intro hf (And.intro hf2 (And.intro hr2 (And.intro RB hb))))))
  have HRT := prright_eq hf.a hr (w.alloc (.cells #[.int .i64 k, .int .u32 g, .int .u32 l, .int .u32 rid, .int .u32 a, .int .i64 rn, .bool on, .int .u32 s, .int .u16 m] 41))
  have HDIS := Lib.hid hdis
  clear h hS hf hf2 hr hr2 RB hb hdis hk
  go_wp2_with fail
  generalize w.alloc (.cells #[.int .i64 k, .int .u32 g, .int .u32 l, .int .u32 rid, .int .u32 a, .int .i64 rn, .bool on, .int .u32 s, .int .u16 m] 41) = W at *
  refine HRT.mono ?_
  rintro e x1 ⟨rfl, hb1⟩
  obtain ⟨h, hS, hf, hf2, hr2, RB, hb⟩ := HH.out
  have hbb := next hb hb1
  have RB1 := RB.held hb1
  have hS1 := hS.held hbb
  have HF := full_log hS1 (by omega) (q := false) (decide_eq_false (by omega))
  have r0 := RB1.at_ 0
  have H1 := Lib.hid (And.intro hbb (And.intro RB1 hS1))
  clear h hS hf hf2 hr2 RB hb hbb RB1 hS1 HRT hb1
  go_wp2_with fail
  refine HF.mono ?_
  rintro e x2 ⟨rfl, hb2⟩
  obtain ⟨h, hS, hf, hf2, hr2, RB, hb⟩ := HH.out
  obtain ⟨hbb, RB1, hS1⟩ := H1.out
  have hbb2 := next hbb hb2
  have RB2 := (RB1.held hb2).drew
  have hS2 := (hS1.held hb2).drew
  have HL := lg_head hS2
  have hlb := hS.head.lt
  have hlt := h.head.lt
  have hltM := h.map.lt
  have hltS := h.ltS
  have hl1 := HDIS.out lb (mem_fp.2 (.inl rfl))
  simp only [List.mem_cons, List.not_mem_nil, or_false, not_or] at hl1
  obtain ⟨hl1, hl2, hl3⟩ := hl1
  clear r0
  have l4 : x2.drew.cell? ⟨lb, 4, none⟩ = some (.pointer (some ⟨d, 0, none⟩)) := HL.at_ 4
  have l5 : x2.drew.cell? ⟨lb, 5, none⟩ = some (.int .i64 first) := HL.at_ 5
  have l6 : x2.drew.cell? ⟨lb, 6, none⟩ = some (.int .i64 size) := HL.at_ 6
  have l7 : x2.drew.cell? ⟨lb, 7, none⟩ = some (.int .u32 gen) := HL.at_ 7
  have r0 : x2.drew.cell? ⟨w.heap.size, 0, none⟩ = some (.int .i64 k) := RB2.at_ 0
  have r1 : x2.drew.cell? ⟨w.heap.size, 1, none⟩ = some (.int .u32 g) := RB2.at_ 1
  have r2 : x2.drew.cell? ⟨w.heap.size, 2, none⟩ = some (.int .u32 l) := RB2.at_ 2
  have r3 : x2.drew.cell? ⟨w.heap.size, 3, none⟩ = some (.int .u32 rid) := RB2.at_ 3
  have r4 : x2.drew.cell? ⟨w.heap.size, 4, none⟩ = some (.int .u32 a) := RB2.at_ 4
  have r5 : x2.drew.cell? ⟨w.heap.size, 5, none⟩ = some (.int .i64 rn) := RB2.at_ 5
  have r6 : x2.drew.cell? ⟨w.heap.size, 6, none⟩ = some (.bool on) := RB2.at_ 6
  have r7 : x2.drew.cell? ⟨w.heap.size, 7, none⟩ = some (.int .u32 s) := RB2.at_ 7
  have r8 : x2.drew.cell? ⟨w.heap.size, 8, none⟩ = some (.int .u16 m) := RB2.at_ 8
  have HNX := next_any hS2 (by omega)
  have HPUT := put_at (h.held hbb2).drew hw hw2 (size := size) (z := 1 + (len : Int)) (place := 1 + len) (by push_cast; rfl) hi (g := g) (l := l) hf2 hr2
  have H2 := Lib.hid (And.intro hbb2 (And.intro RB2 hS2))
  clear h hS hf hf2 hr2 RB hb hbb RB1 hS1 hbb2 RB2 hS2 HL H1 HF hb2
  go_wp2_with fail
  go_region_held3 (fun w' => w'.cell? ⟨lb, 4, none⟩ = some (.pointer (some ⟨d, 0, none⟩)) ∧ w'.cell? ⟨lb, 5, none⟩ = some (.int .i64 first) ∧ w'.cell? ⟨lb, 6, none⟩ = some (.int .i64 size) ∧ w'.cell? ⟨lb, 7, none⟩ = some (.int .u32 gen) ∧ w'.cell? ⟨w.heap.size, 0, none⟩ = some (.int .i64 k) ∧ w'.cell? ⟨w.heap.size, 1, none⟩ = some (.int .u32 g) ∧ w'.cell? ⟨w.heap.size, 2, none⟩ = some (.int .u32 l) ∧ w'.cell? ⟨w.heap.size, 3, none⟩ = some (.int .u32 rid) ∧ w'.cell? ⟨w.heap.size, 4, none⟩ = some (.int .u32 a) ∧ w'.cell? ⟨w.heap.size, 5, none⟩ = some (.int .i64 rn) ∧ w'.cell? ⟨w.heap.size, 6, none⟩ = some (.bool on) ∧ w'.cell? ⟨w.heap.size, 7, none⟩ = some (.int .u32 s) ∧ w'.cell? ⟨w.heap.size, 8, none⟩ = some (.int .u16 m))
    (first | exact ⟨l4, l5, l6, l7, r0, r1, r2, r3, r4, r5, r6, r7, r8⟩ | exact ⟨hT3.cell l4 (by simp; omega), hT3.cell l5 (by simp; omega), hT3.cell l6 (by simp; omega), hT3.cell l7 (by simp; omega), hT3.cell r0 (by simp; omega), hT3.cell r1 (by simp; omega), hT3.cell r2 (by simp; omega), hT3.cell r3 (by simp; omega), hT3.cell r4 (by simp; omega), hT3.cell r5 (by simp; omega), hT3.cell r6 (by simp; omega), hT3.cell r7 (by simp; omega), hT3.cell r8 (by simp; omega)⟩ | go_keep)
    (first | (go_at_call 36; refine HNX.mono ?_; rintro e w' ⟨rfl, rfl⟩)
           | (go_at_call 35; refine HPUT.mono ?_; rintro e x3 ⟨⟨rfl, hD3⟩, hT3⟩))
  obtain ⟨hbb2, RB2, hS2⟩ := H2.out
  have hS3 := hS2.turn hT3 HDIS.out
  have hwl : w.heap.size ∉ [d, S, M] := by simp; omega
  have RB3 := RB2.turn hT3 hwl
  have HL3 := lg_head hS3
  have hfl : ∀ x, x ∈ fp lb o fl → x < w.heap.size := fun x hx => HH.out.2.1.lt hx
  have hS4 : St 74 (lgX d first size gen (len + 1) laid) (x3.setCell ⟨lb, 8, none⟩ (.int .i64 ((len : Int) + 1))) lb o fl id T.lease cn cm T.own T.floor :=
    ⟨HL3.store 8 (.int .i64 ((len : Int) + 1)), hS3.owns.of_block (fun b hb => Below.heap_setCell _ _ _ _ (Ne.symm (hS3.head_ne (.inl hb)))), hS3.floors.of_block (fun b hb => Below.heap_setCell _ _ _ _ (Ne.symm (hS3.head_ne (.inr hb)))), hS3.apart, hS3.small, hS3.lease_lt, hS3.counts⟩
  have RB4 : Blk 41 (x3.setCell ⟨lb, 8, none⟩ (.int .i64 ((len : Int) + 1))) w.heap.size _ := (Below.heap_setCell _ _ _ _ (by show w.heap.size ≠ lb; omega)).trans RB3
  have hD4 : Dk (x3.setCell ⟨lb, 8, none⟩ (.int .i64 ((len : Int) + 1))) d S M n _ _ _ := hD3.of_blocks (Below.heap_setCell _ _ _ _ (by show d ≠ lb; omega)) (Below.heap_setCell _ _ _ _ (by show S ≠ lb; omega)) (Below.heap_setCell _ _ _ _ (by show M ≠ lb; omega))
  have l8 := HL3.at_ 8
  have f8 := HL3.free 8
  have hT4 : Turn ([d, S, M] ++ fp lb o fl) w (x3.setCell ⟨lb, 8, none⟩ (.int .i64 ((len : Int) + 1))) := ((Turn.of_below _ hbb2.drew).trans (hT3.mono (by simp))).trans (Turn.setCell _ (p := ⟨lb, 8, none⟩) (List.mem_append_right _ (mem_fp.2 (.inl rfl))) _)
  have hw8 : IntKind.i64.wrap ((len : Int) + 1) = (len : Int) + 1 := by simp only [IntKind.wrap, IntKind.bits, IntKind.signed]; simp; omega
  have HA := apply_any (S := T) (N := N) ⟨cn, cm, hnm, hS4.drew⟩ hNN ⟨k, g, l, rid, a, rn, on, s, m⟩ HH.out.2.2.1
  have H4 := Lib.hid (And.intro RB4 (And.intro hT4 (And.intro hD4 (And.intro hS4 hfl))))
  clear l4 l5 l6 l7 r0 r1 r2 r3 r4 r5 r6 r7 r8 hbb2 RB2 hS2 hS3 RB3 HL3 hfl hS4 RB4 hT4 hD4 hT3 hD3 HNX HPUT H2
  go_wp2_with fail
  obtain ⟨RB4, hT4, hD4, hS4, hfl⟩ := H4.out
  have hsz4 := hT4.size
  have r0 : (x3.setCell ⟨lb, 8, none⟩ (.int .i64 ((len : Int) + 1))).drew.cell? ⟨w.heap.size, 0, none⟩ = some (.int .i64 k) := RB4.at_ 0
  have r1 : (x3.setCell ⟨lb, 8, none⟩ (.int .i64 ((len : Int) + 1))).drew.cell? ⟨w.heap.size, 1, none⟩ = some (.int .u32 g) := RB4.at_ 1
  have r2 : (x3.setCell ⟨lb, 8, none⟩ (.int .i64 ((len : Int) + 1))).drew.cell? ⟨w.heap.size, 2, none⟩ = some (.int .u32 l) := RB4.at_ 2
  have r3 : (x3.setCell ⟨lb, 8, none⟩ (.int .i64 ((len : Int) + 1))).drew.cell? ⟨w.heap.size, 3, none⟩ = some (.int .u32 rid) := RB4.at_ 3
  have r4 : (x3.setCell ⟨lb, 8, none⟩ (.int .i64 ((len : Int) + 1))).drew.cell? ⟨w.heap.size, 4, none⟩ = some (.int .u32 a) := RB4.at_ 4
  have r5 : (x3.setCell ⟨lb, 8, none⟩ (.int .i64 ((len : Int) + 1))).drew.cell? ⟨w.heap.size, 5, none⟩ = some (.int .i64 rn) := RB4.at_ 5
  have r6 : (x3.setCell ⟨lb, 8, none⟩ (.int .i64 ((len : Int) + 1))).drew.cell? ⟨w.heap.size, 6, none⟩ = some (.bool on) := RB4.at_ 6
  have r7 : (x3.setCell ⟨lb, 8, none⟩ (.int .i64 ((len : Int) + 1))).drew.cell? ⟨w.heap.size, 7, none⟩ = some (.int .u32 s) := RB4.at_ 7
  have r8 : (x3.setCell ⟨lb, 8, none⟩ (.int .i64 ((len : Int) + 1))).drew.cell? ⟨w.heap.size, 8, none⟩ = some (.int .u16 m) := RB4.at_ 8
  have hnf : w.heap.size ∉ fp lb o fl := fun hx => by have := hfl _ hx; omega
  clear RB4 hT4 hD4 hS4 hfl l8 f8
  generalize x3.setCell ⟨lb, 8, none⟩ (.int .i64 ((len : Int) + 1)) = x4 at *
  go_region_held3 (fun w' => w'.cell? ⟨w.heap.size, 0, none⟩ = some (.int .i64 k) ∧ w'.cell? ⟨w.heap.size, 1, none⟩ = some (.int .u32 g) ∧ w'.cell? ⟨w.heap.size, 2, none⟩ = some (.int .u32 l) ∧ w'.cell? ⟨w.heap.size, 3, none⟩ = some (.int .u32 rid) ∧ w'.cell? ⟨w.heap.size, 4, none⟩ = some (.int .u32 a) ∧ w'.cell? ⟨w.heap.size, 5, none⟩ = some (.int .i64 rn) ∧ w'.cell? ⟨w.heap.size, 6, none⟩ = some (.bool on) ∧ w'.cell? ⟨w.heap.size, 7, none⟩ = some (.int .u32 s) ∧ w'.cell? ⟨w.heap.size, 8, none⟩ = some (.int .u16 m))
    (first | exact ⟨r0, r1, r2, r3, r4, r5, r6, r7, r8⟩ | exact ⟨hT5.cell r0 hnf, hT5.cell r1 hnf, hT5.cell r2 hnf, hT5.cell r3 hnf, hT5.cell r4 hnf, hT5.cell r5 hnf, hT5.cell r6 hnf, hT5.cell r7 hnf, hT5.cell r8 hnf⟩ | go_keep)
    (first | (go_at_call 37; refine HA.mono ?_; rintro e x5 ⟨rfl, o', fl', hN5, hT5, hfp5⟩))
  obtain ⟨-, hT4, hD4, -, -⟩ := H4.out
  have hD5 := hD4.drew.of_blocks (hT5.block _ hD4.drew.head.lt (fun hx => HDIS.out d hx (by simp))) (hT5.block _ hD4.drew.ltS (fun hx => HDIS.out S hx (by simp))) (hT5.block _ hD4.drew.map.lt (fun hx => HDIS.out M hx (by simp)))
  have hTT := hT4.drew.trans (hT5.mono (fun i hi => List.mem_append_right _ hi))
  have hfp6 : ∀ y, y ∈ fp lb o' fl' → y ∈ fp lb o fl ∨ w.heap.size ≤ y := fun y hy => (hfp5 y hy).imp_right fun h => Nat.le_trans hsz4 h
  clear r0 r1 r2 r3 r4 r5 r6 r7 r8 HA
  go_wp2_with fail
  go_ret
  exact ⟨rfl, hD5, o', fl', hN5, hTT, hfp6⟩
end
end Go.Proofs.YtpgcnjoodoabhaaGreat

namespace Go.Proofs.YtpgcnjoodoabhaaGreat
open Go.RowKit Rm

/-- a record in its place -/
def inAt (gen place : Nat) (r : Rc) : Rc := ⟨r.kind, gen, place, r.id, r.a, r.len, r.on, r.seq, r.met⟩
theorem inAt_right {gen place : Nat} {r : Rc} (h : right2 r = true) : right (inAt gen place r) = true := by
  rw [← right_two]
  unfold right2 inAt at *
  exact h
theorem inAt_fits {gen place : Nat} {r : Rc} (h : r.Fits) (hg : gen < 4294967296) (hp : place < 4294967296) : (inAt gen place r).Fits := ⟨h.k1, h.k2, hg, hp, h.id, h.a, h.n1, h.n2, h.seq, h.met⟩
/-- what is written once k of the records are laid -/
def layW (wn : Int → Option (List UInt8)) (first gen : Nat) (rs : List Rc) : Nat → Int → Option (List UInt8)
  | 0 => wn
  | k + 1 => updD (layW wn first gen rs k) ((first : Int) + ((1 + k : Nat) : Int)) (u8s (Rm.bytes (inAt gen (1 + k) (rs[k]?.getD Rm.zero))))

section
variable {w w' : World} {d S M n : Nat} {safe : Nat → List UInt8} {wn : Int → Option (List UInt8)} {well : Int}
theorem write_at (h : Dk w d S M n safe wn (-1)) {first size gen place : Nat} {z : Int} (hz : z = (place : Int)) (hi : first + place < n) {k : Int} {g l id a : Nat} {len : Int} {on : Bool} {s m : Nat} (hf : (⟨k, gen, place, id, a, len, on, s, m⟩ : Rc).Fits) (hr : right ⟨k, gen, place, id, a, len, on, s, m⟩ = true) :
    Calls Tryz.prog 64 #[.agg #[.pointer (some ⟨d, 0, none⟩), .int .i64 first, .int .i64 size, .int .u32 gen], .int .i64 z, .agg #[.int .i64 k, .int .u32 g, .int .u32 l, .int .u32 id, .int .u32 a, .int .i64 len, .bool on, .int .u32 s, .int .u16 m]] w fun e w' => e = .returned (.int .i64 0) ∧
      Dk w' d S M n safe (updD wn ((first : Int) + (place : Int)) (u8s (Rm.bytes ⟨k, gen, place, id, a, len, on, s, m⟩))) (-1) ∧ Turn [d, M] w w' := by
  subst hz
  exact write_well h (by decide) hi hf hr

set_option maxRecDepth 20000 in
set_option maxHeartbeats 1000000 in
theorem lay_any (h : Dk w d S M n safe wn (-1)) {first size gen len cap : Nat} {a : Option Addr} {rs : List Rc} (hl : rs.length = len) (hlc : len ≤ cap) (hA : 0 < len → ∃ b off, a = some ⟨b, off, none⟩) (hR : ∀ b off, a = some ⟨b, off, none⟩ → Recs w b off rs ∧ b < w.heap.size ∧ b ∉ [d, M])
    (hF : ∀ r ∈ rs, right2 r = true ∧ r.Fits) (hi : first + len < n) (hg : gen < 4294967296) :
    Calls Tryz.prog 63 #[.agg #[.pointer (some ⟨d, 0, none⟩), .int .i64 first, .int .i64 size, .int .u32 gen], .slice a len cap] w fun e w' => e = .returned (.int .i64 0) ∧
      Dk w' d S M n (synced safe (layW wn first gen rs len)) (fun _ => none) (-1) ∧ Turn [d, S, M] w w' := by
  have n2 := h.n2
  have hlt := h.head.lt
  have hltM := h.map.lt
  have hP := Blk.new w 65 #[.pointer (some ⟨d, 0, none⟩), .int .i64 first, .int .i64 size, .int .u32 gen]
  have hb := below_new w (.cells #[.pointer (some ⟨d, 0, none⟩), .int .i64 first, .int .i64 size, .int .u32 gen] 65)
  go_enter Tryz.func63, Tryz.ntmps63
  have hD0 := h.held hb
  have hRw : ∀ b off, a = some ⟨b, off, none⟩ → Recs (w.alloc (.cells #[.pointer (some ⟨d, 0, none⟩), .int .i64 first, .int .i64 size, .int .u32 gen] 65)) b off rs ∧ b < w.heap.size ∧ b ∉ [d, M] := fun b off e => ⟨(hR b off e).1.held hb, (hR b off e).2⟩
  have HB := Lib.hid hb
  clear h hR hb
  go_wp2_with fail
  generalize w.alloc (.cells #[.pointer (some ⟨d, 0, none⟩), .int .i64 first, .int .i64 size, .int .u32 gen] 65) = W at *
  have hwW : w.heap.size < W.heap.size := hP.lt
  go_loopw [10] (fun i wr => ∃ k : Nat, k ≤ len ∧ i = .int .i64 k ∧ Dk wr d S M n safe (layW wn first gen rs k) (-1) ∧ Turn [d, M] W wr) (fun i _ => len - (intOf i).toNat)
  case atStart => exact ⟨0, by omega, rfl, hD0, Turn.refl _ _⟩
  case round =>
    obtain ⟨k, hk, rfl, hD, hT⟩ := hrel
    have hP2 := hP.turn hT (by simp; omega)
    have c0 := hP2.at_ 0
    have c1 := hP2.at_ 1
    have c2 := hP2.at_ 2
    have c3 := hP2.at_ 3
    by_cases hlt2 : k < len
    · obtain ⟨b, off, rfl⟩ := hA (by omega)
      obtain ⟨hRk0, hbl, hbn⟩ := hRw b off rfl
      have hk' : k < rs.length := by omega
      have hRk := hRk0.of_block (hT.block b (by omega) hbn)
      obtain ⟨hr2, hfit⟩ := hF rs[k] (List.getElem_mem hk')
      have hnext : layW wn first gen rs (k + 1) = updD (layW wn first gen rs k) ((first : Int) + ((1 + k : Nat) : Int)) (u8s (Rm.bytes (inAt gen (1 + k) rs[k]))) := by
        show updD _ _ _ = _
        rw [List.getElem?_eq_getElem hk']
        rfl
      generalize hrk : rs[k] = r at *
      have hfi := inAt_fits (gen := gen) (place := 1 + k) hfit hg (by omega)
      have hri := inAt_right (gen := gen) (place := 1 + k) hr2
      obtain ⟨kd, g, l, rid, ra, rn, on, s, m⟩ := r
      obtain ⟨e0, e1, e2, e3, e4, e5, e6, e7, e8⟩ := hRk.cells hk' hrk
      have hbb := below_new wr (.cells #[.int .i64 kd, .int .u32 g, .int .u32 l, .int .u32 rid, .int .u32 ra, .int .i64 rn, .bool on, .int .u32 s, .int .u16 m] 41)
      have HWr := write_at (hD.held hbb) (first := first) (size := size) (gen := gen) (place := 1 + k) (z := 1 + (k : Int)) (by push_cast; rfl) (by omega) (g := g) (l := l) hfi hri
      have hP3 := hP2.held hbb
      have p0 := hP3.at_ 0
      have p1 := hP3.at_ 1
      have p2 := hP3.at_ 2
      have p3 := hP3.at_ 3
      have HH := Lib.hid (And.intro hT (And.intro hbb hnext))
      clear hD hT hP2 hP3 c0 c1 c2 c3 hRk hRk0 hr2 hfit hrk hfi hri hbb hnext hF hRw hA hD0
      go_wp2_with fail
      refine HWr.mono ?_
      rintro e x1 ⟨rfl, hD1, hT1⟩
      have hT2 := (HH.out.1.and_below HH.out.2.1).trans hT1
      have hD2 : Dk x1 d S M n safe (layW wn first gen rs (k + 1)) (-1) := by rw [HH.out.2.2]; exact hD1
      clear HWr hD1 hT1 HH e0 e1 e2 e3 e4 e5 e6 e7 e8 p0 p1 p2 p3
      go_wp2_with fail
      go_roundw
      case rel => exact ⟨k + 1, by omega, by go_num, hD2, hT2⟩
      case measure => simp [intOf]; omega
    · obtain rfl : k = len := by omega
      have hS := sync_ok hD (by decide)
      have hTT := (Turn.of_below [d, S, M] HB.out).trans (hT.mono (by simp))
      clear hRw hA hF hD0 hD hT hP2
      go_wp2_with fail
      refine hS.mono ?_
      rintro e x1 ⟨rfl, hD1, hT1⟩
      have hTT2 := hTT.trans hT1
      go_wp2_with fail
      go_ret
      exact ⟨rfl, hD1, hTT2⟩
end
end Go.Proofs.YtpgcnjoodoabhaaGreat

