/-
  Package wal: writing a record, and making it safe.
  Package state: ID and Own.
  Package wal: a region's Begin.
  Package wal: Open, on a disk without records.
  Package wal: what a Log tells of itself.
  Iterators: what is collected off a map; what a function value answers, be it a function's or a loop's. No program's own text in sight.
-/
import Derived.Test.YtmhcjhbmeohjdaaGreatS06
import Derived.Test.YtmhcjhbmeohjdaaGreatS05
import Derived.Test.YtmhcjhbmeohjdaaGreatS01
import Derived.Test.YtmhcjhbmeohjdaaGreatS04
import Derived.RangeFuncNested
import Derived.RangeFuncBound
import Derived.RangeFuncCalls
import Derived.RangeFuncLeaves
import Derived.RangeFuncBox
import Derived.Sort.KeysCollected
import Derived.Maps.AppendAt
import Derived.Shelf.RegionOpen
import Derived.OwnWalkIn
import Derived.TacticsInMore
import Derived.LoopNIn
import Derived.LoopIn
namespace Go.Proofs.YtmhcjhbmeohjdaaGreat
open Go.RowKit Rm

section
variable {w w' : World} {d S M n : Nat} {safe : Nat → List UInt8} {wn : Int → Option (List UInt8)} {well : Int}
set_option maxRecDepth 20000 in
set_option maxHeartbeats 2000000 in
theorem put_well (h : Dk w d S M n safe wn well) (hw : well ≠ 0) (hw2 : dec well ≠ 0) {first size gen place : Nat} (hi : first + place < n) {k : Int} {g l id a : Nat} {len : Int} {on : Bool} {s m : Nat} (hf : (⟨k, gen, place, id, a, len, on, s, m⟩ : Rc).Fits) (hr : right ⟨k, gen, place, id, a, len, on, s, m⟩ = true) :
    Calls Tryz.prog 80 #[.agg #[.pointer (some ⟨d, 0, none⟩), .int .i64 first, .int .i64 size, .int .u32 gen], .int .i64 place, .agg #[.int .i64 k, .int .u32 g, .int .u32 l, .int .u32 id, .int .u32 a, .int .i64 len, .bool on, .int .u32 s, .int .u16 m]] w fun e w' => e = .returned (.int .i64 0) ∧
      Dk w' d S M n (synced safe (updD wn ((first : Int) + place) (u8s (Rm.bytes ⟨k, gen, place, id, a, len, on, s, m⟩)))) (fun _ => none) (dec (dec well)) ∧ Turn [d, S, M] w w' := by
  have hP := (Blk.new w 78 #[.pointer (some ⟨d, 0, none⟩), .int .i64 first, .int .i64 size, .int .u32 gen]).more (.cells #[.int .i64 k, .int .u32 g, .int .u32 l, .int .u32 id, .int .u32 a, .int .i64 len, .bool on, .int .u32 s, .int .u16 m] 117)
  have hB := Blk.new (w.alloc (.cells #[.pointer (some ⟨d, 0, none⟩), .int .i64 first, .int .i64 size, .int .u32 gen] 78)) 117 #[.int .i64 k, .int .u32 g, .int .u32 l, .int .u32 id, .int .u32 a, .int .i64 len, .bool on, .int .u32 s, .int .u16 m]
  have hb := next (below_new w (.cells #[.pointer (some ⟨d, 0, none⟩), .int .i64 first, .int .i64 size, .int .u32 gen] 78)) (below_new _ (.cells #[.int .i64 k, .int .u32 g, .int .u32 l, .int .u32 id, .int .u32 a, .int .i64 len, .bool on, .int .u32 s, .int .u16 m] 117))
  rw [size_new] at hB
  have hlt := h.head.lt
  have hltM := h.map.lt
  have c0 := hP.at_ 0
  have c1 := hP.at_ 1
  have c2 := hP.at_ 2
  have c3 := hP.at_ 3
  have r0 := hB.at_ 0
  have r1 := hB.at_ 1
  have r2 := hB.at_ 2
  have r3 := hB.at_ 3
  have r4 := hB.at_ 4
  have r5 := hB.at_ 5
  have r6 := hB.at_ 6
  have r7 := hB.at_ 7
  have r8 := hB.at_ 8
  have HH := Lib.hid (And.intro h (And.intro hf (And.intro hr (And.intro hP hb))))
  clear h hf hr hP hB hb
  go_enter Tryz.func80, Tryz.ntmps80
  go_wp2_with fail
  generalize (w.alloc (.cells #[.pointer (some ⟨d, 0, none⟩), .int .i64 first, .int .i64 size, .int .u32 gen] 78)).alloc (.cells #[.int .i64 k, .int .u32 g, .int .u32 l, .int .u32 id, .int .u32 a, .int .i64 len, .bool on, .int .u32 s, .int .u16 m] 117) = W at *
  refine (write_well (HH.out.1.held HH.out.2.2.2.2) hw hi HH.out.2.1 HH.out.2.2.1).mono ?_
  clear c0 c1 c2 c3 r0 r1 r2 r3 r4 r5 r6 r7 r8
  rintro e w3 ⟨rfl, hD3, hT3⟩
  have hP3 := HH.out.2.2.2.1.turn hT3 (by simp; omega)
  have c0 := hP3.at_ 0
  have hTT := (Turn.of_below [d, S, M] HH.out.2.2.2.2).trans (hT3.mono (by simp))
  have HT := Lib.hid hTT
  have HD := Lib.hid hD3
  clear hP3 hT3 hTT hD3
  go_wp2_with fail
  refine (sync_ok HD.out hw2).mono ?_
  rintro e w4 ⟨rfl, hD4, hT4⟩
  have hTT := HT.out.trans hT4
  go_wp2_with fail
  go_ret
  exact ⟨rfl, hD4, hTT⟩

set_option maxRecDepth 20000 in
set_option maxHeartbeats 2000000 in
theorem put_fail2 (h : Dk w d S M n safe wn 1) {first size gen place : Nat} (hi : first + place < n) {k : Int} {g l id a : Nat} {len : Int} {on : Bool} {s m : Nat} (hf : (⟨k, gen, place, id, a, len, on, s, m⟩ : Rc).Fits) (hr : right ⟨k, gen, place, id, a, len, on, s, m⟩ = true) :
    Calls Tryz.prog 80 #[.agg #[.pointer (some ⟨d, 0, none⟩), .int .i64 first, .int .i64 size, .int .u32 gen], .int .i64 place, .agg #[.int .i64 k, .int .u32 g, .int .u32 l, .int .u32 id, .int .u32 a, .int .i64 len, .bool on, .int .u32 s, .int .u16 m]] w fun e w' => e = .returned (.int .i64 4) ∧
      Dk w' d S M n safe (updD wn ((first : Int) + place) (u8s (Rm.bytes ⟨k, gen, place, id, a, len, on, s, m⟩))) (-1) ∧ Turn [d, S, M] w w' := by
  have hP := (Blk.new w 78 #[.pointer (some ⟨d, 0, none⟩), .int .i64 first, .int .i64 size, .int .u32 gen]).more (.cells #[.int .i64 k, .int .u32 g, .int .u32 l, .int .u32 id, .int .u32 a, .int .i64 len, .bool on, .int .u32 s, .int .u16 m] 117)
  have hB := Blk.new (w.alloc (.cells #[.pointer (some ⟨d, 0, none⟩), .int .i64 first, .int .i64 size, .int .u32 gen] 78)) 117 #[.int .i64 k, .int .u32 g, .int .u32 l, .int .u32 id, .int .u32 a, .int .i64 len, .bool on, .int .u32 s, .int .u16 m]
  have hb := next (below_new w (.cells #[.pointer (some ⟨d, 0, none⟩), .int .i64 first, .int .i64 size, .int .u32 gen] 78)) (below_new _ (.cells #[.int .i64 k, .int .u32 g, .int .u32 l, .int .u32 id, .int .u32 a, .int .i64 len, .bool on, .int .u32 s, .int .u16 m] 117))
  rw [size_new] at hB
  have hlt := h.head.lt
  have hltM := h.map.lt
  have c0 := hP.at_ 0
  have c1 := hP.at_ 1
  have c2 := hP.at_ 2
  have c3 := hP.at_ 3
  have r0 := hB.at_ 0
  have r1 := hB.at_ 1
  have r2 := hB.at_ 2
  have r3 := hB.at_ 3
  have r4 := hB.at_ 4
  have r5 := hB.at_ 5
  have r6 := hB.at_ 6
  have r7 := hB.at_ 7
  have r8 := hB.at_ 8
  have HH := Lib.hid (And.intro h (And.intro hf (And.intro hr (And.intro hP hb))))
  clear h hf hr hP hB hb
  go_enter Tryz.func80, Tryz.ntmps80
  go_wp2_with fail
  generalize (w.alloc (.cells #[.pointer (some ⟨d, 0, none⟩), .int .i64 first, .int .i64 size, .int .u32 gen] 78)).alloc (.cells #[.int .i64 k, .int .u32 g, .int .u32 l, .int .u32 id, .int .u32 a, .int .i64 len, .bool on, .int .u32 s, .int .u16 m] 117) = W at *
  refine (write_well (HH.out.1.held HH.out.2.2.2.2) (by decide) hi HH.out.2.1 HH.out.2.2.1).mono ?_
  clear c0 c1 c2 c3 r0 r1 r2 r3 r4 r5 r6 r7 r8
  rintro e w3 ⟨rfl, hD3, hT3⟩
  have hP3 := HH.out.2.2.2.1.turn hT3 (by simp; omega)
  have c0 := hP3.at_ 0
  have hTT := (Turn.of_below [d, S, M] HH.out.2.2.2.2).trans (hT3.mono (by simp))
  have HT := Lib.hid hTT
  have HD := Lib.hid hD3
  clear hP3 hT3 hTT hD3
  go_wp2_with fail
  refine (sync_fails HD.out).mono ?_
  rintro e w4 ⟨rfl, hD4, hT4⟩
  have hTT := HT.out.trans hT4
  go_wp2_with fail
  go_ret
  exact ⟨rfl, hD4, hTT⟩

set_option maxRecDepth 20000 in
set_option maxHeartbeats 2000000 in
theorem put_fail1 (h : Dk w d S M n safe wn 0) {first size gen place : Nat} (hi : first + place < n) {k : Int} {g l id a : Nat} {len : Int} {on : Bool} {s m : Nat} (hf : (⟨k, gen, place, id, a, len, on, s, m⟩ : Rc).Fits) (hr : right ⟨k, gen, place, id, a, len, on, s, m⟩ = true) :
    Calls Tryz.prog 80 #[.agg #[.pointer (some ⟨d, 0, none⟩), .int .i64 first, .int .i64 size, .int .u32 gen], .int .i64 place, .agg #[.int .i64 k, .int .u32 g, .int .u32 l, .int .u32 id, .int .u32 a, .int .i64 len, .bool on, .int .u32 s, .int .u16 m]] w fun e w' => e = .returned (.int .i64 4) ∧
      Dk w' d S M n safe wn (-1) ∧ Turn [d, S, M] w w' := by
  have hP := (Blk.new w 78 #[.pointer (some ⟨d, 0, none⟩), .int .i64 first, .int .i64 size, .int .u32 gen]).more (.cells #[.int .i64 k, .int .u32 g, .int .u32 l, .int .u32 id, .int .u32 a, .int .i64 len, .bool on, .int .u32 s, .int .u16 m] 117)
  have hB := Blk.new (w.alloc (.cells #[.pointer (some ⟨d, 0, none⟩), .int .i64 first, .int .i64 size, .int .u32 gen] 78)) 117 #[.int .i64 k, .int .u32 g, .int .u32 l, .int .u32 id, .int .u32 a, .int .i64 len, .bool on, .int .u32 s, .int .u16 m]
  have hb := next (below_new w (.cells #[.pointer (some ⟨d, 0, none⟩), .int .i64 first, .int .i64 size, .int .u32 gen] 78)) (below_new _ (.cells #[.int .i64 k, .int .u32 g, .int .u32 l, .int .u32 id, .int .u32 a, .int .i64 len, .bool on, .int .u32 s, .int .u16 m] 117))
  rw [size_new] at hB
  have hlt := h.head.lt
  have hltM := h.map.lt
  have c0 := hP.at_ 0
  have c1 := hP.at_ 1
  have c2 := hP.at_ 2
  have c3 := hP.at_ 3
  have r0 := hB.at_ 0
  have r1 := hB.at_ 1
  have r2 := hB.at_ 2
  have r3 := hB.at_ 3
  have r4 := hB.at_ 4
  have r5 := hB.at_ 5
  have r6 := hB.at_ 6
  have r7 := hB.at_ 7
  have r8 := hB.at_ 8
  have HH := Lib.hid (And.intro h (And.intro hf (And.intro hr (And.intro hP hb))))
  clear h hf hr hP hB hb
  go_enter Tryz.func80, Tryz.ntmps80
  go_wp2_with fail
  generalize (w.alloc (.cells #[.pointer (some ⟨d, 0, none⟩), .int .i64 first, .int .i64 size, .int .u32 gen] 78)).alloc (.cells #[.int .i64 k, .int .u32 g, .int .u32 l, .int .u32 id, .int .u32 a, .int .i64 len, .bool on, .int .u32 s, .int .u16 m] 117) = W at *
  refine (write_fail (HH.out.1.held HH.out.2.2.2.2) hi HH.out.2.1 HH.out.2.2.1).mono ?_
  clear c0 c1 c2 c3 r0 r1 r2 r3 r4 r5 r6 r7 r8
  rintro e w3 ⟨rfl, hD3, hT3⟩
  have hTT := (Turn.of_below [d, S, M] HH.out.2.2.2.2).trans (hT3.mono (by simp))
  go_wp2_with fail
  go_ret
  exact ⟨rfl, hD3, hTT⟩

end
end Go.Proofs.YtmhcjhbmeohjdaaGreat

namespace Go.Proofs.YtmhcjhbmeohjdaaGreat
open Go.RowKit Rm
variable {tS : TypeId} {XS : List Value}

theorem id_any {w : World} {d : Nat} {o fl : Option Nat} {id lease n m : Nat} {own : Pk → Option Bool} {floor : Ky → Option (Nat × Nat)} (h : St tS XS w d o fl id lease n m own floor) : Calls Tryz.prog 57 #[.pointer (some ⟨d, 0, none⟩)] w fun e w' => e = .returned (.int .u32 id) ∧ w = w' := by
  have c0 : w.cell? ⟨d, 0, none⟩ = some (.int .u32 id) := h.head.at_ 0
  clear h
  go_enter Tryz.func57, Tryz.ntmps57
  go_wp2
  go_ret
  exact ⟨rfl, rfl⟩

set_option maxHeartbeats 1000000 in
theorem own_any {w : World} {d : Nat} {o fl : Option Nat} {id lease n m : Nat} {own : Pk → Option Bool} {floor : Ky → Option (Nat × Nat)} (h : St tS XS w d o fl id lease n m own floor) {ka : Nat} {kn : Int} (hk : Pk.ok ⟨ka, kn⟩) {v ok : Bool}
    (hv : ((own ⟨ka, kn⟩).map ownV).getD (.agg #[.bool false]) = .agg #[.bool v]) (ho : (own ⟨ka, kn⟩).isSome = ok) :
    Calls Tryz.prog 41 #[.pointer (some ⟨d, 0, none⟩), .agg #[.int .u32 ka, .int .i64 kn]] w fun e w' => e = .returned (.tuple #[.bool v, .bool ok]) ∧ Below w.heap.size w w' := by
  have hlook : ∀ w', Below w.heap.size w w' → (Instr.lookup 73 (.map o) (.agg #[.int .u32 ka, .int .i64 kn]) true).run Tryz.prog w' = .ok (.tuple #[.agg #[.bool v], .bool ok]) w' := fun w' hb => by
    have h2 := (h.held hb).owns.look_ok (t := 73) (e := 161) (by kernel_rfl) zero_own (i := ⟨ka, kn⟩) hk
    rw [show ((own ⟨ka, kn⟩).map ownV).isSome = (own ⟨ka, kn⟩).isSome by cases own ⟨ka, kn⟩ <;> rfl, hv, ho] at h2
    exact h2
  have c2 : w.cell? ⟨d, 2, none⟩ = some (.map o) := h.head.at_ 2
  have dl : d < w.heap.size := h.head.lt
  clear h hv ho
  go_enter Tryz.func41, Tryz.ntmps41
  go_wp2_with fail
  have KB := Blk.new w 36 #[.int .u32 ka, .int .i64 kn]
  have hb2 := below_new w (.cells #[.int .u32 ka, .int .i64 kn] 36)
  have hz := size_new w (.cells #[.int .u32 ka, .int .i64 kn] 36)
  generalize w.alloc (.cells #[.int .u32 ka, .int .i64 kn] 36) = W at *
  have fc := held hb2 c2
  have k0 := KB.at_ 0
  have k1 := KB.at_ 1
  have dW : d < W.heap.size := by omega
  have kW : w.heap.size < W.heap.size := by omega
  have fc3 := held (below_new W (.cells #[.bool false] 161)) fc
  have k03 := held (below_new W (.cells #[.bool false] 161)) k0
  have k13 := held (below_new W (.cells #[.bool false] 161)) k1
  have q1 := hlook _ hb2.drew
  have q2 := hlook _ (next hb2 (below_new W (.cells #[.bool false] 161))).drew
  clear hlook c2
  go_region
  all_goals
    have hb4 := next hb2 (below_new W (.cells #[.bool v] 161)).drew
    clear q1 q2 fc3 k03 k13 fc k0 k1 KB hb2
    go_wp2_with fail
    refine bodyPost_ret (v := .tuple #[.bool v, .bool ok]) ?_ rfl ⟨rfl, hb4⟩
    simp [results, Tryz.results41, go_sem]
end Go.Proofs.YtmhcjhbmeohjdaaGreat

namespace Go.Proofs.YtmhcjhbmeohjdaaGreat
open Go.RowKit Rm

theorem begin_right {gen id : Nat} (h : 0 < id) : right ⟨1, gen, 0, id, 0, 0, false, 0, 0⟩ = true := by
  rw [← right_two]
  unfold right2
  simp [show Am.right 0 0 = true by decide, h]
theorem begin_fits {gen id : Nat} (hg : gen < 4294967296) (h : id < 4294967296) : (⟨1, gen, 0, id, 0, 0, false, 0, 0⟩ : Rc).Fits := by constructor <;> (dsimp only; omega)

section
variable {w w' : World} {d S M n : Nat} {safe : Nat → List UInt8} {wn : Int → Option (List UInt8)} {well : Int} {tS : TypeId} {XS : List Value} {lb : Nat} {o fl : Option Nat} {id lease cn cm : Nat} {own : Pk → Option Bool} {floor : Ky → Option (Nat × Nat)}
theorem putb_well (h : Dk w d S M n safe wn well) (hw : well ≠ 0) (hw2 : dec well ≠ 0) {first size gen id : Nat} (hi : first < n) (hg : gen < 4294967296) (h0 : 0 < id) (h1 : id < 4294967296) :
    Calls Tryz.prog 80 #[.agg #[.pointer (some ⟨d, 0, none⟩), .int .i64 first, .int .i64 size, .int .u32 gen], .int .i64 0, .agg #[.int .i64 1, .int .u32 0, .int .u32 0, .int .u32 id, .int .u32 0, .int .i64 0, .bool false, .int .u32 0, .int .u16 0]] w fun e w' => e = .returned (.int .i64 0) ∧ Dk w' d S M n (synced safe (updD wn ((first : Int) + (0 : Nat)) (u8s (Rm.bytes (⟨1, gen, 0, id, 0, 0, false, 0, 0⟩ : Rc))))) (fun _ => none) (dec (dec well)) ∧ Turn [d, S, M] w w' :=
  put_well h hw hw2 (place := 0) (size := size) (k := 1) (g := 0) (l := 0) (a := 0) (len := 0) (on := false) (s := 0) (m := 0) hi (begin_fits hg h1) (begin_right h0)
set_option maxRecDepth 20000 in
set_option maxHeartbeats 2000000 in
theorem begin_well (hS : St tS XS w lb o fl id lease cn cm own floor) (h : Dk w d S M n safe wn well) (hw : well ≠ 0) (hw2 : dec well ≠ 0) {first size gen : Nat} (hi : first < n) (hg : gen < 4294967296) (h0 : 0 < id) (h1 : id < 4294967296) :
    Calls Tryz.prog 54 #[.pointer (some ⟨lb, 0, none⟩), .agg #[.pointer (some ⟨d, 0, none⟩), .int .i64 first, .int .i64 size, .int .u32 gen]] w fun e w' => e = .returned (.int .i64 0) ∧ Dk w' d S M n (synced safe (updD wn ((first : Int) + (0 : Nat)) (u8s (Rm.bytes (⟨1, gen, 0, id, 0, 0, false, 0, 0⟩ : Rc))))) (fun _ => none) (dec (dec well)) ∧ Turn [d, S, M] w w' := by
  have hP := Blk.new w 78 #[.pointer (some ⟨d, 0, none⟩), .int .i64 first, .int .i64 size, .int .u32 gen]
  have hb := below_new w (.cells #[.pointer (some ⟨d, 0, none⟩), .int .i64 first, .int .i64 size, .int .u32 gen] 78)
  have hlt := h.head.lt
  have hltM := h.map.lt
  have hltS := h.ltS
  have hll := hS.head.lt
  go_enter Tryz.func54, Tryz.ntmps54
  go_wp2_with fail
  generalize w.alloc (.cells #[.pointer (some ⟨d, 0, none⟩), .int .i64 first, .int .i64 size, .int .u32 gen] 78) = W at *
  have c0 : W.drew.cell? ⟨w.heap.size, 0, none⟩ = some (.pointer (some ⟨d, 0, none⟩)) := hP.at_ 0
  have c1 : W.drew.cell? ⟨w.heap.size, 1, none⟩ = some (.int .i64 first) := hP.at_ 1
  have c2 : W.drew.cell? ⟨w.heap.size, 2, none⟩ = some (.int .i64 size) := hP.at_ 2
  have c3 : W.drew.cell? ⟨w.heap.size, 3, none⟩ = some (.int .u32 gen) := hP.at_ 3
  have hSW := Lib.hid ((hS.held hb).drew)
  have hPUT := Lib.hid (putb_well ((h.held hb).drew) hw hw2 (size := size) hi hg h0 h1)
  have HB := Lib.hid hb
  clear hP hb hS h
  go_region_held3 (fun w' => w'.cell? ⟨w.heap.size, 0, none⟩ = some (.pointer (some ⟨d, 0, none⟩)) ∧ w'.cell? ⟨w.heap.size, 1, none⟩ = some (.int .i64 first) ∧ w'.cell? ⟨w.heap.size, 2, none⟩ = some (.int .i64 size) ∧ w'.cell? ⟨w.heap.size, 3, none⟩ = some (.int .u32 gen))
    (first | exact ⟨c0, c1, c2, c3⟩ | exact ⟨hT3.cell c0 (by simp; omega), hT3.cell c1 (by simp; omega), hT3.cell c2 (by simp; omega), hT3.cell c3 (by simp; omega)⟩ | go_keep)
    (first | (go_at_call 57; refine (id_any hSW.out).mono ?_; rintro e w' ⟨rfl, rfl⟩)
           | (go_at_call 80; refine hPUT.out.mono ?_; rintro e w3 ⟨rfl, hD3, hT3⟩))
  have hTT := (Turn.of_below [d, S, M] HB.out.drew).trans hT3
  clear c0 c1 c2 c3 hSW hPUT
  go_wp2_with fail
  go_ret
  exact ⟨rfl, hD3, hTT⟩
theorem putb_fail2 (h : Dk w d S M n safe wn 1) {first size gen id : Nat} (hi : first < n) (hg : gen < 4294967296) (h0 : 0 < id) (h1 : id < 4294967296) :
    Calls Tryz.prog 80 #[.agg #[.pointer (some ⟨d, 0, none⟩), .int .i64 first, .int .i64 size, .int .u32 gen], .int .i64 0, .agg #[.int .i64 1, .int .u32 0, .int .u32 0, .int .u32 id, .int .u32 0, .int .i64 0, .bool false, .int .u32 0, .int .u16 0]] w fun e w' => e = .returned (.int .i64 4) ∧ Dk w' d S M n safe (updD wn ((first : Int) + (0 : Nat)) (u8s (Rm.bytes (⟨1, gen, 0, id, 0, 0, false, 0, 0⟩ : Rc)))) (-1) ∧ Turn [d, S, M] w w' :=
  put_fail2 h (place := 0) (size := size) (k := 1) (g := 0) (l := 0) (a := 0) (len := 0) (on := false) (s := 0) (m := 0) hi (begin_fits hg h1) (begin_right h0)
set_option maxRecDepth 20000 in
set_option maxHeartbeats 2000000 in
theorem begin_fail2 (hS : St tS XS w lb o fl id lease cn cm own floor) (h : Dk w d S M n safe wn 1) {first size gen : Nat} (hi : first < n) (hg : gen < 4294967296) (h0 : 0 < id) (h1 : id < 4294967296) :
    Calls Tryz.prog 54 #[.pointer (some ⟨lb, 0, none⟩), .agg #[.pointer (some ⟨d, 0, none⟩), .int .i64 first, .int .i64 size, .int .u32 gen]] w fun e w' => e = .returned (.int .i64 4) ∧ Dk w' d S M n safe (updD wn ((first : Int) + (0 : Nat)) (u8s (Rm.bytes (⟨1, gen, 0, id, 0, 0, false, 0, 0⟩ : Rc)))) (-1) ∧ Turn [d, S, M] w w' := by
  have hP := Blk.new w 78 #[.pointer (some ⟨d, 0, none⟩), .int .i64 first, .int .i64 size, .int .u32 gen]
  have hb := below_new w (.cells #[.pointer (some ⟨d, 0, none⟩), .int .i64 first, .int .i64 size, .int .u32 gen] 78)
  have hlt := h.head.lt
  have hltM := h.map.lt
  have hltS := h.ltS
  have hll := hS.head.lt
  go_enter Tryz.func54, Tryz.ntmps54
  go_wp2_with fail
  generalize w.alloc (.cells #[.pointer (some ⟨d, 0, none⟩), .int .i64 first, .int .i64 size, .int .u32 gen] 78) = W at *
  have c0 : W.drew.cell? ⟨w.heap.size, 0, none⟩ = some (.pointer (some ⟨d, 0, none⟩)) := hP.at_ 0
  have c1 : W.drew.cell? ⟨w.heap.size, 1, none⟩ = some (.int .i64 first) := hP.at_ 1
  have c2 : W.drew.cell? ⟨w.heap.size, 2, none⟩ = some (.int .i64 size) := hP.at_ 2
  have c3 : W.drew.cell? ⟨w.heap.size, 3, none⟩ = some (.int .u32 gen) := hP.at_ 3
  have hSW := Lib.hid ((hS.held hb).drew)
  have hPUT := Lib.hid (putb_fail2 ((h.held hb).drew)  (size := size) hi hg h0 h1)
  have HB := Lib.hid hb
  clear hP hb hS h
  go_region_held3 (fun w' => w'.cell? ⟨w.heap.size, 0, none⟩ = some (.pointer (some ⟨d, 0, none⟩)) ∧ w'.cell? ⟨w.heap.size, 1, none⟩ = some (.int .i64 first) ∧ w'.cell? ⟨w.heap.size, 2, none⟩ = some (.int .i64 size) ∧ w'.cell? ⟨w.heap.size, 3, none⟩ = some (.int .u32 gen))
    (first | exact ⟨c0, c1, c2, c3⟩ | exact ⟨hT3.cell c0 (by simp; omega), hT3.cell c1 (by simp; omega), hT3.cell c2 (by simp; omega), hT3.cell c3 (by simp; omega)⟩ | go_keep)
    (first | (go_at_call 57; refine (id_any hSW.out).mono ?_; rintro e w' ⟨rfl, rfl⟩)
           | (go_at_call 80; refine hPUT.out.mono ?_; rintro e w3 ⟨rfl, hD3, hT3⟩))
  have hTT := (Turn.of_below [d, S, M] HB.out.drew).trans hT3
  clear c0 c1 c2 c3 hSW hPUT
  go_wp2_with fail
  go_ret
  exact ⟨rfl, hD3, hTT⟩
theorem putb_fail1 (h : Dk w d S M n safe wn 0) {first size gen id : Nat} (hi : first < n) (hg : gen < 4294967296) (h0 : 0 < id) (h1 : id < 4294967296) :
    Calls Tryz.prog 80 #[.agg #[.pointer (some ⟨d, 0, none⟩), .int .i64 first, .int .i64 size, .int .u32 gen], .int .i64 0, .agg #[.int .i64 1, .int .u32 0, .int .u32 0, .int .u32 id, .int .u32 0, .int .i64 0, .bool false, .int .u32 0, .int .u16 0]] w fun e w' => e = .returned (.int .i64 4) ∧ Dk w' d S M n safe wn (-1) ∧ Turn [d, S, M] w w' :=
  put_fail1 h (place := 0) (size := size) (k := 1) (g := 0) (l := 0) (a := 0) (len := 0) (on := false) (s := 0) (m := 0) hi (begin_fits hg h1) (begin_right h0)
set_option maxRecDepth 20000 in
set_option maxHeartbeats 2000000 in
theorem begin_fail1 (hS : St tS XS w lb o fl id lease cn cm own floor) (h : Dk w d S M n safe wn 0) {first size gen : Nat} (hi : first < n) (hg : gen < 4294967296) (h0 : 0 < id) (h1 : id < 4294967296) :
    Calls Tryz.prog 54 #[.pointer (some ⟨lb, 0, none⟩), .agg #[.pointer (some ⟨d, 0, none⟩), .int .i64 first, .int .i64 size, .int .u32 gen]] w fun e w' => e = .returned (.int .i64 4) ∧ Dk w' d S M n safe wn (-1) ∧ Turn [d, S, M] w w' := by
  have hP := Blk.new w 78 #[.pointer (some ⟨d, 0, none⟩), .int .i64 first, .int .i64 size, .int .u32 gen]
  have hb := below_new w (.cells #[.pointer (some ⟨d, 0, none⟩), .int .i64 first, .int .i64 size, .int .u32 gen] 78)
  have hlt := h.head.lt
  have hltM := h.map.lt
  have hltS := h.ltS
  have hll := hS.head.lt
  go_enter Tryz.func54, Tryz.ntmps54
  go_wp2_with fail
  generalize w.alloc (.cells #[.pointer (some ⟨d, 0, none⟩), .int .i64 first, .int .i64 size, .int .u32 gen] 78) = W at *
  have c0 : W.drew.cell? ⟨w.heap.size, 0, none⟩ = some (.pointer (some ⟨d, 0, none⟩)) := hP.at_ 0
  have c1 : W.drew.cell? ⟨w.heap.size, 1, none⟩ = some (.int .i64 first) := hP.at_ 1
  have c2 : W.drew.cell? ⟨w.heap.size, 2, none⟩ = some (.int .i64 size) := hP.at_ 2
  have c3 : W.drew.cell? ⟨w.heap.size, 3, none⟩ = some (.int .u32 gen) := hP.at_ 3
  have hSW := Lib.hid ((hS.held hb).drew)
  have hPUT := Lib.hid (putb_fail1 ((h.held hb).drew)  (size := size) hi hg h0 h1)
  have HB := Lib.hid hb
  clear hP hb hS h
  go_region_held3 (fun w' => w'.cell? ⟨w.heap.size, 0, none⟩ = some (.pointer (some ⟨d, 0, none⟩)) ∧ w'.cell? ⟨w.heap.size, 1, none⟩ = some (.int .i64 first) ∧ w'.cell? ⟨w.heap.size, 2, none⟩ = some (.int .i64 size) ∧ w'.cell? ⟨w.heap.size, 3, none⟩ = some (.int .u32 gen))
    (first | exact ⟨c0, c1, c2, c3⟩ | exact ⟨hT3.cell c0 (by simp; omega), hT3.cell c1 (by simp; omega), hT3.cell c2 (by simp; omega), hT3.cell c3 (by simp; omega)⟩ | go_keep)
    (first | (go_at_call 57; refine (id_any hSW.out).mono ?_; rintro e w' ⟨rfl, rfl⟩)
           | (go_at_call 80; refine hPUT.out.mono ?_; rintro e w3 ⟨rfl, hD3, hT3⟩))
  have hTT := (Turn.of_below [d, S, M] HB.out.drew).trans hT3
  clear c0 c1 c2 c3 hSW hPUT
  go_wp2_with fail
  go_ret
  exact ⟨rfl, hD3, hTT⟩
end
end Go.Proofs.YtmhcjhbmeohjdaaGreat

namespace Go.Proofs.YtmhcjhbmeohjdaaGreat
open Go.RowKit Rm

/-- what lies in a Log behind its state -/
def lgX (d first size gen len : Nat) (laid : Bool) : List Value := [.pointer (some ⟨d, 0, none⟩), .int .i64 first, .int .i64 size, .int .u32 gen, .int .i64 len, .bool laid]

section
variable {w w' : World} {d S M n : Nat} {safe : Nat → List UInt8} {wn : Int → Option (List UInt8)} {well : Int}
set_option maxRecDepth 20000 in
set_option maxHeartbeats 2000000 in
theorem open_small (h : Dk w d S M n safe wn well) {id : Nat} (hn : n < 4) :
    Calls Tryz.prog 23 #[.pointer (some ⟨d, 0, none⟩), .int .u32 id] w fun e w' => e = .returned (.tuple #[.pointer none, .int .i64 1]) ∧ Below w.heap.size w w' := by
  have HR := regions_any h (half := n / 2) rfl
  obtain ⟨half, hh⟩ : ∃ half, half = n / 2 := ⟨_, rfl⟩
  rw [← hh] at HR
  have hlt : decide ((half : Int) < 2) = true := decide_eq_true (by omega)
  clear hh h
  go_enter Tryz.func23, Tryz.ntmps23
  go_wp2_with fail
  refine HR.mono ?_
  rintro e w1 ⟨rfl, hb1⟩
  have hb2 := next hb1 (below_new w1 (.cells #[.pointer (some ⟨d, 0, none⟩), .int .i64 0, .int .i64 half, .int .u32 0, .pointer (some ⟨d, 0, none⟩), .int .i64 half, .int .i64 half, .int .u32 0] 123))
  clear HR hb1
  go_wp2_with fail
  go_ret2
  exact ⟨rfl, hb2⟩

set_option maxRecDepth 20000 in
set_option maxHeartbeats 4000000 in
theorem open_well (h : Dk w d S M n safe wn well) (hN : ∀ i, i < n → recAt (synced safe wn i) = none) (hw : well ≠ 0) (hw2 : dec well ≠ 0) {id : Nat} (h0 : 0 < id) (h1 : id < 4294967296) (hn : 4 ≤ n) :
    Calls Tryz.prog 23 #[.pointer (some ⟨d, 0, none⟩), .int .u32 id] w fun e w' => ∃ lb, e = .returned (.tuple #[.pointer (some ⟨lb, 0, none⟩), .int .i64 0]) ∧ w.heap.size ≤ lb ∧
      Notes 80 (lgX d 0 (n / 2) 1 0 false) w' lb none none id 0 sm0 ∧ Dk w' d S M n (synced safe (updD wn (((0 : Nat) : Int) + (0 : Nat)) (u8s (Rm.bytes ⟨1, 1, 0, id, 0, 0, false, 0, 0⟩)))) (fun _ => none) (dec (dec well)) ∧ Turn [d, S, M] w w' := by
  have n1 := h.n1
  have HR := regions_any h (half := n / 2) rfl
  obtain ⟨half, hh⟩ : ∃ half, half = n / 2 := ⟨_, rfl⟩
  rw [← hh] at HR ⊢
  have hlt : decide ((half : Int) < 2) = false := decide_eq_false (by omega)
  have hi0 : ((id : Int) == 0) = false := by rw [beq_eq_false_iff_ne]; omega
  have hhn : half < n := by omega
  have HH := Lib.hid (And.intro h hN)
  clear hh h hN
  go_enter Tryz.func23, Tryz.ntmps23
  go_wp2_with fail
  refine HR.mono ?_
  rintro e w1 ⟨rfl, hb1⟩
  have hb2 := next hb1 (below_new w1 (.cells #[.pointer (some ⟨d, 0, none⟩), .int .i64 0, .int .i64 half, .int .u32 0, .pointer (some ⟨d, 0, none⟩), .int .i64 half, .int .i64 half, .int .u32 0] 123))
  have hH := Blk.new w1 123 #[.pointer (some ⟨d, 0, none⟩), .int .i64 0, .int .i64 half, .int .u32 0, .pointer (some ⟨d, 0, none⟩), .int .i64 half, .int .i64 half, .int .u32 0]
  have hz := size_new w1 (.cells #[.pointer (some ⟨d, 0, none⟩), .int .i64 0, .int .i64 half, .int .u32 0, .pointer (some ⟨d, 0, none⟩), .int .i64 half, .int .i64 half, .int .u32 0] 123)
  have hz1 := hb1.size
  clear HR hb1
  go_wp2_with fail
  generalize w1.alloc (.cells #[.pointer (some ⟨d, 0, none⟩), .int .i64 0, .int .i64 half, .int .u32 0, .pointer (some ⟨d, 0, none⟩), .int .i64 half, .int .i64 half, .int .u32 0] 123) = V at *
  refine (new_any id V).mono ?_
  rintro e w2 ⟨rfl, hS, hb3⟩
  have hz3 := hb3.size
  rw [hz] at hS
  have HS := Lib.hid hS
  have s0 : w2.cell? ⟨w1.heap.size + 1, 0, none⟩ = some (.int .u32 id) := hS.head.at_ 0
  have s1 : w2.cell? ⟨w1.heap.size + 1, 1, none⟩ = some (.int .u32 0) := hS.head.at_ 1
  have s2 : w2.cell? ⟨w1.heap.size + 1, 2, none⟩ = some (.map none) := hS.head.at_ 2
  have s3 : w2.cell? ⟨w1.heap.size + 1, 3, none⟩ = some (.map none) := hS.head.at_ 3
  have hs := hS.head.lt
  have L0 := Blk.new w2 80 #[.int .u32 id, .int .u32 0, .map none, .map none, .pointer none, .int .i64 0, .int .i64 0, .int .u32 0, .int .i64 0, .bool false]
  have hb4 := below_new w2 (.cells #[.int .u32 id, .int .u32 0, .map none, .map none, .pointer none, .int .i64 0, .int .i64 0, .int .u32 0, .int .i64 0, .bool false] 80)
  have hH4 := (hH.held hb3).held hb4
  have a0 := hH4.at_ 0
  have a1 := hH4.at_ 1
  have a2 := hH4.at_ 2
  have a3 := hH4.at_ 3
  have a4 := hH4.at_ 4
  have a5 := hH4.at_ 5
  have a6 := hH4.at_ 6
  have a7 := hH4.at_ 7
  have hbb := next (next hb2 hb3) hb4
  have HJ := journal_none (HH.out.1.held hbb) HH.out.2 (rid := id) hhn
  have HX := Lib.hid (And.intro hbb (And.intro hH4 L0))
  clear hS hb3 hb4 hH hH4 hb2 L0 hbb
  go_wp2_with fail
  refine HJ.mono ?_
  rintro e w5 ⟨rfl, hb5⟩
  have hb6 := next hb5 (below_new w5 (.cells #[.pointer none, .int .i64 0, .int .i64 0, .int .u32 0] 78))
  obtain ⟨hbb, hH4, L0⟩ := HX.out
  have hH6 := hH4.held hb6
  have L6 := L0.held hb6
  have hb7 := next hbb hb6
  clear a0 a1 a2 a3 a4 a5 a6 a7 HJ hb5 hb6 hbb hH4 L0 HX s0 s1 s2 s3
  have a0 := hH6.at_ 0
  have a1 := hH6.at_ 1
  have a2 := hH6.at_ 2
  have a3 := hH6.at_ 3
  have l4 := L6.at_ 4
  have l5 := L6.at_ 5
  have l6 := L6.at_ 6
  have l7 := L6.at_ 7
  have f4 := L6.free 4
  have f5 := L6.free 5
  have f6 := L6.free 6
  have f7 := L6.free 7
  have hle : w.heap.size ≤ w2.heap.size := by omega
  have L7 := (((L6.store 4 (.pointer (some ⟨d, 0, none⟩))).store 5 (.int .i64 0)).store 6 (.int .i64 half)).store 7 (.int .u32 0)
  have hb8 := (((hb7.setCell (p := ⟨w2.heap.size, 4, none⟩) hle (.pointer (some ⟨d, 0, none⟩))).setCell (p := ⟨w2.heap.size, 5, none⟩) hle (.int .i64 0)).setCell (p := ⟨w2.heap.size, 6, none⟩) hle (.int .i64 half)).setCell (p := ⟨w2.heap.size, 7, none⟩) hle (.int .u32 0)
  have HG := greatest_none (HH.out.1.held hb8) HH.out.2
  have HX := Lib.hid (And.intro L7 hb8)
  clear L6 L7 hb7 hb8 hH6
  go_wp2_with fail
  generalize ((((w5.alloc (.cells #[.pointer none, .int .i64 0, .int .i64 0, .int .u32 0] 78)).setCell ⟨w2.heap.size, 4, none⟩ (.pointer (some ⟨d, 0, none⟩))).setCell ⟨w2.heap.size, 5, none⟩ (.int .i64 0)).setCell ⟨w2.heap.size, 6, none⟩ (.int .i64 half)).setCell ⟨w2.heap.size, 7, none⟩ (.int .u32 0) = w7 at *
  refine HG.mono ?_
  rintro e w8 ⟨rfl, hb9⟩
  have L7 : Blk 80 w7 w2.heap.size #[.int .u32 id, .int .u32 0, .map none, .map none, .pointer (some ⟨d, 0, none⟩), .int .i64 0, .int .i64 half, .int .u32 0, .int .i64 0, .bool false] := HX.out.1
  have L8 := L7.held hb9
  have hb10 := next HX.out.2 hb9
  have L9 : Blk 80 (w8.setCell ⟨w2.heap.size, 7, none⟩ (.int .u32 1)) w2.heap.size #[.int .u32 id, .int .u32 0, .map none, .map none, .pointer (some ⟨d, 0, none⟩), .int .i64 0, .int .i64 half, .int .u32 1, .int .i64 0, .bool false] := L8.store 7 (.int .u32 1)
  have hb11 := hb10.setCell (p := ⟨w2.heap.size, 7, none⟩) hle (.int .u32 1)
  have hS9 : St 80 (lgX d 0 half 1 0 false) (w8.setCell ⟨w2.heap.size, 7, none⟩ (.int .u32 1)) w2.heap.size none none id 0 0 0 (fun _ => none) (fun _ => none) :=
    ⟨L9, HS.out.owns.of_block (fun _ h => by cases h), HS.out.floors.of_block (fun _ h => by cases h), HS.out.apart, HS.out.small, HS.out.lease_lt, HS.out.counts⟩
  have hBG : Calls Tryz.prog 54 #[.pointer (some ⟨w2.heap.size, 0, none⟩), .agg #[.pointer (some ⟨d, 0, none⟩), .int .i64 0, .int .i64 half, .int .u32 1]] (w8.setCell ⟨w2.heap.size, 7, none⟩ (.int .u32 1)) _ :=
    begin_well hS9 (HH.out.1.held hb11) hw hw2 (first := 0) (size := half) (gen := 1) (by omega) (by omega) h0 h1
  clear l4 l5 l6 l7 f4 f5 f6 f7 a0 a1 a2 a3 HG L7
  have f7 := L8.free 7
  have l7 := L8.at_ 7
  have HX2 := Lib.hid (And.intro hS9 hb11)
  have l4 := L9.at_ 4
  have l5 := L9.at_ 5
  have l6 := L9.at_ 6
  have l7' := L9.at_ 7
  clear L8 L9 hb9 hb10 hb11 hS9 HX
  go_wp2_with fail
  refine hBG.mono ?_
  rintro e w10 ⟨rfl, hD, hT⟩
  obtain ⟨hS9, hb11⟩ := HX2.out
  have hlts := HH.out.1.head.lt
  have hltM := HH.out.1.map.lt
  have hltS := HH.out.1.ltS
  have hS10 := hS9.turn hT (fun x hx => by
    rcases mem_fp.1 hx with rfl | h | h
    · simp; omega
    · cases h
    · cases h)
  have hTT := (Turn.of_below [d, S, M] hb11).trans hT
  clear hBG hT hb11 hS9 HX2 l4 l5 l6 l7 l7' f7
  go_wp2_with fail
  go_ret2
  exact ⟨w2.heap.size, rfl, hle, ⟨0, 0, Nat.le_refl _, hS10⟩, hD, hTT⟩

set_option maxRecDepth 20000 in
set_option maxHeartbeats 4000000 in
theorem open_fail2 (h : Dk w d S M n safe wn 1) (hN : ∀ i, i < n → recAt (synced safe wn i) = none) {id : Nat} (h0 : 0 < id) (h1 : id < 4294967296) (hn : 4 ≤ n) :
    Calls Tryz.prog 23 #[.pointer (some ⟨d, 0, none⟩), .int .u32 id] w fun e w' => e = .returned (.tuple #[.pointer none, .int .i64 4]) ∧ Turn [d, S, M] w w' := by
  have n1 := h.n1
  have HR := regions_any h (half := n / 2) rfl
  obtain ⟨half, hh⟩ : ∃ half, half = n / 2 := ⟨_, rfl⟩
  rw [← hh] at HR
  have hlt : decide ((half : Int) < 2) = false := decide_eq_false (by omega)
  have hi0 : ((id : Int) == 0) = false := by rw [beq_eq_false_iff_ne]; omega
  have hhn : half < n := by omega
  have HH := Lib.hid (And.intro h hN)
  clear hh h hN
  go_enter Tryz.func23, Tryz.ntmps23
  go_wp2_with fail
  refine HR.mono ?_
  rintro e w1 ⟨rfl, hb1⟩
  have hb2 := next hb1 (below_new w1 (.cells #[.pointer (some ⟨d, 0, none⟩), .int .i64 0, .int .i64 half, .int .u32 0, .pointer (some ⟨d, 0, none⟩), .int .i64 half, .int .i64 half, .int .u32 0] 123))
  have hH := Blk.new w1 123 #[.pointer (some ⟨d, 0, none⟩), .int .i64 0, .int .i64 half, .int .u32 0, .pointer (some ⟨d, 0, none⟩), .int .i64 half, .int .i64 half, .int .u32 0]
  have hz := size_new w1 (.cells #[.pointer (some ⟨d, 0, none⟩), .int .i64 0, .int .i64 half, .int .u32 0, .pointer (some ⟨d, 0, none⟩), .int .i64 half, .int .i64 half, .int .u32 0] 123)
  have hz1 := hb1.size
  clear HR hb1
  go_wp2_with fail
  generalize w1.alloc (.cells #[.pointer (some ⟨d, 0, none⟩), .int .i64 0, .int .i64 half, .int .u32 0, .pointer (some ⟨d, 0, none⟩), .int .i64 half, .int .i64 half, .int .u32 0] 123) = V at *
  refine (new_any id V).mono ?_
  rintro e w2 ⟨rfl, hS, hb3⟩
  have hz3 := hb3.size
  rw [hz] at hS
  have HS := Lib.hid hS
  have s0 : w2.cell? ⟨w1.heap.size + 1, 0, none⟩ = some (.int .u32 id) := hS.head.at_ 0
  have s1 : w2.cell? ⟨w1.heap.size + 1, 1, none⟩ = some (.int .u32 0) := hS.head.at_ 1
  have s2 : w2.cell? ⟨w1.heap.size + 1, 2, none⟩ = some (.map none) := hS.head.at_ 2
  have s3 : w2.cell? ⟨w1.heap.size + 1, 3, none⟩ = some (.map none) := hS.head.at_ 3
  have hs := hS.head.lt
  have L0 := Blk.new w2 80 #[.int .u32 id, .int .u32 0, .map none, .map none, .pointer none, .int .i64 0, .int .i64 0, .int .u32 0, .int .i64 0, .bool false]
  have hb4 := below_new w2 (.cells #[.int .u32 id, .int .u32 0, .map none, .map none, .pointer none, .int .i64 0, .int .i64 0, .int .u32 0, .int .i64 0, .bool false] 80)
  have hH4 := (hH.held hb3).held hb4
  have a0 := hH4.at_ 0
  have a1 := hH4.at_ 1
  have a2 := hH4.at_ 2
  have a3 := hH4.at_ 3
  have a4 := hH4.at_ 4
  have a5 := hH4.at_ 5
  have a6 := hH4.at_ 6
  have a7 := hH4.at_ 7
  have hbb := next (next hb2 hb3) hb4
  have HJ := journal_none (HH.out.1.held hbb) HH.out.2 (rid := id) hhn
  have HX := Lib.hid (And.intro hbb (And.intro hH4 L0))
  clear hS hb3 hb4 hH hH4 hb2 L0 hbb
  go_wp2_with fail
  refine HJ.mono ?_
  rintro e w5 ⟨rfl, hb5⟩
  have hb6 := next hb5 (below_new w5 (.cells #[.pointer none, .int .i64 0, .int .i64 0, .int .u32 0] 78))
  obtain ⟨hbb, hH4, L0⟩ := HX.out
  have hH6 := hH4.held hb6
  have L6 := L0.held hb6
  have hb7 := next hbb hb6
  clear a0 a1 a2 a3 a4 a5 a6 a7 HJ hb5 hb6 hbb hH4 L0 HX s0 s1 s2 s3
  have a0 := hH6.at_ 0
  have a1 := hH6.at_ 1
  have a2 := hH6.at_ 2
  have a3 := hH6.at_ 3
  have l4 := L6.at_ 4
  have l5 := L6.at_ 5
  have l6 := L6.at_ 6
  have l7 := L6.at_ 7
  have f4 := L6.free 4
  have f5 := L6.free 5
  have f6 := L6.free 6
  have f7 := L6.free 7
  have hle : w.heap.size ≤ w2.heap.size := by omega
  have L7 := (((L6.store 4 (.pointer (some ⟨d, 0, none⟩))).store 5 (.int .i64 0)).store 6 (.int .i64 half)).store 7 (.int .u32 0)
  have hb8 := (((hb7.setCell (p := ⟨w2.heap.size, 4, none⟩) hle (.pointer (some ⟨d, 0, none⟩))).setCell (p := ⟨w2.heap.size, 5, none⟩) hle (.int .i64 0)).setCell (p := ⟨w2.heap.size, 6, none⟩) hle (.int .i64 half)).setCell (p := ⟨w2.heap.size, 7, none⟩) hle (.int .u32 0)
  have HG := greatest_none (HH.out.1.held hb8) HH.out.2
  have HX := Lib.hid (And.intro L7 hb8)
  clear L6 L7 hb7 hb8 hH6
  go_wp2_with fail
  generalize ((((w5.alloc (.cells #[.pointer none, .int .i64 0, .int .i64 0, .int .u32 0] 78)).setCell ⟨w2.heap.size, 4, none⟩ (.pointer (some ⟨d, 0, none⟩))).setCell ⟨w2.heap.size, 5, none⟩ (.int .i64 0)).setCell ⟨w2.heap.size, 6, none⟩ (.int .i64 half)).setCell ⟨w2.heap.size, 7, none⟩ (.int .u32 0) = w7 at *
  refine HG.mono ?_
  rintro e w8 ⟨rfl, hb9⟩
  have L7 : Blk 80 w7 w2.heap.size #[.int .u32 id, .int .u32 0, .map none, .map none, .pointer (some ⟨d, 0, none⟩), .int .i64 0, .int .i64 half, .int .u32 0, .int .i64 0, .bool false] := HX.out.1
  have L8 := L7.held hb9
  have hb10 := next HX.out.2 hb9
  have L9 : Blk 80 (w8.setCell ⟨w2.heap.size, 7, none⟩ (.int .u32 1)) w2.heap.size #[.int .u32 id, .int .u32 0, .map none, .map none, .pointer (some ⟨d, 0, none⟩), .int .i64 0, .int .i64 half, .int .u32 1, .int .i64 0, .bool false] := L8.store 7 (.int .u32 1)
  have hb11 := hb10.setCell (p := ⟨w2.heap.size, 7, none⟩) hle (.int .u32 1)
  have hS9 : St 80 (lgX d 0 half 1 0 false) (w8.setCell ⟨w2.heap.size, 7, none⟩ (.int .u32 1)) w2.heap.size none none id 0 0 0 (fun _ => none) (fun _ => none) :=
    ⟨L9, HS.out.owns.of_block (fun _ h => by cases h), HS.out.floors.of_block (fun _ h => by cases h), HS.out.apart, HS.out.small, HS.out.lease_lt, HS.out.counts⟩
  have hBG : Calls Tryz.prog 54 #[.pointer (some ⟨w2.heap.size, 0, none⟩), .agg #[.pointer (some ⟨d, 0, none⟩), .int .i64 0, .int .i64 half, .int .u32 1]] (w8.setCell ⟨w2.heap.size, 7, none⟩ (.int .u32 1)) _ :=
    begin_fail2 hS9 (HH.out.1.held hb11) (first := 0) (size := half) (gen := 1) (by omega) (by omega) h0 h1
  clear l4 l5 l6 l7 f4 f5 f6 f7 a0 a1 a2 a3 HG L7
  have f7 := L8.free 7
  have l7 := L8.at_ 7
  have HX2 := Lib.hid (And.intro hS9 hb11)
  have l4 := L9.at_ 4
  have l5 := L9.at_ 5
  have l6 := L9.at_ 6
  have l7' := L9.at_ 7
  clear L8 L9 hb9 hb10 hb11 hS9 HX
  go_wp2_with fail
  refine hBG.mono ?_
  rintro e w10 ⟨rfl, -, hT⟩
  obtain ⟨hS9, hb11⟩ := HX2.out
  have hTT := (Turn.of_below [d, S, M] hb11).trans hT
  clear hBG hT hb11 hS9 HX2 l4 l5 l6 l7 l7' f7
  go_wp2_with fail
  go_ret2
  exact ⟨rfl, hTT⟩

set_option maxRecDepth 20000 in
set_option maxHeartbeats 4000000 in
theorem open_fail1 (h : Dk w d S M n safe wn 0) (hN : ∀ i, i < n → recAt (synced safe wn i) = none) {id : Nat} (h0 : 0 < id) (h1 : id < 4294967296) (hn : 4 ≤ n) :
    Calls Tryz.prog 23 #[.pointer (some ⟨d, 0, none⟩), .int .u32 id] w fun e w' => e = .returned (.tuple #[.pointer none, .int .i64 4]) ∧ Turn [d, S, M] w w' := by
  have n1 := h.n1
  have HR := regions_any h (half := n / 2) rfl
  obtain ⟨half, hh⟩ : ∃ half, half = n / 2 := ⟨_, rfl⟩
  rw [← hh] at HR
  have hlt : decide ((half : Int) < 2) = false := decide_eq_false (by omega)
  have hi0 : ((id : Int) == 0) = false := by rw [beq_eq_false_iff_ne]; omega
  have hhn : half < n := by omega
  have HH := Lib.hid (And.intro h hN)
  clear hh h hN
  go_enter Tryz.func23, Tryz.ntmps23
  go_wp2_with fail
  refine HR.mono ?_
  rintro e w1 ⟨rfl, hb1⟩
  have hb2 := next hb1 (below_new w1 (.cells #[.pointer (some ⟨d, 0, none⟩), .int .i64 0, .int .i64 half, .int .u32 0, .pointer (some ⟨d, 0, none⟩), .int .i64 half, .int .i64 half, .int .u32 0] 123))
  have hH := Blk.new w1 123 #[.pointer (some ⟨d, 0, none⟩), .int .i64 0, .int .i64 half, .int .u32 0, .pointer (some ⟨d, 0, none⟩), .int .i64 half, .int .i64 half, .int .u32 0]
  have hz := size_new w1 (.cells #[.pointer (some ⟨d, 0, none⟩), .int .i64 0, .int .i64 half, .int .u32 0, .pointer (some ⟨d, 0, none⟩), .int .i64 half, .int .i64 half, .int .u32 0] 123)
  have hz1 := hb1.size
  clear HR hb1
  go_wp2_with fail
  generalize w1.alloc (.cells #[.pointer (some ⟨d, 0, none⟩), .int .i64 0, .int .i64 half, .int .u32 0, .pointer (some ⟨d, 0, none⟩), .int .i64 half, .int .i64 half, .int .u32 0] 123) = V at *
  refine (new_any id V).mono ?_
  rintro e w2 ⟨rfl, hS, hb3⟩
  have hz3 := hb3.size
  rw [hz] at hS
  have HS := Lib.hid hS
  have s0 : w2.cell? ⟨w1.heap.size + 1, 0, none⟩ = some (.int .u32 id) := hS.head.at_ 0
  have s1 : w2.cell? ⟨w1.heap.size + 1, 1, none⟩ = some (.int .u32 0) := hS.head.at_ 1
  have s2 : w2.cell? ⟨w1.heap.size + 1, 2, none⟩ = some (.map none) := hS.head.at_ 2
  have s3 : w2.cell? ⟨w1.heap.size + 1, 3, none⟩ = some (.map none) := hS.head.at_ 3
  have hs := hS.head.lt
  have L0 := Blk.new w2 80 #[.int .u32 id, .int .u32 0, .map none, .map none, .pointer none, .int .i64 0, .int .i64 0, .int .u32 0, .int .i64 0, .bool false]
  have hb4 := below_new w2 (.cells #[.int .u32 id, .int .u32 0, .map none, .map none, .pointer none, .int .i64 0, .int .i64 0, .int .u32 0, .int .i64 0, .bool false] 80)
  have hH4 := (hH.held hb3).held hb4
  have a0 := hH4.at_ 0
  have a1 := hH4.at_ 1
  have a2 := hH4.at_ 2
  have a3 := hH4.at_ 3
  have a4 := hH4.at_ 4
  have a5 := hH4.at_ 5
  have a6 := hH4.at_ 6
  have a7 := hH4.at_ 7
  have hbb := next (next hb2 hb3) hb4
  have HJ := journal_none (HH.out.1.held hbb) HH.out.2 (rid := id) hhn
  have HX := Lib.hid (And.intro hbb (And.intro hH4 L0))
  clear hS hb3 hb4 hH hH4 hb2 L0 hbb
  go_wp2_with fail
  refine HJ.mono ?_
  rintro e w5 ⟨rfl, hb5⟩
  have hb6 := next hb5 (below_new w5 (.cells #[.pointer none, .int .i64 0, .int .i64 0, .int .u32 0] 78))
  obtain ⟨hbb, hH4, L0⟩ := HX.out
  have hH6 := hH4.held hb6
  have L6 := L0.held hb6
  have hb7 := next hbb hb6
  clear a0 a1 a2 a3 a4 a5 a6 a7 HJ hb5 hb6 hbb hH4 L0 HX s0 s1 s2 s3
  have a0 := hH6.at_ 0
  have a1 := hH6.at_ 1
  have a2 := hH6.at_ 2
  have a3 := hH6.at_ 3
  have l4 := L6.at_ 4
  have l5 := L6.at_ 5
  have l6 := L6.at_ 6
  have l7 := L6.at_ 7
  have f4 := L6.free 4
  have f5 := L6.free 5
  have f6 := L6.free 6
  have f7 := L6.free 7
  have hle : w.heap.size ≤ w2.heap.size := by omega
  have L7 := (((L6.store 4 (.pointer (some ⟨d, 0, none⟩))).store 5 (.int .i64 0)).store 6 (.int .i64 half)).store 7 (.int .u32 0)
  have hb8 := (((hb7.setCell (p := ⟨w2.heap.size, 4, none⟩) hle (.pointer (some ⟨d, 0, none⟩))).setCell (p := ⟨w2.heap.size, 5, none⟩) hle (.int .i64 0)).setCell (p := ⟨w2.heap.size, 6, none⟩) hle (.int .i64 half)).setCell (p := ⟨w2.heap.size, 7, none⟩) hle (.int .u32 0)
  have HG := greatest_none (HH.out.1.held hb8) HH.out.2
  have HX := Lib.hid (And.intro L7 hb8)
  clear L6 L7 hb7 hb8 hH6
  go_wp2_with fail
  generalize ((((w5.alloc (.cells #[.pointer none, .int .i64 0, .int .i64 0, .int .u32 0] 78)).setCell ⟨w2.heap.size, 4, none⟩ (.pointer (some ⟨d, 0, none⟩))).setCell ⟨w2.heap.size, 5, none⟩ (.int .i64 0)).setCell ⟨w2.heap.size, 6, none⟩ (.int .i64 half)).setCell ⟨w2.heap.size, 7, none⟩ (.int .u32 0) = w7 at *
  refine HG.mono ?_
  rintro e w8 ⟨rfl, hb9⟩
  have L7 : Blk 80 w7 w2.heap.size #[.int .u32 id, .int .u32 0, .map none, .map none, .pointer (some ⟨d, 0, none⟩), .int .i64 0, .int .i64 half, .int .u32 0, .int .i64 0, .bool false] := HX.out.1
  have L8 := L7.held hb9
  have hb10 := next HX.out.2 hb9
  have L9 : Blk 80 (w8.setCell ⟨w2.heap.size, 7, none⟩ (.int .u32 1)) w2.heap.size #[.int .u32 id, .int .u32 0, .map none, .map none, .pointer (some ⟨d, 0, none⟩), .int .i64 0, .int .i64 half, .int .u32 1, .int .i64 0, .bool false] := L8.store 7 (.int .u32 1)
  have hb11 := hb10.setCell (p := ⟨w2.heap.size, 7, none⟩) hle (.int .u32 1)
  have hS9 : St 80 (lgX d 0 half 1 0 false) (w8.setCell ⟨w2.heap.size, 7, none⟩ (.int .u32 1)) w2.heap.size none none id 0 0 0 (fun _ => none) (fun _ => none) :=
    ⟨L9, HS.out.owns.of_block (fun _ h => by cases h), HS.out.floors.of_block (fun _ h => by cases h), HS.out.apart, HS.out.small, HS.out.lease_lt, HS.out.counts⟩
  have hBG : Calls Tryz.prog 54 #[.pointer (some ⟨w2.heap.size, 0, none⟩), .agg #[.pointer (some ⟨d, 0, none⟩), .int .i64 0, .int .i64 half, .int .u32 1]] (w8.setCell ⟨w2.heap.size, 7, none⟩ (.int .u32 1)) _ :=
    begin_fail1 hS9 (HH.out.1.held hb11) (first := 0) (size := half) (gen := 1) (by omega) (by omega) h0 h1
  clear l4 l5 l6 l7 f4 f5 f6 f7 a0 a1 a2 a3 HG L7
  have f7 := L8.free 7
  have l7 := L8.at_ 7
  have HX2 := Lib.hid (And.intro hS9 hb11)
  have l4 := L9.at_ 4
  have l5 := L9.at_ 5
  have l6 := L9.at_ 6
  have l7' := L9.at_ 7
  clear L8 L9 hb9 hb10 hb11 hS9 HX
  go_wp2_with fail
  refine hBG.mono ?_
  rintro e w10 ⟨rfl, -, hT⟩
  obtain ⟨hS9, hb11⟩ := HX2.out
  have hTT := (Turn.of_below [d, S, M] hb11).trans hT
  clear hBG hT hb11 hS9 HX2 l4 l5 l6 l7 l7' f7
  go_wp2_with fail
  go_ret2
  exact ⟨rfl, hTT⟩
end
end Go.Proofs.YtmhcjhbmeohjdaaGreat

namespace Go.Proofs.YtmhcjhbmeohjdaaGreat
open Go.RowKit Rm
variable {tL : TypeId} {YS : List Value}

section
variable {w w' : World} {d lb first size gen len : Nat} {laid : Bool} {o fl : Option Nat} {id lease cn cm : Nat} {own : Pk → Option Bool} {floor : Ky → Option (Nat × Nat)}
theorem lg_head (h : St tL (lgX d first size gen len laid ++ YS) w lb o fl id lease cn cm own floor) : Blk tL w lb (Value.int .u32 id :: Value.int .u32 lease :: Value.map o :: Value.map fl :: (lgX d first size gen len laid ++ YS)).toArray := h.head
theorem state_any (h : St tL (lgX d first size gen len laid ++ YS) w lb o fl id lease cn cm own floor) :
    Calls Tryz.prog 44 #[.pointer (some ⟨lb, 0, none⟩)] w fun e w' => e = .returned (.pointer (some ⟨lb, 0, none⟩)) ∧ w = w' := by
  have c0 := (lg_head h).at_ 0
  clear h
  go_enter Tryz.func44, Tryz.ntmps44
  go_wp2
  go_ret
  exact ⟨rfl, rfl⟩
theorem next_any (h : St tL (lgX d first size gen len laid ++ YS) w lb o fl id lease cn cm own floor) (hl : len ≤ 100000) :
    Calls Tryz.prog 81 #[.pointer (some ⟨lb, 0, none⟩)] w fun e w' => e = .returned (.int .i64 (1 + (len : Int))) ∧ w = w' := by
  have c8 : w.cell? ⟨lb, 8, none⟩ = some (.int .i64 len) := (lg_head h).at_ 8
  have hw : IntKind.i64.wrap (1 + (len : Int)) = 1 + (len : Int) := by simp only [IntKind.wrap, IntKind.bits, IntKind.signed]; simp; omega
  clear h
  go_enter Tryz.func81, Tryz.ntmps81
  go_wp2
  go_ret
  exact ⟨rfl, rfl⟩
set_option maxHeartbeats 1000000 in
theorem full_log (h : St tL (lgX d first size gen len laid ++ YS) w lb o fl id lease cn cm own floor) (hl : len ≤ 100000) {q : Bool} (hq : decide ((size : Int) ≤ 1 + (len : Int)) = q) :
    Calls Tryz.prog 78 #[.pointer (some ⟨lb, 0, none⟩)] w fun e w' => e = .returned (.bool q) ∧ Below w.heap.size w w' := by
  have c6 : w.drew.cell? ⟨lb, 6, none⟩ = some (.int .i64 size) := (lg_head h).at_ 6
  have HN := next_any h.drew hl
  clear h
  go_enter Tryz.func78, Tryz.ntmps78
  go_wp2_with fail
  go_region_held3 (fun w' => w'.cell? ⟨lb, 6, none⟩ = some (.int .i64 size)) (go_keep)
    (first | (go_at_call 81; refine HN.mono ?_; rintro e w' ⟨rfl, rfl⟩))
  go_wp2_with fail
  go_ret
  exact ⟨ret_bool (by rw [← hq]), (Below.refl _ _).drew⟩
end
end Go.Proofs.YtmhcjhbmeohjdaaGreat

namespace Go.Proofs.YtmhcjhbmeohjdaaGreat
open Go.RowKit Go.Maps

section
variable {P : Program} {k t e : TypeId} {α : Type} [DecidableEq α] {E : Ke P k α} {w w' : World} {b r n : Nat} {f : α → Option Value}

/-- a list of all keys, none of them twice, is as long as the map -/
theorem Mk.card (h : Mk E w b n f) {xs : List α} (hnd : xs.Nodup) (hm : ∀ k, k ∈ xs ↔ E.ok k ∧ (f k).isSome = true) : xs.length = n := by
  obtain ⟨D, hown, hn, S⟩ := h
  obtain ⟨es, hD, hpw, _⟩ := hown.entries E.law
  obtain ⟨es', hD', hko⟩ := hown.keysOf
  obtain rfl : es = es' := by rw [hD] at hD'; simpa using hD'
  subst hD
  have hn' : es.length = n := hn
  have hlit : ∀ p ∈ es, ∃ x, E.ok x ∧ p.1 = E.lit x := fun p hp => by
    obtain ⟨v, hv⟩ := hko p hp
    obtain ⟨x, hx, -, e⟩ := E.inv _ _ hv
    exact ⟨x, hx, e⟩
  have hP : (xs.map E.lit).Perm (es.map fun p => p.1) := by
    refine (List.perm_ext_iff_of_nodup ?_ ?_).2 fun l => ?_
    · refine List.pairwise_map.2 (hnd.imp_of_mem fun {a b} ha hb hne e => hne (E.inj a b ((hm a).1 ha).1 ((hm b).1 hb).1 e))
    · exact List.pairwise_map.2 hpw
    · rw [List.mem_map, List.mem_map]
      constructor
      · rintro ⟨x, hx, rfl⟩
        obtain ⟨h1, h2⟩ := (hm x).1 hx
        rw [← (S x h1).2, has_eq, List.any_eq_true] at h2
        obtain ⟨p, hp, hs⟩ := h2
        obtain ⟨y, hy, e⟩ := hlit p hp
        refine ⟨p, hp, ?_⟩
        rw [e] at hs ⊢
        rw [E.sameKey hy h1, decide_eq_true_eq] at hs
        rw [hs]
      · rintro ⟨p, hp, rfl⟩
        obtain ⟨y, hy, e⟩ := hlit p hp
        refine ⟨y, (hm y).2 ⟨hy, ?_⟩, e.symm⟩
        rw [← (S y hy).2, has_eq, List.any_eq_true]
        refine ⟨p, hp, ?_⟩
        rw [e, E.sameKey hy hy]
        simp
  have := hP.length_eq
  simpa [hn'] using this

/-- of the keys of f those that are no longer to come, none of them twice -/
def Came (E : Ke P k α) (f : α → Option Value) (left : α → Bool) (xs : List α) : Prop := xs.Nodup ∧ ∀ x, x ∈ xs ↔ E.ok x ∧ (f x).isSome = true ∧ left x = false
omit [DecidableEq α] in
theorem Came.start (E : Ke P k α) (f : α → Option Value) : Came E f (fun z => (f z).isSome) [] :=
  ⟨List.nodup_nil, fun x => ⟨fun h => by simp at h, fun h => by have h1 := h.2.1; have h2 : (f x).isSome = false := h.2.2; rw [h1] at h2; cases h2⟩⟩
theorem Came.step {left : α → Bool} {xs : List α} (h : Came E f left xs) {x : α} (hx : E.ok x) (hl : left x = true) {v : Value} (hf : f x = some v) : Came E f (fun z => left z && !decide (z = x)) (xs ++ [x]) := by
  have hnew : x ∉ xs := fun hm => by have := ((h.2 x).1 hm).2.2; rw [hl] at this; cases this
  refine ⟨List.nodup_append.2 ⟨h.1, by simp, fun a ha b hb => by simp at hb; subst hb; exact fun e => hnew (e ▸ ha)⟩, fun y => ?_⟩
  by_cases hy : y = x
  · subst hy; simp [hx, hf]
  · simp [h.2 y, hy]
omit [DecidableEq α] in
theorem Came.all {left : α → Bool} {xs : List α} (h : Came E f left xs) (hl : ∀ z, E.ok z → left z = false) : xs.Nodup ∧ ∀ x, x ∈ xs ↔ E.ok x ∧ (f x).isSome = true :=
  ⟨h.1, fun x => by rw [h.2 x]; exact ⟨fun h => ⟨h.1, h.2.1⟩, fun h => ⟨h.1, h.2, hl x h.1⟩⟩⟩

omit [DecidableEq α] in
theorem Rg.of_walks {left : α → Bool} {cnt : Nat} (h : Rg E w b r n f left cnt) (hk : KeepsWalks w w') : Rg E w' b r n f left cnt := by
  obtain ⟨D, m, L, h1, h2⟩ := h
  exact ⟨D, m, L, h1.of_walks hk, h2⟩
omit [DecidableEq α] in
theorem Rg.iter_walk {left : α → Bool} {cnt : Nat} (h : Rg E w b r n f left cnt) : ∃ o : Obj, w.heap[r]? = some o ∧ o.isWalk = true := by
  obtain ⟨D, m, L, h1, h2⟩ := h
  exact h1.iter_walk
end

/-! ### a function value: a function's, or a loop's -/
inductive Fv
  | fn (g : Nat) (lb : Array Value)
  | loop (l : Nat)
def Fv.val : Fv → Value
  | .fn g lb => .func (.func g) #[] lb
  | .loop l => .func (.yield l) #[] #[]
/-- what a call of it comes to -/
def Fv.At (P : Program) (fv : Fv) (args : Array Value) (W : World) (R : Ending → World → Prop) : Prop :=
  match fv with
  | .fn g lb => (∀ args w, (callFunc g args).run P w = .ok (.enter g args) w) ∧ Calls P g (args ++ lb) W R
  | .loop l => YieldAt Fence.wide 0 P l args W R
theorem Fv.At.mono {P : Program} {fv : Fv} {args : Array Value} {W : World} {R R' : Ending → World → Prop} (h : fv.At P args W R) (hr : ∀ e w, R e w → R' e w) : fv.At P args W R' := by
  cases fv with
  | fn g lb => exact ⟨h.1, h.2.mono hr⟩
  | loop l =>
    obtain ⟨fn, tmps, assign, body, h1, h2⟩ := h
    exact ⟨fn, tmps, assign, body, h1, h2.mono hr⟩
theorem roundIn_any {n m : Nat} {P : Program} {l f : Nat} {tmps : Array Value} {assign body : Code} {w : World} {R : Ending → World → Prop} (h : RoundIn Fence.wide n P l f tmps assign body w R) : RoundIn Fence.wide m P l f tmps assign body w R :=
  ⟨trivial, fun c cs _ => h.2 c cs (room_wide _)⟩
theorem roundIn_in {n m : Nat} {P : Program} {l l' f : Nat} {tmps : Array Value} {assign body : Code} {w : World} {R : Ending → World → Prop} (h : RoundIn Fence.wide n P l f tmps assign body w R) : RoundIn (Fence.wide.inRound l') m P l f tmps assign body w R :=
  roundIn_any (m := m) h
theorem yieldAt_any {n m : Nat} {P : Program} {l : Nat} {args : Array Value} {W : World} {R : Ending → World → Prop} (h : YieldAt Fence.wide n P l args W R) : YieldAt Fence.wide m P l args W R := by
  obtain ⟨fn, tmps, assign, body, h1, h2⟩ := h
  exact ⟨fn, tmps, assign, body, h1, roundIn_any h2⟩
theorem callsIn_any {n : Nat} {P : Program} {f : Nat} {args : Array Value} {w : World} {R : Ending → World → Prop} (h : Calls P f args w R) : CallsIn Fence.wide n P f args w R := callsIn_wide.2 h
theorem callsIn_round {n l : Nat} {P : Program} {f : Nat} {args : Array Value} {w : World} {R : Ending → World → Prop} (h : Calls P f args w R) : CallsIn (Fence.wide.inRound l) n P f args w R := callsIn_wide.2 h

/-- the blocks in L are as they were -/
def Keep (L : List Nat) (W W' : World) : Prop := ∀ b, b ∈ L → W'.heap[b]? = W.heap[b]?
theorem Keep.refl (L : List Nat) (W : World) : Keep L W W := fun _ _ => rfl
theorem Keep.trans {L : List Nat} {A B C : World} (h : Keep L A B) (k : Keep L B C) : Keep L A C := fun b hb => (k b hb).trans (h b hb)
theorem Keep.mono {L L' : List Nat} {A B : World} (h : Keep L A B) (hs : ∀ b, b ∈ L' → b ∈ L) : Keep L' A B := fun b hb => h b (hs b hb)
theorem Keep.of_below {L : List Nat} {W W' : World} (hL : ∀ b, b ∈ L → b < W.heap.size) (h : Below W.heap.size W W') : Keep L W W' := fun b hb => h.block b (hL b hb)
theorem Keep.of_turn {L T : List Nat} {W W' : World} (hL : ∀ b, b ∈ L → b < W.heap.size) (h : Turn T W W') (hT : ∀ b, b ∈ L → b ∉ T) : Keep L W W' := fun b hb => h.block b (hL b hb) (hT b hb)
theorem keep_put {L : List Nat} {w : World} (hL : ∀ b, b ∈ L → b < w.heap.size) (W : World) (l : Nat) (o o' : Obj) (hl : w.heap.size ≤ l) (_ : W.heap[l]? = some o) (_ : o.isCells = false) (_ : o.isWalk = false) : Keep L W (W.putObj l o') :=
  fun b hb => World.putObj_heap_other (by have := hL b hb; omega)

/-- whatever is no cells and lies at or beyond B is as it was, where but cells are turned -/
theorem keepsFrom_below {W W' : World} (B : Nat) (h : Below W.heap.size W W') : KeepsFrom B W W' := ⟨h.size, fun k _ _ hk _ => (h.block k (Array.getElem?_eq_some_iff.1 hk).1).trans hk⟩
theorem KeepsFrom.mono {B B' : Nat} {W W' : World} (h : KeepsFrom B W W') (hB : B ≤ B') : KeepsFrom B' W W' := ⟨h.size, fun k o hk => h.same k o (by omega)⟩
theorem Blk.grown {t : TypeId} {W W' : World} {row : Option Nat} {b B : Nat} {C : Array Value} (h : Blk t W b C) (hg : W.grownBy W' row) (hr : ∀ r, row = some r → B ≤ r ∧ ∃ o : Obj, W.heap[r]? = some o ∧ o.isCells = false) : Blk t W' b C := by
  refine (hg.block b h.lt fun e => ?_).trans h
  obtain ⟨_, o, ho, hc⟩ := hr b e.symm
  unfold Blk at h
  rw [h] at ho
  cases ho
  cases hc
theorem new_at (w : World) (C : Array Value) (t : TypeId) (j : Nat) : (w.alloc (.cells C t)).cell? ((⟨w.heap.size, 0, none⟩ : Addr).add j) = C[j]? := by
  rw [show ((⟨w.heap.size, 0, none⟩ : Addr).add j) = ⟨w.heap.size, j, none⟩ from by unfold Addr.add; simp; omega]
  exact new_cell _ _ _ _
/-- .. and the heap has not shrunk -/
def KeepS (L : List Nat) (A B : World) : Prop := Keep L A B ∧ A.heap.size ≤ B.heap.size
theorem KeepS.trans {L : List Nat} {A B C : World} (h : KeepS L A B) (k : KeepS L B C) : KeepS L A C := ⟨h.1.trans k.1, Nat.le_trans h.2 k.2⟩
theorem keepS_put {L : List Nat} {w : World} (hL : ∀ b, b ∈ L → b < w.heap.size) (W : World) (l : Nat) (o o' : Obj) (hl : w.heap.size ≤ l) (h : W.heap[l]? = some o) (h1 : o.isCells = false) (h2 : o.isWalk = false) : KeepS L W (W.putObj l o') :=
  ⟨keep_put hL W l o o' hl h h1 h2, by simp⟩
theorem KeepS.of_below {L : List Nat} {W W' : World} (hL : ∀ b, b ∈ L → b < W.heap.size) (h : Below W.heap.size W W') : KeepS L W W' := ⟨.of_below hL h, h.size⟩
theorem OwnFrom.up {β : Type} {B B' : Nat} {I : β → World → Prop} (h : OwnFrom B I) (hB : B ≤ B') : OwnFrom B' I := fun s W W' row hs hg hr => h s W W' row hs hg fun r e => ⟨Nat.le_trans hB (hr r e).1, (hr r e).2⟩
theorem OwnFrom.abides {β : Type} {B : Nat} {I : β → World → Prop} (h : OwnFrom B I) : AbidesFrom B I := fun s W W' row hs hg hr => h s W W' row hs hg fun r e => ⟨(hr r e).1, by obtain ⟨_, o, ho, hw⟩ := hr r e; exact ⟨o, ho, Obj.not_cells_of_walk hw⟩⟩
end Go.Proofs.YtmhcjhbmeohjdaaGreat

