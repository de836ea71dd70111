/-
  The document's example of package rec, as the statements ask it.
-/
import Derived.Test.YtbjminjcccflcaaRecO
namespace Go.Proofs.Ytbjminjcccflcaa
open Go.RowKit Rm

def ex1 : Rc := ⟨1, 1, 0, 7, 0, 0, false, 0, 0⟩
theorem ex1_right : right ex1 = true := by decide
theorem ex1_fits : ex1.Fits := by constructor <;> decide

/-- Of, of bytes that begin a block -/
theorem of_ans {b cap : Nat} (hcap : 48 ≤ cap) {bs : List Nat} {w : World} (h : BytesAt w (some ⟨b, 0, none⟩) 48 bs) {x : Rc} {y : Bool} (hx : (Rm.of bs).getD Rm.zero = x) (hy : (Rm.of bs).isSome = y) :
    Calls Try.prog 9 #[.slice (some ⟨b, 0, none⟩) 48 cap] w fun e w' => e = .returned (.tuple #[.agg (rcells x.kind x.gen x.lsn x.id x.a x.len x.on x.seq x.met), .bool y]) ∧ Below w.heap.size w w' := by
  subst hx hy
  exact of_long b 0 cap hcap bs w h

set_option maxHeartbeats 2000000 in
theorem rec_head (w : World) : Calls Try.prog 5 #[] w fun e w' => e = .returned (.bool true) ∧ Below w.heap.size w w' := by
  have N := Lib.hid (sector_yes 1 1 0 7 0 0 false 0 0 ex1_fits ex1_right)
  go_enter Try.func5, Try.ntmps5
  go_wp2_with fail
  refine (N.out _).mono ?_
  rintro e x ⟨b, rfl, hge, hB, hb⟩
  have hX := (Blk.new w 30 (rcells 1 1 0 7 0 0 false 0 0)).held hb
  have hb0 := next (below_new w (.cells (rcells 1 1 0 7 0 0 false 0 0) 30)) hb
  have hlt := hB.lt
  have c0 : x.cell? ⟨b, 0, none⟩ = some (.int .u8 1) := (hB.at_ 0).trans (cls_at _ 0 (by rw [bytes_length]; omega))
  have c7 : x.cell? ⟨b, 7, none⟩ = some (.int .u8 1) := (hB.at_ 7).trans (cls_at _ 7 (by rw [bytes_length]; omega))
  have c15 : x.cell? ⟨b, 15, none⟩ = some (.int .u8 7) := (hB.at_ 15).trans (cls_at _ 15 (by rw [bytes_length]; omega))
  have hS : BytesAt x (some ⟨b, 0, none⟩) 48 (Rm.bytes ex1) := BytesAt.cls hB (bytes_lt _) (by rw [bytes_length]; omega)
  have T := Lib.hid (And.intro hX (And.intro hb0 hS))
  clear hX hb0 hS hB hb hge N
  go_wp2_with fail
  have ho := of_bytes ex1_right ex1_fits
  refine (of_ans (x := ex1) (y := true) (by omega) T.out.2.2 (by rw [ho]; rfl) (by rw [ho]; rfl)).mono ?_
  rintro e x2 ⟨rfl, hb2⟩
  have hX2 := T.out.1.held hb2
  have T2 := Lib.hid (next T.out.2.1 hb2)
  have d0 : x2.cell? ⟨w.heap.size, 0, none⟩ = some (.int .i64 1) := hX2.at_ 0
  have d1 : x2.cell? ⟨w.heap.size, 1, none⟩ = some (.int .u32 1) := hX2.at_ 1
  have d2 : x2.cell? ⟨w.heap.size, 2, none⟩ = some (.int .u32 0) := hX2.at_ 2
  have d3 : x2.cell? ⟨w.heap.size, 3, none⟩ = some (.int .u32 7) := hX2.at_ 3
  have d4 : x2.cell? ⟨w.heap.size, 4, none⟩ = some (.int .u32 0) := hX2.at_ 4
  have d5 : x2.cell? ⟨w.heap.size, 5, none⟩ = some (.int .i64 0) := hX2.at_ 5
  have d6 : x2.cell? ⟨w.heap.size, 6, none⟩ = some (.bool false) := hX2.at_ 6
  have d7 : x2.cell? ⟨w.heap.size, 7, none⟩ = some (.int .u32 0) := hX2.at_ 7
  have d8 : x2.cell? ⟨w.heap.size, 8, none⟩ = some (.int .u16 0) := hX2.at_ 8
  clear hb2 hX2 T ho c0 c7 c15
  rw [show rcells ex1.kind ex1.gen ex1.lsn ex1.id ex1.a ex1.len ex1.on ex1.seq ex1.met = #[.int .i64 1, .int .u32 1, .int .u32 0, .int .u32 7, .int .u32 0, .int .i64 0, .bool false, .int .u32 0, .int .u16 0] from rfl]
  have hl2 : w.heap.size < x2.heap.size := cell_lt d0
  go_wp2_with fail
  go_ret
  exact ⟨rfl, T2.out.alloc (by omega) _⟩
end Go.Proofs.Ytbjminjcccflcaa
