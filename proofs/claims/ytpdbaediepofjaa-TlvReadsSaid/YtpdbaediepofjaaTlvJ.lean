/-
  The statement's example; two lists held against each other.
-/
import Derived.Test.YtpdbaediepofjaaTlvI
import Derived.Test.YtpdbaediepofjaaTlvD
import Derived.Deep.QuietTactic
import Derived.BigQuiet
namespace Go.Proofs.Ytpdbaediepofjaa
open Go.RowKit Tm

theorem Ob.sl {u : World} {g cap : Nat} {bs : List Nat} (h : Ob u g cap bs) (hb : ∀ c ∈ bs, c < 256) (hl : bs.length ≤ 5000) : Sl u (some ⟨g, 0, none⟩) bs.length cap bs :=
  ⟨h.bytes hb hl, by obtain ⟨_, _, _, h, _⟩ := h; exact h, fun _ => ⟨_, _, rfl⟩⟩

def exu : Up := ⟨167772160, 8, 9, 3, 2⟩
theorem exu_right : right exu = true := by decide
theorem exu_fits : exu.Fits := by constructor <;> decide
def exb : List Nat := [87, 1, 0, 16, 2, 4, 0, 0, 0, 9, 3, 8, 8, 0, 0, 0, 3, 0, 2, 10]
theorem exu_encode : Tm.encode [exu] = [exb] := by decide
theorem exu_decode : Tm.decode exb = some [exu] := by
  rw [show exb = page (parts exu 0) from rfl, decode_page (by decide)]
  have := walk_parts exu_right exu_fits 0 []
  rw [List.append_nil, walk_nil] at this
  rw [this]; rfl

set_option maxHeartbeats 2000000 in
theorem head_any (w : World) : Calls Try.prog 7 #[] w fun e w' => e = .returned (.bool true) ∧ Below w.heap.size w w' := by
  go_enter Try.func7, Try.ntmps7
  have hX := Blk.new w 31 exu.cs
  have hb := below_new w (.cells exu.cs 31)
  have hs := size_new w (.cells exu.cs 31)
  have hN := Blk.new (w.alloc (.cells exu.cs 31)) 31 exu.cs
  have hb2 := next hb (below_new (w.alloc (.cells exu.cs 31)) (.cells exu.cs 31))
  have hX2 := hX.more (.cells exu.cs 31)
  rw [hs] at hN
  have hU : Ul ((w.alloc (.cells exu.cs 31)).alloc (.cells exu.cs 31)) (some ⟨w.heap.size + 1, 0, none⟩) 1 1 [exu] := by
    refine ⟨rfl, by omega, by omega, fun _ => ⟨_, _, rfl⟩, fun b off e i hi j hj => ?_, by simp [exu_fits]⟩
    cases e
    obtain rfl : i = 0 := by simpa using hi
    rw [Nat.zero_add, Nat.mul_zero, Nat.zero_add, hN.at_ j]
    rfl
  have EN := encode_any hU
  have X := Lib.hid (And.intro hX2 hb2)
  clear hX hb hs hN hb2 hX2 hU
  go_wp2_with fail
  refine EN.mono ?_
  rintro e W ⟨v, rfl, hL, hB⟩
  rw [exu_encode] at hL
  obtain ⟨gb, cp, gi, ci, rfl, k0, hO, -, -⟩ := hL.inplace (i := 0) (by simp)
  have hS : Sl W (some ⟨gi, 0, none⟩) 20 ci exb := hO.sl (bs := exb) (by decide) (by decide)
  have hstr : ∀ x : World, x.heap = W.heap → (convert 35 9 (.slice (some ⟨gi, 0, none⟩) 20 ci)).run Try.prog x = .ok (.string ⟨#[87, 1, 0, 16, 2, 4, 0, 0, 0, 9, 3, 8, 8, 0, 0, 0, 3, 0, 2, 10]⟩) x := fun x hx => by
    have : BytesAt x (some ⟨gi, 0, none⟩) 20 exb := by
      have h1 : Ob x gi ci exb := hO.of_block (by rw [hx])
      exact h1.bytes (by decide) (by decide)
    exact conv_str this
  have hst := hstr W rfl
  have k1 : W.cell? ⟨gb, 0, none⟩ = some (.slice (some ⟨gi, 0, none⟩) 20 ci) := k0
  have D := decode_any hS exu_decode
  have Y := Lib.hid (And.intro (X.out.1.held hB) (next X.out.2 hB))
  clear X EN k0 hO hS hstr hL hB
  go_wp2_with fail
  refine D.mono ?_
  rintro e W2 ⟨hB2, h⟩
  rcases h with ⟨h, -⟩ | ⟨us, v, h, rfl, hLu⟩
  · cases h
  · cases h
    obtain ⟨A, cap, rfl, hUl⟩ := hLu.ul (by simp [exu_fits]) (by simp)
    obtain ⟨b, off, rfl⟩ := hUl.plain (by simp)
    obtain ⟨c0, c1, c2, c3, c4⟩ := hUl.at_ (k := 0) (by simp) (a := 167772160) (len := 8) (id := 9) (seq := 3) (met := 2) rfl
    rw [show off + 0 * 5 = off by omega] at c0 c1 c2 c3 c4
    have hX := Y.out.1.held hB2
    have d0 : W2.cell? ⟨w.heap.size, 0, none⟩ = some (.int .u32 167772160) := hX.at_ 0
    have d1 : W2.cell? ⟨w.heap.size, 0 + 1, none⟩ = some (.int .i64 8) := hX.at_ 1
    have d2 : W2.cell? ⟨w.heap.size, 0 + 2, none⟩ = some (.int .u32 9) := hX.at_ 2
    have d3 : W2.cell? ⟨w.heap.size, 0 + 3, none⟩ = some (.int .u32 3) := hX.at_ 3
    have d4 : W2.cell? ⟨w.heap.size, 0 + 4, none⟩ = some (.int .u16 2) := hX.at_ 4
    have V := Lib.hid (next Y.out.2 hB2)
    clear Y hX hUl hLu D hst k1
    go_upto_region 6 with (fail)
    go_quiet (fail)
    go_wp2_with fail
    go_ret
    exact ⟨rfl, drewN_below V.out _⟩
end Go.Proofs.Ytpdbaediepofjaa
