/-
  The document's example, and what slices of bytes and events are.
-/
import Derived.Test.YtnpocnfmekgieaaScNe
import Derived.Test.YtnpocnfmekgieaaScDd
namespace Go.Proofs.Ytnpocnfmekgieaa
open Go.RowKit Go.Maps Sc

theorem Ob.sl {B : Nat} {p : Option Addr} {n cap : Nat} {bs : List Nat} {W : World} (h : Ob B (.slice p n cap) bs W) (hb : ∀ c ∈ bs, c < 256) : Sl W p n cap bs := by
  have hB := Ob.bytes h hb
  rcases h.2 with ⟨h0, h1⟩ | ⟨g', cap', cur, e, h4, h5, h6, h7, h8, h9⟩
  · cases h0
    exact ⟨hB, Nat.le_refl _, fun h => absurd h (by omega)⟩
  · cases e
    exact ⟨hB, h6, fun _ => ⟨_, _, rfl⟩⟩
theorem El.one (W : World) (e : Ev) (hg : e.Good) : El (W.alloc (.cells (ecs e) 30)) (some ⟨W.heap.size, 0, none⟩) 1 1 [e] := by
  refine ⟨rfl, by unfold maxLen; omega, Nat.le_refl _, fun _ => ⟨_, _, rfl⟩, fun b off h i hi j hj => ?_, fun x hx => by rw [List.mem_singleton] at hx; subst hx; exact hg⟩
  cases h
  have hi0 : i = 0 := by simpa using hi
  subst hi0
  rw [Nat.zero_add, Nat.mul_zero, Nat.zero_add, (Blk.new W 30 (ecs e)).at_ j]
  rfl
def Sc.tick2 : Ev := ⟨6, 2, 0, 0, 0, 0, []⟩
theorem tick2_good : tick2.Good := ⟨by constructor <;> decide, by unfold maxLen; decide⟩
theorem tick2_bytes : script 3 300 [tick2] = [3, 1, 44, 6, 0, 0, 2, 0, 0, 0, 0, 0, 0, 0, 0, 0, 0, 0, 0] := by decide

set_option maxRecDepth 100000 in
set_option maxHeartbeats 4000000 in
theorem head_any (w : World) : Calls Try.prog 7 #[] w fun x w' => x = .returned (.bool true) ∧ Below w.heap.size w w' := by
  have HE := encode_good (nn := 3) (ss := 300) (El.one w tick2 tick2_good) (by omega) (by decide) (by decide) (by decide)
  rw [tick2_bytes, show ((3 : Nat) : Int) = 3 from rfl, show ((300 : Nat) : Int) = 300 from rfl] at HE
  have hb1 := below_new w (.cells (ecs tick2) 30)
  unfold ecs tick2 at HE hb1
  have HB := Lib.hid hb1
  clear hb1
  go_enter Try.func7, Try.ntmps7
  go_wp2_with fail
  refine HE.mono ?_
  rintro e1 w1 ⟨g, c, q, rfl, hq, hO, hb2⟩
  obtain rfl : q = 19 := hq
  have hlt : ∀ x ∈ [3, 1, 44, 6, 0, 0, 2, 0, 0, 0, 0, 0, 0, 0, 0, 0, 0, 0, 0], x < 256 := by decide
  have hSl := Ob.sl hO hlt
  have c0 : w1.cell? ⟨g, 0, none⟩ = some (.int .u8 3) := hSl.at_ (k := 0) (by omega)
  have c1 : w1.cell? ⟨g, 1, none⟩ = some (.int .u8 1) := hSl.at_ (k := 1) (by omega)
  have c2 : w1.cell? ⟨g, 2, none⟩ = some (.int .u8 44) := hSl.at_ (k := 2) (by omega)
  have c3 : w1.cell? ⟨g, 3, none⟩ = some (.int .u8 6) := hSl.at_ (k := 3) (by omega)
  have c6 : w1.cell? ⟨g, 6, none⟩ = some (.int .u8 2) := hSl.at_ (k := 6) (by omega)
  have HD := decode_good hSl (by omega) (by decide)
  rw [show ((([3, 1, 44, 6, 0, 0, 2, 0, 0, 0, 0, 0, 0, 0, 0, 0, 0, 0, 0] : List Nat).getD 0 0 : Nat) : Int) = 3 from rfl, show ((([3, 1, 44, 6, 0, 0, 2, 0, 0, 0, 0, 0, 0, 0, 0, 0, 0, 0, 0] : List Nat).getD 1 0 * 256 + ([3, 1, 44, 6, 0, 0, 2, 0, 0, 0, 0, 0, 0, 0, 0, 0, 0, 0, 0] : List Nat).getD 2 0 : Nat) : Int) = 300 from rfl] at HD
  have B2 := Lib.hid (next HB.out hb2)
  clear HE HB hO hb2 hSl hlt
  go_wp2_with fail
  refine HD.mono ?_
  rintro e2 w2 ⟨v, l, k, e, rfl, hL, hE, hb3⟩
  obtain ⟨rfl, rfl, rfl⟩ := hE.back (L := [tick2]) (by decide) (by decide) (by decide)
  obtain ⟨g2, cp2, rfl, h1c, h2c, hc⟩ := Ol.at_ elemE.len hL (i := 0) (by simp)
  have x1 : w2.cell? ⟨g2, 1, none⟩ = some (.int .i64 2) := hc 1 (by omega)
  have B3 := Lib.hid (next B2.out hb3)
  clear hL hE hb3 hc HD c0 c1 c2 c3 c6
  simp only [List.length_cons, List.length_nil, Nat.zero_add] at h1c ⊢
  go_wp2_with fail
  go_ret
  exact ⟨rfl, B3.out⟩
end Go.Proofs.Ytnpocnfmekgieaa
