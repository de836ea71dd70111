/-
  SumBits: whatever bytes: sum.Of answers what is left when the bits, one by one, are divided; the bytes read as they did. No condition.
-/
import Derived.Test.YtclfchdgagpahaaRows
import Derived.Test.YtclfchdgagpahaaLaw
import Derived.Test.YtclfchdgagpahaaSumW
import Derived.Lib.SlBytesConst
namespace Go.Proofs.Ytclfchdgagpahaa
open Go.ChangeShapes Go.WideShapes Go.ChangeAt Go.RowKit

theorem cell_lt {W : World} {a : Addr} {v : Value} (h : W.cell? a = some v) : a.block < W.heap.size := by
  rcases Nat.lt_or_ge a.block W.heap.size with h' | h'
  · exact h'
  · simp [World.cell?, Array.getElem?_eq_none h'] at h
theorem BytesAt.below {w w' : World} {A : Option Addr} {n : Nat} {bs : List Nat} (h : BytesAt w A n bs) (hb : Below w.heap.size w w') : BytesAt w' A n bs :=
  ⟨h.1, h.2.1, h.2.2.1, fun k hk => by
    obtain ⟨ad, e, hc⟩ := h.2.2.2 k hk
    exact ⟨ad, e, (hb.cell (cell_lt hc)).trans hc⟩⟩
theorem nine_read (w : World) (v : Array Value) (t : TypeId) (fr : Nat × Nat) (hv : v = #[.int .u8 49, .int .u8 50, .int .u8 51, .int .u8 52, .int .u8 53, .int .u8 54, .int .u8 55, .int .u8 56, .int .u8 57]) :
    BytesAt (w.alloc (.cells v t fr)) (some ⟨w.heap.size, 0, none⟩) 9 [49, 50, 51, 52, 53, 54, 55, 56, 57] := by
  subst hv
  refine ⟨rfl, by unfold maxLen; omega, by decide, fun k hk => ⟨_, rfl, ?_⟩⟩
  have : k = 0 ∨ k = 1 ∨ k = 2 ∨ k = 3 ∨ k = 4 ∨ k = 5 ∨ k = 6 ∨ k = 7 ∨ k = 8 := by omega
  rcases this with rfl | rfl | rfl | rfl | rfl | rfl | rfl | rfl | rfl <;> simp only [Addr.add] <;> exact World.cell?_alloc_mark w _ t fr _

set_option maxHeartbeats 400000 in
theorem sum_head (w : World) : Calls Try.prog 7 #[] w fun e w' => e = .returned (.bool true) ∧ Below w.heap.size w w' := by
  have kc := fun (w : World) (C : Array Value) (n c : Nat) => Lib.run_convert_bytes_const (P := Try.prog) w 22 5 C n c Try.underlying22 Try.underlying5
  go_enter Try.func7, Try.ntmps7
  go_wp2_with fail
  refine (of_any _ _ _ _ _ (nine_read _ _ _ _ rfl)).mono ?_
  rintro e w' ⟨rfl, rfl⟩
  rw [Crc.example1]
  go_wp2
  go_ret
  exact ⟨rfl, (Below.refl _ _).alloc (Nat.le_refl _) _⟩

set_option maxHeartbeats 400000 in
theorem sum_law (A : Option Addr) (n cap : Nat) (bs : List Nat) (w : World) (h : BytesAt w A n bs) :
    Calls Try.prog 3 #[.slice A n cap] w fun e w' => e = .returned (.bool true) ∧ Below w.heap.size w w' := by
  have hn : n ≤ 9223372036854775807 := by have := h.2.1; unfold maxLen at this; omega
  have H := Lib.hid h
  clear h
  go_enter Try.func3, Try.ntmps3
  go_wp2_with fail
  refine (sum_head _).mono ?_
  rintro e w1 ⟨rfl, hb⟩
  have H1 := Lib.hid (H.out.below hb)
  have HB := Lib.hid hb
  clear hb
  by_cases hbig : 300 < n
  · go_wp2_with fail
    go_ret
    exact ⟨rfl, HB.out⟩
  · go_wp2_with fail
    refine (of_any _ _ _ _ _ H1.out).mono ?_
    rintro e w2 ⟨rfl, rfl⟩
    go_wp2_with fail
    refine (ref_any _ _ _ _ _ H1.out).mono ?_
    rintro e w2 ⟨rfl, rfl⟩
    go_wp2
    go_ret
    exact ⟨rfl, HB.out⟩

theorem sum_own : ownKnob Try.prog.godebug = none := by kernel_rfl
theorem sum_laidOut : laidOutB Try.prog = true := by kernel_rfl
theorem sum_cells : Try.prog.cellsOf 5 = 1 := by kernel_rfl

theorem wf_u8_nat {z : Int} (h : (Lit.int .u8 z).wf = true) : ∃ c : Nat, c < 256 ∧ z = c := by
  have h1 : IntKind.u8.min = 0 := rfl
  have h2 : IntKind.u8.max = 255 := rfl
  simp only [Lit.wf, Bool.and_eq_true, decide_eq_true_eq] at h
  exact ⟨z.toNat, by omega, by omega⟩

theorem bytesAt_of {W : World} (a : Addr) (len cap : Nat) (zs : List Int) (hl : len ≤ cap) (hm : cap ≤ maxLen) (hz : zs.length = cap)
    (hcell : ∀ i, i < zs.length → W.cell? (a.add i) = some (.int .u8 (zs.getD i 0))) (hwz : ∀ n ∈ zs, (Lit.int .u8 n).wf = true) : BytesAt W (some a) len ((zs.take len).map Int.toNat) := by
  refine ⟨by simp; omega, by omega, fun c hc => ?_, fun k hk => ⟨a, rfl, ?_⟩⟩
  · obtain ⟨z, hz', rfl⟩ := List.mem_map.1 hc
    obtain ⟨d, hd, rfl⟩ := wf_u8_nat (hwz z (List.mem_of_mem_take hz'))
    simpa using hd
  · have hkz : k < zs.length := by omega
    rw [hcell k hkz]
    obtain ⟨d, hd, e⟩ := wf_u8_nat (hwz zs[k] (List.getElem_mem hkz))
    have e1 : zs.getD k 0 = zs[k] := by simp [List.getD, hkz]
    have e2 : ((zs.take len).map Int.toNat).getD k 0 = zs[k].toNat := by simp [List.getD, hk, hkz]
    rw [e1, e2, e]
    rfl

set_option maxRecDepth 100000 in
theorem sum_lifted (os : Os) (started : os.Started) (H : Type) (enc : TypeId × Value → H) :
    ReturnsInHanded {} Try.checked os 3 .any (Rows.sumBitsSpec.pre6 enc Try.prog Try.f3 Rows.sumBitsRow.domain false) (Rows.sumBitsSpec.post enc Try.prog Try.f3 false true false false) := by
  refine returnsInHanded_of_change (C := Try.checked) sum_own started (by kernel_rfl) Try.func3
    (ChangeSpec.witness6 (enc := enc) (C := Try.checked) false ⟨#[], #[.slice none 0 0], []⟩ 8 (by kernel_rfl) (by kernel_rfl) (by kernel_rfl) (by kernel_rfl)) ?_
  intro W base args ds gs before hval0 hW hcnd _
  have hval : ∀ (j : Nat) t v, Try.f3.params[j]? = some t → args[j]? = some v → Value.okWide Try.prog W .any base t v := hval0
  obtain ⟨p, q, hA0, hV, rfl, hfz, hnd⟩ := id hW
  have hA : DataW.TrodAll enc Try.prog W 0 (fun _ => true) true Try.f3.params.toList args.toList ds p := hA0
  rw [Try.params3] at hA hval
  obtain ⟨v0, d0, rfl, rfl, h0⟩ := trodAll_one hA
  obtain ⟨a0, len0, cap0, rfl⟩ := okWide_slice Try.underlying22 (hval 0 22 v0 rfl rfl)
  have fin : ∀ W' : World, Below W.heap.size W W' → Rows.sumBitsSpec.post enc Try.prog Try.f3 false true false false W #[.slice a0 len0 cap0] (.bool true) W' := fun W' hb =>
    law_post sum_laidOut (by rw [Try.params3]; decide +kernel) rfl Try.underlying4 rfl rfl hW hb
  obtain ⟨fuel, hf⟩ := h0
  have reads : ∃ bs, BytesAt W a0 len0 bs := by
    rcases open_ints Try.underlying22 Try.underlying5 sum_cells hf with ⟨hcs, hx⟩ | ⟨a, len', cap', zs, hcs, _, hl, hm, hz, hx, hcell, hwz⟩
    · simp [Value.cells] at hcs
      obtain ⟨rfl, rfl, rfl⟩ := hcs
      exact ⟨[], rfl, by unfold maxLen; omega, by simp, fun k hk => absurd hk (by omega)⟩
    · simp [Value.cells] at hcs
      obtain ⟨rfl, rfl, rfl⟩ := hcs
      exact ⟨_, bytesAt_of a len0 cap0 zs hl hm hz hcell hwz⟩
  obtain ⟨bs, hbs⟩ := reads
  refine (sum_law a0 len0 cap0 bs W hbs).mono fun e W' ⟨he, hb⟩ => ?_
  subst he
  exact ⟨_, rfl, fin W' hb⟩

theorem sumBits_holds : Rows.SumBitsSaid :=
  OpenClaim.holds_of_wide 3 Try.f3 rfl rfl rfl rfl rfl rfl rfl ⟨rfl, rfl, rfl, rfl, rfl⟩ rfl rfl rfl rfl rfl (by kernel_rfl) Try.func3 (by kernel_rfl)
    (of_decide_eq_true (by kernel_rfl)) (by unfold Func.isWrapper; first | (rw [if_pos (by decide +kernel)]; kernel_rfl) | (rw [if_neg (by decide +kernel)]; exact ⟨rfl, rfl⟩))
    (fun os started H enc _ => sum_lifted os started H enc)
#print axioms sumBits_holds
end Go.Proofs.Ytclfchdgagpahaa
