/-
  RecReads: whatever bytes, with the sum that they have laid behind them or as they are: Of answers a record that can be written and whose sector they are, or none, where there is none; the bytes read as they did. No condition.
-/
import Derived.Test.YtbjminjcccflcaaRecRow
import Derived.Test.YtbjminjcccflcaaRecD
namespace Go.Proofs.Ytbjminjcccflcaa
open Go.ChangeShapes Go.WideShapes Go.ChangeAt Go.RowKit Go.Joins Rm

theorem reads_cells : Try.prog.cellsOf 5 = 1 := by kernel_rfl
theorem wf_u8_nat {z : Int} (h : (Lit.int .u8 z).wf = true) : ∃ c : Nat, c < 256 ∧ z = c := by
  have h1 : IntKind.u8.min = 0 := rfl
  have h2 : IntKind.u8.max = 255 := rfl
  simp only [Lit.wf, Bool.and_eq_true, decide_eq_true_eq] at h
  exact ⟨z.toNat, by omega, by omega⟩
theorem bytesAt_of {W : World} (a : Addr) (len cap : Nat) (zs : List Int) (hl : len ≤ cap) (hm : cap ≤ maxLen) (hz : zs.length = cap)
    (hcell : ∀ i, i < zs.length → W.cell? (a.add i) = some (.int .u8 (zs.getD i 0))) (hwz : ∀ n ∈ zs, (Lit.int .u8 n).wf = true) : BytesAt W (some a) len ((zs.take len).map Int.toNat) := by
  refine ⟨by simp; omega, by omega, fun c hc => ?_, fun k hk => ⟨a, rfl, ?_⟩⟩
  · obtain ⟨z, hz', rfl⟩ := List.mem_map.1 hc
    obtain ⟨d, hd, rfl⟩ := wf_u8_nat (hwz z (List.mem_of_mem_take hz'))
    simpa using hd
  · have hkz : k < zs.length := by omega
    rw [hcell k hkz]
    obtain ⟨d, hd, e⟩ := wf_u8_nat (hwz zs[k] (List.getElem_mem hkz))
    have e1 : zs.getD k 0 = zs[k] := by simp [List.getD, hkz]
    have e2 : ((zs.take len).map Int.toNat).getD k 0 = zs[k].toNat := by simp [List.getD, hk, hkz]
    rw [e1, e2, e]
    rfl

set_option maxRecDepth 100000 in
theorem reads_lifted (os : Os) (started : os.Started) (H : Type) (enc : TypeId × Value → H) :
    ReturnsInHanded {} Try.checked os 4 .any (Rows.recReadsSpec.pre6 enc Try.prog Try.f4 Rows.recReadsRow.domain false) (Rows.recReadsSpec.post enc Try.prog Try.f4 false true false false) := by
  refine returnsInHanded_of_change (C := Try.checked) row_own started (by kernel_rfl) Try.func4
    (ChangeSpec.witness6 (enc := enc) (C := Try.checked) false ⟨#[], #[.slice none 0 0, .bool false], []⟩ 8 (by kernel_rfl) (by kernel_rfl) (by kernel_rfl) (by kernel_rfl)) ?_
  intro W base args ds gs before hval0 hW hcnd _
  have hval : ∀ (j : Nat) t v, Try.f4.params[j]? = some t → args[j]? = some v → Value.okWide Try.prog W .any base t v := hval0
  obtain ⟨p, q, hA0, hV, rfl, hfz, hnd⟩ := id hW
  have hA : DataW.TrodAll enc Try.prog W 0 (fun _ => true) true Try.f4.params.toList args.toList ds p := hA0
  rw [Try.params4] at hA hval
  obtain ⟨v0, vs0, d0, ds0, p0, q0, hargs, rfl, rfl, h0, r0⟩ := trodAll_cons hA
  obtain ⟨v1, vs1, d1, ds1, p1, q1, rfl, rfl, rfl, h1, r1⟩ := trodAll_cons r0
  obtain ⟨rfl, rfl, rfl⟩ := trodAll_nil r1
  obtain rfl : args = #[v0, v1] := by cases args; simp_all
  obtain ⟨a0, len0, cap0, rfl⟩ := okWide_slice Try.underlying32 (hval 0 32 v0 rfl rfl)
  obtain ⟨sealed, rfl, -, -⟩ := open_bool Try.underlying4 (hval 1 4 v1 rfl rfl) h1
  obtain ⟨fuel, hf⟩ := h0
  have reads : ∃ bs, BytesAt W a0 len0 bs ∧ len0 ≤ cap0 ∧ (0 < len0 → ∃ b off, a0 = some ⟨b, off, none⟩) := by
    rcases open_ints Try.underlying32 Try.underlying5 reads_cells hf with ⟨hcs, hx⟩ | ⟨a, len', cap', zs, hcs, _, hl, hm, hz, hx, hcell, hwz⟩
    · simp [Value.cells] at hcs
      obtain ⟨rfl, rfl, rfl⟩ := hcs
      exact ⟨[], ⟨rfl, by unfold maxLen; omega, by simp, fun k hk => absurd hk (by omega)⟩, by omega, fun h => absurd h (by omega)⟩
    · simp [Value.cells] at hcs
      obtain ⟨rfl, rfl, rfl⟩ := hcs
      refine ⟨_, bytesAt_of a len0 cap0 zs hl hm hz hcell hwz, hl, fun h => ?_⟩
      obtain ⟨b, off, spot⟩ := a
      have h0 : 0 < zs.length := by rw [if_pos rfl] at hz; omega
      have hspot : spot = none := by simpa [Addr.add] using World.cell?_spot (hcell 0 h0)
      exact ⟨b, off, by rw [hspot]⟩
  obtain ⟨bs, hbs, hle, hA1⟩ := reads
  refine (reads_any a0 len0 cap0 bs sealed W hbs hle hA1).mono fun e W' ⟨he, hb⟩ => ?_
  subst he
  exact ⟨_, rfl, law_post row_laidOut (by rw [Try.params4]; decide +kernel) rfl Try.underlying4 rfl rfl hW hb⟩

theorem recReads_holds : Rows.RecReadsSaid :=
  OpenClaim.holds_of_wide 4 Try.f4 rfl rfl rfl rfl rfl rfl rfl ⟨rfl, rfl, rfl, rfl, rfl⟩ rfl rfl rfl rfl rfl (by kernel_rfl) Try.func4 (by kernel_rfl)
    (of_decide_eq_true (by kernel_rfl)) (by unfold Func.isWrapper; first | (rw [if_pos (by decide +kernel)]; kernel_rfl) | (rw [if_neg (by decide +kernel)]; exact ⟨rfl, rfl⟩))
    (fun os started H enc _ => reads_lifted os started H enc)
#print axioms recReads_holds
end Go.Proofs.Ytbjminjcccflcaa
