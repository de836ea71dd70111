/-
  TlvCuts' walk.
-/
import Derived.Test.YtpdbaediepofjaaTlvK
import Derived.Test.YtpdbaediepofjaaTlvRow
import Derived.Laws.OwnMore
namespace Go.Proofs.Ytpdbaediepofjaa
open Go.RowKit Tm

theorem run_lb_none {B : Nat} {v : Value} {bs : List Nat} {W : World} (h : Lb B v bs W) (A : Option Addr) (c : Nat) (ty : TypeId) :
    (Builtin.append_ #[35, 35] ty #[v, .slice A 0 c]).run Try.prog W = .ok v W := by
  obtain ⟨i0, hi, hz0, hz1, hz2⟩ := info_parts byte_parts
  have ht : Try.prog.underlying 35 = some (.slice 5) := by kernel_rfl
  have hl : ∀ (a : Addr) (W : World), (loadCells a 0).run Try.prog W = .ok #[] W := fun a W => by simp [loadCells, loadCellsFrom]
  have hs : ∀ (a : Addr) (W : World), (storeCells a []).run Try.prog W = .ok () W := fun a W => by simp [storeCells]
  rcases h.2 with ⟨rfl, h0⟩ | ⟨g, cap, cur, rfl, _, _, hnc, _⟩
  · cases A <;> simp [Builtin.append_, run_underlying ht, sizeOf, typeInfo, hi, Builtin.lenOf, Builtin.firstCells, hl]
  · cases A <;> simp [Builtin.append_, run_underlying ht, sizeOf, typeInfo, hi, Builtin.lenOf, Builtin.firstCells, hnc, hl, hs]

theorem pages_count : ∀ (l : List Up) (cur : List Nat) (id : Nat), (pages cur id l).length ≤ l.length + 1
  | [], cur, id => by rw [pages]; split <;> simp
  | u :: r, cur, id => by
    rw [pages]
    have h1 := pages_count r cur id
    have h2 := pages_count r (parts u 0) u.id
    have h3 := pages_count r (cur ++ parts u id) u.id
    split
    · simp; omega
    · split
      · simp; omega
      · simp; omega
theorem encode_count (l : List Up) : (Tm.encode l).length ≤ l.length + 1 := by unfold Tm.encode; rw [List.length_map]; exact pages_count l [] 0
theorem encode_some {us : List Up} (hf : ∀ u ∈ us, u.Fits) : ∀ p ∈ Tm.encode us, ∃ l, Tm.decode p = some l := by
  intro p hp
  obtain ⟨L, h1, -⟩ := encode_back us hf
  have : Tm.decode p ∈ (Tm.encode us).map Tm.decode := List.mem_map.2 ⟨p, hp, rfl⟩
  rw [h1] at this
  obtain ⟨l, _, e⟩ := List.mem_map.1 this
  exact ⟨l, e.symm⟩
/-- a datagram with more behind, as the statement makes it -/
theorem more_any {w : World} {gi ci q n' cap' : Nat} {A' : Option Addr} {P ms : List Nat} (hO : Ob w gi ci P) (hq : q = P.length) (hq0 : 0 < q) (hPb : ∀ c ∈ P, c < 256) (hq1 : q ≤ 1024) (h' : Sl w A' n' cap' ms) (h60 : n' ≤ 60) :
    ∃ g1 cap1 W4 g2 cap2 W5 q2, (Builtin.append_ #[35, 35] 35 #[.slice (some ⟨w.heap.size, 0, none⟩) 0 0, .slice (some ⟨gi, 0, none⟩) q ci]).run Try.prog (w.alloc (.cells #[] 5)) = .ok (.slice (some ⟨g1, 0, none⟩) q cap1) W4 ∧
      (Builtin.append_ #[35, 35] 35 #[.slice (some ⟨g1, 0, none⟩) q cap1, .slice A' n' cap']).run Try.prog W4 = .ok (.slice (some ⟨g2, 0, none⟩) q2 cap2) W5 ∧
      Sl W5 (some ⟨g2, 0, none⟩) q2 cap2 (P ++ ms) ∧ Below w.heap.size w W5 := by
  have hN : Ob (w.alloc (.cells #[] 5)) w.heap.size 0 [] := ⟨#[], Blk.new w _ _, rfl, Nat.le_refl _, by unfold maxLen; omega, rfl⟩
  have hb := below_new w (.cells #[] 5)
  have hx := (hO.held hb).bytes hPb (by omega)
  rw [← hq] at hx
  obtain ⟨g1, cap1, W4, hr1, hO1, hg1, hB1, -⟩ := run_lb (Lb.of_ob hN (Nat.le_refl _)) hb.size hx hq0 (by simp; omega) ci 35
  have hb1 := hb.grown hg1 hb.size (fun k e => by cases e; exact Nat.le_refl _)
  have hO1' : Ob W4 g1 cap1 P := hO1
  have hms := h'.held hb1
  have hml := h'.bytes.1
  have hmb := h'.bytes.2.2.1
  have hL1 := Lb.of_ob hO1' hB1
  rw [← hq] at hL1
  simp only [List.length_nil, Nat.zero_add] at hr1
  by_cases h0 : n' = 0
  · subst h0
    have e : ms = [] := List.length_eq_zero_iff.1 hml
    subst e
    refine ⟨g1, cap1, W4, g1, cap1, W4, q, hr1, run_lb_none hL1 A' cap' _, ?_, hb1⟩
    rw [List.append_nil, hq]
    exact hO1'.sl hPb (by omega)
  · obtain ⟨g2, cap2, W5, hr2, hO2, hg2, hB2, -⟩ := run_lb hL1 hb1.size hms.bytes (by omega) (by omega) cap' 35
    rw [← hq] at hr2
    refine ⟨g1, cap1, W4, g2, cap2, W5, q + n', hr1, hr2, ?_, hb1.grown hg2 hb1.size (fun k e => by cases e; exact hB1)⟩
    have hl : q + n' = (P ++ ms).length := by rw [List.length_append, hml, hq]
    rw [hl]
    exact hO2.sl (fun c hc => by rcases List.mem_append.1 hc with h | h; exact hPb c h; exact hmb c h) (by omega)

set_option maxRecDepth 100000 in
set_option maxHeartbeats 8000000 in
theorem cuts_any {A A' : Option Addr} {n n' cap cap' : Nat} {us : List Up} {ms : List Nat} {w : World} (cut : Int) (h : Ulw w A n cap us) (h' : Sl w A' n' cap' ms) :
    Calls Try.prog 5 #[.slice A n cap, .int .i64 cut, .slice A' n' cap'] w fun e w' => e = .returned (.bool true) ∧ Below w.heap.size w w' := by
  have hn := h.len
  have hmx := h.max
  have hmx' := h'.bytes.2.1
  unfold maxLen at hmx hmx'
  have H := Lib.hid (And.intro h h')
  clear h h'
  by_cases h40 : n ≤ 40
  · by_cases h60 : n' ≤ 60
    · go_enter Try.func5, Try.ntmps5
      go_wp2_with fail
      refine (head_any _).mono ?_
      rintro e w1 ⟨rfl, hb1⟩
      have EN := encode_any ((H.out.1.ul (by omega)).held hb1)
      go_wp2_with fail
      refine EN.mono ?_
      rintro e W ⟨v, rfl, hL, hB⟩
      have hf := encode_fine us
      have hso := encode_some H.out.1.fits
      have hcnt := encode_count us
      generalize Tm.encode us = rows at *
      obtain ⟨p, cp, rfl, hcp⟩ := hL.form
      obtain ⟨nr, hnr⟩ : ∃ nr, nr = rows.length := ⟨_, rfl⟩
      rw [← hnr] at hcp ⊢
      have hnrs : nr ≤ 100000 := by omega
      clear hcnt
      have Z := Lib.hid (And.intro hL (And.intro hB (And.intro hf (And.intro hnr (And.intro hb1 (And.intro hcp hso))))))
      clear hL hB hf hnr hb1 hcp hso EN
      go_wp2_with fail
      go_loopw [26] (fun k wr => ∃ i : Nat, k = .int .i64 i ∧ i ≤ nr ∧ Below W.heap.size W wr) (fun k _ => nr - (intOf k).toNat)
      case atStart => exact ⟨0, rfl, by omega, Below.refl _ _⟩
      case round =>
        obtain ⟨i, rfl, hi, hB⟩ := hrel
        by_cases hlt : i < nr
        · obtain ⟨hL, -, hf, hnr, -, -, hso⟩ := Z.out
          have hil : i < rows.length := by omega
          obtain ⟨gb, cp2, gi, ci, hv, k0, hO, -, -⟩ := (hL.held hB).inplace (i := i) hil
          have hp : rows.getD i [] = rows[i] := by simp [List.getD, hil]
          rw [hp] at k0 hO
          obtain ⟨hp4, hp1024, hpb, b, hpe, hb1024⟩ := hf rows[i] (List.getElem_mem hil)
          obtain ⟨us', hdec⟩ := hso rows[i] (List.getElem_mem hil)
          generalize rows[i] = P at *
          cases hv
          have hS := hO.sl hpb (by omega)
          obtain ⟨q, hq⟩ : ∃ q, q = P.length := ⟨_, rfl⟩
          rw [← hq] at k0 hS
          have hqc := hS.cap
          obtain ⟨uc, huc⟩ : ∃ uc : Nat, IntKind.u64.wrap cut = (uc : Int) := ⟨(IntKind.u64.wrap cut).toNat, by simp [IntKind.wrap, IntKind.bits, IntKind.signed]; omega⟩
          have huq : IntKind.u64.wrap (q : Int) = (q : Int) := by simp [IntKind.wrap, IntKind.bits, IntKind.signed]; omega
          obtain ⟨r, hr⟩ : ∃ r, r = uc % q := ⟨_, rfl⟩
          have hrq : r < q := by rw [hr]; exact Nat.mod_lt _ (by omega)
          have hrm : (uc : Int).tmod (q : Int) = (r : Int) := by rw [hr]; rfl
          have hr1 : IntKind.u64.wrap (r : Int) = (r : Int) := by simp [IntKind.wrap, IntKind.bits, IntKind.signed]; omega
          have hr2 : IntKind.i64.wrap (r : Int) = (r : Int) := by rw [IntKind.wrap_i64]; omega
          have hq0 : ((q : Int) == 0) = false := by simp; omega
          have hSp := hS.part 0 r (by omega)
          rw [List.drop_zero, Nat.add_zero, Nat.sub_zero] at hSp
          have s1 : ∀ W : World, (Instr.slice 35 (.slice (some ⟨gi, 0, none⟩) q ci) none (some (.int .i64 (r : Int))) none).run Try.prog W = .ok (.slice (some ⟨gi, 0, none⟩) r ci) W := fun W => cut_high_run gi 0 q ci r (by omega) W rfl (by omega)
          have D1 := decode_any hSp (D := none) (by rw [hpe]; exact cut_none hb1024 (by rw [← page_length, ← hpe]; omega))
          have Y := Lib.hid (And.intro hB (And.intro hO (And.intro hq (And.intro hpe (And.intro hpb (And.intro hb1024 hdec))))))
          clear hdec hso hL hf hnr hB hO hp hp4 hq hpe hpb hb1024 hS hSp hil hr
          go_wp2_with fail
          refine D1.mono ?_
          rintro e w2 ⟨hb2, hD⟩
          rcases hD with ⟨-, rfl⟩ | ⟨_, _, h, -⟩
          · clear D1 s1 huc hrm hr1 hr2 k0
            obtain ⟨hB, hO, hq, hpe, hpb, hb1024, hdec⟩ := Y.out
            have hb3 := next (next Z.out.2.2.2.2.1 Z.out.2.1) (next hB hb2)
            have hB2 := next hB hb2
            obtain ⟨g1, cap1, W4, g2, cap2, W5, q2, hr1, hr2, hS5, hb5⟩ := more_any (hO.held hb2) hq (by omega) hpb (by omega) (H.out.2.held hb3) h60
            have hms := H.out.2.bytes.1
            have hB5 := next hB2 hb5
            have hmore : n' ≠ 0 → Tm.decode (P ++ ms) = none := fun h => by rw [hpe]; exact more_none hb1024 (fun e => by rw [e] at hms; simp at hms; omega)
            have hzero : n' = 0 → Tm.decode (P ++ ms) = some us' := fun h => by
              have e : ms = [] := List.length_eq_zero_iff.1 (by omega)
              rw [e, List.append_nil]; exact hdec
            have D2 := decode_any hS5 rfl
            have V := Lib.hid (And.intro hB5 (And.intro hmore hzero))
            clear hB hO hq hpe hpb hb1024 hdec hb3 hB2 hS5 hb5 hms hB5 hmore hzero Y hb2 hp1024
            go_wp2_with (first
              | (at_builtin; refine Lib.wpList_append_run _ rfl (.tmp 44) (.tmp 45) 35 35 rfl _ _ rfl rfl _ _ hr1 ?_)
              | (at_builtin; refine Lib.wpList_append_run _ rfl (.tmp 46) (.tmp 47) 35 35 rfl _ _ rfl rfl _ _ hr2 ?_)
              | fail)
            refine D2.mono ?_
            rintro e w6 ⟨hb6, hD⟩
            clear D2 hr1 hr2
            have e3 : IntKind.i64.wrap ((i : Int) + 1) = ((i + 1 : Nat) : Int) := by rw [IntKind.wrap_i64]; omega
            by_cases h0 : n' = 0
            · rcases hD with ⟨h, -⟩ | ⟨_, v6, -, rfl, hLu⟩
              · rw [V.out.2.2 h0] at h; cases h
              · obtain ⟨p6, cp6, rfl, -⟩ := hLu.form
                have R5 := Lib.hid (next V.out.1 hb6)
                have hz0 : ((n' : Int) == 0) = true := by simp; omega
                clear V hb6 hLu h0
                go_wp2_with fail
                go_roundw
                case rel => exact ⟨i + 1, by rfl, by omega, R5.out⟩
                case measure => simp only [intOf]; omega
            · rcases hD with ⟨-, rfl⟩ | ⟨_, v6, h, -⟩
              · have R5 := Lib.hid (next V.out.1 hb6)
                have hz0 : ((n' : Int) == 0) = false := by simp; omega
                clear V hb6 h0
                go_wp2_with fail
                go_roundw
                case rel => exact ⟨i + 1, by rfl, by omega, R5.out⟩
                case measure => simp only [intOf]; omega
              · rw [V.out.2.1 h0] at h; cases h
          · cases h
        · have V := Lib.hid (next (next Z.out.2.2.2.2.1 Z.out.2.1) hB)
          clear hB
          go_wp2_with fail
          go_ret
          exact ⟨rfl, V.out⟩
    · go_enter Try.func5, Try.ntmps5
      go_wp2_with fail
      refine (head_any _).mono ?_
      rintro e w1 ⟨rfl, hb1⟩
      have V := Lib.hid hb1
      clear hb1
      go_wp2_with fail
      go_ret
      exact ⟨rfl, V.out⟩
  · go_enter Try.func5, Try.ntmps5
    go_wp2_with fail
    refine (head_any _).mono ?_
    rintro e w1 ⟨rfl, hb1⟩
    have V := Lib.hid hb1
    clear hb1
    go_wp2_with fail
    go_ret
    exact ⟨rfl, V.out⟩
end Go.Proofs.Ytpdbaediepofjaa
