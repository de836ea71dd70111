/-
  DiskActs: whatever number of sectors, and whatever is done to them: each answer, and what each sector holds, are what the statement's own model says; the arguments read as they did. No condition.
-/
import Derived.Test.YtnoolpgklenhaaaDskRow
import Derived.Test.YtnoolpgklenhaaaDskAW
namespace Go.Proofs.Ytnoolpgklenhaaa
open Go.ChangeShapes Go.WideShapes Go.ChangeAt Go.RowKit Go.Joins Go.Deep

set_option maxHeartbeats 4000000 in
set_option maxRecDepth 100000 in
theorem acts_big {w : World} {A2 : Option Addr} {c2 : Nat} {z : Int} {len : Nat} (hlen : 100 < len) (hl2 : len ≤ 9223372036854775807) :
    Calls Try.prog 3 #[.int .i64 z, .slice A2 len c2] w fun e w' => e = .returned (.bool true) ∧ Below w.heap.size w w' := by
  go_enter Try.func3, Try.ntmps3
  go_wp2_with fail
  refine (disk_head _).mono ?_
  rintro e w1 ⟨rfl, hb⟩
  have HB := Lib.hid hb
  clear hb
  go_wp2_with fail
  go_ret
  exact ⟨rfl, HB.out⟩

section
variable {H : Type} {enc : TypeId × Value → H} {w : World} {base : Nat} {spare : Nat → Bool} {hld : Bool}
theorem trod5 {P : Program} {t : TypeId} {f0 f1 f2 f3 f4 : Field} {m : Nat} {cs : List Value} {x : DataW H × List MemPlace} (hs : P.underlying t = some (.struct #[f0, f1, f2, f3, f4])) (hone : oneCellFields P #[f0, f1, f2, f3, f4] = true) (hC : P.cellsOf t = 5)
    (h : DataW.trod enc P w base spare hld m t cs = some x) : ∃ (v0 v1 v2 v3 v4 : Value) (y0 y1 y2 y3 y4 : DataW H × List MemPlace) (n : Nat), cs = [v0, v1, v2, v3, v4] ∧
      DataW.trod enc P w base spare hld n f0.type [v0] = some y0 ∧ DataW.trod enc P w base spare hld n f1.type [v1] = some y1 ∧ DataW.trod enc P w base spare hld n f2.type [v2] = some y2 ∧ DataW.trod enc P w base spare hld n f3.type [v3] = some y3 ∧ DataW.trod enc P w base spare hld n f4.type [v4] = some y4 := by
  obtain ⟨xs, n, _, _, hl, hlen, hg⟩ := DataW.trod_struct hs h
  rw [hC] at hl
  obtain ⟨o0, k0⟩ := hone_of hone 0 f0 rfl
  obtain ⟨o1, k1⟩ := hone_of hone 1 f1 rfl
  obtain ⟨o2, k2⟩ := hone_of hone 2 f2 rfl
  obtain ⟨o3, k3⟩ := hone_of hone 3 f3 rfl
  obtain ⟨o4, k4⟩ := hone_of hone 4 f4 rfl
  match cs, hl with
  | [v0, v1, v2, v3, v4], _ =>
    match xs, hlen with
    | [y0, y1, y2, y3, y4], _ => exact ⟨v0, v1, v2, v3, v4, y0, y1, y2, y3, y4, n, rfl, by simpa [o0, k0] using hg 0 f0 rfl, by simpa [o1, k1] using hg 1 f1 rfl, by simpa [o2, k2] using hg 2 f2 rfl, by simpa [o3, k3] using hg 3 f3 rfl, by simpa [o4, k4] using hg 4 f4 rfl⟩
theorem act_cells : Try.prog.cellsOf 33 = 5 := by kernel_rfl
theorem open_act {n : Nat} {cs : List Value} {x : DataW H × List MemPlace} (h : DataW.trod enc Try.prog w base (fun _ => true) hld n 33 cs = some x) :
    ∃ a : Ac, (-9223372036854775808 ≤ a.I ∧ a.I ≤ 9223372036854775807) ∧ a.ps.length ≤ a.pcap ∧ a.pcap ≤ 9223372036854775807 ∧ PicksAt w a.pA a.ps ∧ cs = [.int .i64 a.kind, .int .i64 a.I, .int .u8 (a.C.toNat : Int), .bool a.odd, .slice a.pA a.ps.length a.pcap] := by
  obtain ⟨v0, v1, v2, v3, v4, y0, y1, y2, y3, y4, m, rfl, g0, g1, g2, g3, g4⟩ := trod5 Try.underlying33 (by kernel_rfl) act_cells h
  obtain ⟨kind, a0, -, -⟩ := DataW.trod_int Try.underlying3 g0
  obtain ⟨I, a1, -, w1⟩ := DataW.trod_int Try.underlying3 g1
  obtain ⟨z, a2, -, w2⟩ := DataW.trod_int Try.underlying5 g2
  obtain ⟨C, rfl⟩ := wf_u8 w2
  obtain ⟨odd, a3, -⟩ := DataW.trod_bool Try.underlying4 g3
  have g4' := g4
  rcases DataW.trod_slice Try.underlying31 g4 with ⟨e4, -⟩ | ⟨a, len, cap, elems, rest, n', _, e4, -⟩
  · simp at a0 a1 a2 a3 e4
    subst a0 a1 a2 a3 e4
    exact ⟨⟨kind, I, C, odd, none, 0, []⟩, wf_i64 w1, by simp, by simp, PicksAt.nil, rfl⟩
  · simp at a0 a1 a2 a3 e4
    subst a0 a1 a2 a3 e4
    obtain ⟨h1, h2, ps, h3, h4⟩ := open_picks (A := some a) (len := len) (cap := cap) (by simpa [Value.cells] using g4')
    subst h3
    exact ⟨⟨kind, I, C, odd, some a, cap, ps⟩, wf_i64 w1, h1, h2, h4, rfl⟩
theorem open_acts {fuel : Nat} {A : Option Addr} {len cap : Nat} {x : DataW H × List MemPlace} (h : DataW.trod enc Try.prog w base (fun _ => true) hld fuel 22 (Value.slice A len cap).cells.toList = some x) :
    len ≤ 9223372036854775807 ∧ ∃ acs : List Ac, acs.length = len ∧ ActsAt w A acs := by
  rcases open_slice Try.underlying22 h with ⟨hcs, -⟩ | ⟨a, len', cap', m, n, D, Pl, hcs, _, hl, hm, hmm, -, hi⟩
  · simp [Value.cells] at hcs
    obtain ⟨rfl, rfl, rfl⟩ := hcs
    exact ⟨by omega, [], rfl, fun j a ha => by simp at ha⟩
  · simp [Value.cells] at hcs
    obtain ⟨rfl, rfl, rfl⟩ := hcs
    simp only [if_true] at hmm
    unfold maxLen at hm
    have hp : ∀ i : Nat, ∃ p : Ac, i < m → ((-9223372036854775808 ≤ p.I ∧ p.I ≤ 9223372036854775807) ∧ p.ps.length ≤ p.pcap ∧ p.pcap ≤ 9223372036854775807 ∧ PicksAt w p.pA p.ps ∧ w.cell? (a.add (i * 5)) = some (.int .i64 p.kind) ∧
        w.cell? (a.add (i * 5 + 1)) = some (.int .i64 p.I) ∧ w.cell? (a.add (i * 5 + 2)) = some (.int .u8 (p.C.toNat : Int)) ∧ w.cell? (a.add (i * 5 + 3)) = some (.bool p.odd) ∧ w.cell? (a.add (i * 5 + 4)) = some (.slice p.pA p.ps.length p.pcap)) := fun i => by
      by_cases him : i < m
      · obtain ⟨cs', hc, ht⟩ := hi i him
        rw [act_cells] at hc
        obtain ⟨_, hcl, hat⟩ := World.cells?_some hc
        obtain ⟨p, h1, h2, h3, h4, rfl⟩ := open_act ht
        refine ⟨p, fun _ => ⟨h1, h2, h3, h4, ?_, ?_, ?_, ?_, ?_⟩⟩
        · have := hat 0 (by omega); rw [add_add] at this; exact this
        · have := hat 1 (by omega); rw [add_add] at this; exact this
        · have := hat 2 (by omega); rw [add_add] at this; exact this
        · have := hat 3 (by omega); rw [add_add] at this; exact this
        · have := hat 4 (by omega); rw [add_add] at this; exact this
      · exact ⟨⟨0, 0, 0, false, none, 0, []⟩, fun h => absurd h him⟩
    obtain ⟨f, hf⟩ := Classical.axiomOfChoice hp
    refine ⟨by omega, (List.range len).map f, by simp, fun j p hj => ?_⟩
    rw [List.getElem?_map] at hj
    have hjl : j < len := by
      rcases Nat.lt_or_ge j len with h' | h'
      · exact h'
      · rw [List.getElem?_eq_none (by simp; omega)] at hj; cases hj
    rw [List.getElem?_range hjl] at hj
    simp at hj
    subst hj
    obtain ⟨h1, h2, h3, h4, h5, h6, h7, h8, h9⟩ := hf j (by omega)
    exact ⟨h1, h2, h3, h4, a, rfl, h5, h6, h7, h8, h9⟩
end

set_option maxRecDepth 100000 in
theorem diskActs_lifted (os : Os) (started : os.Started) (H : Type) (enc : TypeId × Value → H) :
    ReturnsInHanded {} Try.checked os 3 .any (Rows.diskActsSpec.pre6 enc Try.prog Try.f3 Rows.diskActsRow.domain false) (Rows.diskActsSpec.post enc Try.prog Try.f3 false true false false) := by
  refine returnsInHanded_of_change (C := Try.checked) row_own started (by kernel_rfl) Try.func3
    (ChangeSpec.witness6 (enc := enc) (C := Try.checked) false ⟨#[], #[.int .i64 0, .slice none 0 0], []⟩ 8 (by kernel_rfl) (by kernel_rfl) (by kernel_rfl) (by kernel_rfl)) ?_
  intro W base args ds gs before hval0 hW hcnd _
  have hval : ∀ (j : Nat) t v, Try.f3.params[j]? = some t → args[j]? = some v → Value.okWide Try.prog W .any base t v := hval0
  obtain ⟨p, q, hA0, hV, rfl, hfz, hnd⟩ := id hW
  have hA : DataW.TrodAll enc Try.prog W 0 (fun _ => true) true Try.f3.params.toList args.toList ds p := hA0
  rw [Try.params3] at hA hval
  obtain ⟨v0, vs0, d0, ds0, p0, q0, hargs, rfl, rfl, h0, r0⟩ := trodAll_cons hA
  obtain ⟨v1, vs1, d1, ds1, p1, q1, rfl, rfl, rfl, h1, r1⟩ := trodAll_cons r0
  obtain ⟨rfl, rfl, rfl⟩ := trodAll_nil r1
  obtain rfl : args = #[v0, v1] := by cases args; simp_all
  obtain ⟨a1, len1, cap1, rfl⟩ := okWide_slice Try.underlying22 (hval 1 22 v1 rfl rfl)
  obtain ⟨z, rfl⟩ := okWide_int Try.underlying3 (hval 0 3 v0 rfl rfl)
  obtain ⟨fuel1, hf1⟩ := h1
  obtain ⟨m1, acs, rfl, hacs⟩ := open_acts hf1
  have fin : ∀ W' : World, Below W.heap.size W W' → Rows.diskActsSpec.post enc Try.prog Try.f3 false true false false W #[.int .i64 z, .slice a1 acs.length cap1] (.bool true) W' := fun W' hb =>
    law_post row_laidOut (by rw [Try.params3]; decide +kernel) rfl Try.underlying4 rfl rfl hW hb
  by_cases hbig : 100 < acs.length
  · exact (acts_big hbig m1).mono fun e W' ⟨he, hb⟩ => by subst he; exact ⟨_, rfl, fin W' hb⟩
  · exact (acts_any (by omega) hacs).mono fun e W' ⟨he, hb⟩ => by subst he; exact ⟨_, rfl, fin W' hb⟩

theorem diskActs_holds : Rows.DiskActsSaid :=
  OpenClaim.holds_of_wide 3 Try.f3 rfl rfl rfl rfl rfl rfl rfl ⟨rfl, rfl, rfl, rfl, rfl⟩ rfl rfl rfl rfl rfl (by kernel_rfl) Try.func3 (by kernel_rfl)
    (of_decide_eq_true (by kernel_rfl)) (by unfold Func.isWrapper; first | (rw [if_pos (by decide +kernel)]; kernel_rfl) | (rw [if_neg (by decide +kernel)]; exact ⟨rfl, rfl⟩))
    (fun os started H enc _ => diskActs_lifted os started H enc)
#print axioms diskActs_holds
end Go.Proofs.Ytnoolpgklenhaaa
