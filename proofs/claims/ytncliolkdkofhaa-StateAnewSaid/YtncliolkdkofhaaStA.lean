/-
  Package state: setting an entry, and Apply.
-/
import Derived.Test.YtncliolkdkofhaaStS
import Derived.WalkSpells
namespace Go.Proofs.Ytncliolkdkofhaa
open Go.RowKit

set_option maxHeartbeats 1000000 in
theorem set_own {T : TypeId} {cs : Array Value} {w : World} {d j : Nat} {r : Option Nat} {n : Nat} {f : Pk → Option Value} (hd : Blk T w d cs) (hj : cs[j]? = some (.map r)) (hm : Mo pkE w r n f) (hne : ∀ b, r = some b → d ≠ b) (hn : n < maxLen) (k : Pk) (hk : k.ok) (v : Bool) :
    Calls Try.prog 19 #[.pointer (some ⟨d, j, none⟩), k.enc, .agg #[.bool v]] w fun e w' => e = .returned (.tuple #[]) ∧ ∃ b n', Blk T w' d (cs.setIfInBounds j (.map (some b))) ∧ Mk pkE w' b n' (upd f k (.agg #[.bool v])) ∧ n' ≤ n + 1 ∧ Turn (d :: r.toList) w w' ∧ (r = some b ∨ w.heap.size ≤ b) := by
  have hcell : w.cell? ⟨d, j, none⟩ = some (.map r) := (hd.at_ j).trans hj
  have hfr := hd.free j
  have hlt := hd.lt
  obtain ⟨ka, kn⟩ := k
  show Calls _ _ #[_, .agg #[.int .u32 ka, .int .i64 kn], _] _ _
  have KV := Lib.hid (And.intro hd hm)
  clear hm hd
  have q : ∀ (w : World) (r : Option Nat), (binOp .eql 56 (.map r) (.map none)).run Try.prog w = .ok (.bool r.isNone) w := fun w r => run_eql_map_nil w _ _ _ r Try.underlying56
  cases r with
  | none =>
    go_enter Try.func19, Try.ntmps19
    have hmm := @run_makeMap Try.prog
    have f3 := (((KV.out.1.more (.cells #[.int .u32 ka, .int .i64 kn] 32)).more (.cells #[.bool v] 61)).more (.map #[] 0)).free j
    have k3 := held (next (next (below_new w (.cells #[.int .u32 ka, .int .i64 kn] 32)) (below_new _ (.cells #[.bool v] 61))) (below_new _ (.map #[] 0))) hcell
    go_wp2_with fail
    obtain ⟨hd, rfl, hf0⟩ := KV.out
    obtain rfl : f = fun _ => none := funext hf0
    have HB : Blk T (((((w.alloc (.cells #[.int .u32 ka, .int .i64 kn] 32)).alloc (.cells #[.bool v] 61)).alloc (.map #[] 0))).setCell ⟨d, j, none⟩ (.map (some (w.heap.size + 1 + 1)))) d (cs.setIfInBounds j (.map (some (w.heap.size + 1 + 1)))) := (((hd.more _).more _).more _).store j _
    have gne : w.heap.size + 1 + 1 ≠ d := by omega
    have HM : Mk pkE (((((w.alloc (.cells #[.int .u32 ka, .int .i64 kn] 32)).alloc (.cells #[.bool v] 61)).alloc (.map #[] 0))).setCell ⟨d, j, none⟩ (.map (some (w.heap.size + 1 + 1)))) (w.heap.size + 1 + 1) 0 (fun _ => none) := by
      have h0 := Mk.new pkE ((w.alloc (.cells #[.int .u32 ka, .int .i64 kn] 32)).alloc (.cells #[.bool v] 61))
      rw [size_new, size_new] at h0
      exact h0.of_block (Below.heap_setCell _ _ _ _ gne)
    have KB : Blk 32 (((((w.alloc (.cells #[.int .u32 ka, .int .i64 kn] 32)).alloc (.cells #[.bool v] 61)).alloc (.map #[] 0))).setCell ⟨d, j, none⟩ (.map (some (w.heap.size + 1 + 1)))) w.heap.size #[.int .u32 ka, .int .i64 kn] := (((Blk.new w 32 #[.int .u32 ka, .int .i64 kn]).more _).more _).away (p := ⟨d, j, none⟩) (by show w.heap.size ≠ d; omega) _
    have VB : Blk 61 (((((w.alloc (.cells #[.int .u32 ka, .int .i64 kn] 32)).alloc (.cells #[.bool v] 61)).alloc (.map #[] 0))).setCell ⟨d, j, none⟩ (.map (some (w.heap.size + 1 + 1)))) (w.heap.size + 1) #[.bool v] := by
      have h0 := Blk.new (w.alloc (.cells #[.int .u32 ka, .int .i64 kn] 32)) 61 #[.bool v]
      rw [size_new] at h0
      exact (h0.more _).away (p := ⟨d, j, none⟩) (by show w.heap.size + 1 ≠ d; omega) _
    have HT : Turn [d] w (((((w.alloc (.cells #[.int .u32 ka, .int .i64 kn] 32)).alloc (.cells #[.bool v] 61)).alloc (.map #[] 0))).setCell ⟨d, j, none⟩ (.map (some (w.heap.size + 1 + 1)))) := ((((Turn.refl [d] w).alloc _).alloc _).alloc _).trans (Turn.setCell _ (p := ⟨d, j, none⟩) (by simp) _)
    have hjs : j < cs.size := by
      rcases Nat.lt_or_ge j cs.size with h | h
      · exact h
      · rw [Array.getElem?_eq_none h] at hj; cases hj
    generalize (((((w.alloc (.cells #[.int .u32 ka, .int .i64 kn] 32)).alloc (.cells #[.bool v] 61)).alloc (.map #[] 0))).setCell ⟨d, j, none⟩ (.map (some (w.heap.size + 1 + 1)))) = W at *
    have hW : W.cell? ⟨d, j, none⟩ = some (.map (some (w.heap.size + 1 + 1))) := (HB.at_ j).trans (by simp [hjs])
    obtain ⟨w4, hu, hM4, hg4, -⟩ := (HM.of_block (w' := W.drew) rfl).store (t := 56) (e := 61) (by kernel_rfl) hn (i := ⟨ka, kn⟩) hk (.agg #[.bool v])
    have hu : (Instr.mapUpdate 56 (.map (some (w.heap.size + 1 + 1))) (.agg #[.int .u32 ka, .int .i64 kn]) (.agg #[.bool v])).run Try.prog W.drew = .ok () w4 := hu
    have k0 := KB.at_ 0
    have k1 := KB.at_ 1
    have v0 := VB.at_ 0
    have HT4 : Turn [d] w w4 := HT.drew.fresh (Turn.of_grown hg4 (List.mem_singleton.2 rfl)) (by omega)
    have HB4 := HB.drew.turn (Turn.of_grown hg4 (List.mem_singleton.2 rfl)) (by simp; omega)
    have Z := Lib.hid (And.intro HB4 (And.intro hM4 HT4))
    clear HB4 hM4 HT4 hg4 HT HM HB KB VB KV hd hf0 k3 f3 hcell hfr q hmm
    go_region
    all_goals
      refine bodyPost_end (v := .tuple #[]) (results_none rfl _ _ _) rfl ?_
      refine ⟨rfl, _, _, Z.out.1, Z.out.2.1, ?_, Z.out.2.2, .inr (by omega)⟩
      split <;> omega
  | some b =>
    go_enter Try.func19, Try.ntmps19
    have k2 := held (next (below_new w (.cells #[.int .u32 ka, .int .i64 kn] 32)) (below_new _ (.cells #[.bool v] 61))) hcell
    go_wp2_with fail
    obtain ⟨hd, hm⟩ := KV.out
    have hm : Mk pkE w b n f := hm
    have hdb := hne b rfl
    have HB : Blk T ((w.alloc (.cells #[.int .u32 ka, .int .i64 kn] 32)).alloc (.cells #[.bool v] 61)) d cs := (hd.more _).more _
    have HM : Mk pkE ((w.alloc (.cells #[.int .u32 ka, .int .i64 kn] 32)).alloc (.cells #[.bool v] 61)) b n f := hm.held (next (below_new _ _) (below_new _ _))
    have KB : Blk 32 ((w.alloc (.cells #[.int .u32 ka, .int .i64 kn] 32)).alloc (.cells #[.bool v] 61)) w.heap.size #[.int .u32 ka, .int .i64 kn] := (Blk.new w 32 #[.int .u32 ka, .int .i64 kn]).more _
    have VB : Blk 61 ((w.alloc (.cells #[.int .u32 ka, .int .i64 kn] 32)).alloc (.cells #[.bool v] 61)) (w.heap.size + 1) #[.bool v] := by
      have h0 := Blk.new (w.alloc (.cells #[.int .u32 ka, .int .i64 kn] 32)) 61 #[.bool v]
      rw [size_new] at h0
      exact h0
    have HT : Turn [d, b] w ((w.alloc (.cells #[.int .u32 ka, .int .i64 kn] 32)).alloc (.cells #[.bool v] 61)) := ((Turn.refl _ w).alloc _).alloc _
    generalize ((w.alloc (.cells #[.int .u32 ka, .int .i64 kn] 32)).alloc (.cells #[.bool v] 61)) = W at *
    obtain ⟨w4, hu, hM4, hg4, -⟩ := (HM.of_block (w' := W.drew) rfl).store (t := 56) (e := 61) (by kernel_rfl) hn (i := ⟨ka, kn⟩) hk (.agg #[.bool v])
    have hu : (Instr.mapUpdate 56 (.map (some b)) (.agg #[.int .u32 ka, .int .i64 kn]) (.agg #[.bool v])).run Try.prog W.drew = .ok () w4 := hu
    have k0 := KB.at_ 0
    have k1 := KB.at_ 1
    have v0 := VB.at_ 0
    have HT4 : Turn [d, b] w w4 := HT.drew.trans (Turn.of_grown hg4 (by simp))
    have HB4 := HB.drew.turn (Turn.of_grown hg4 (List.mem_singleton.2 rfl)) (by simpa using hdb)
    have hset : cs.setIfInBounds j (.map (some b)) = cs := by
      apply Array.ext (by simp)
      intro i h1 h2
      simp only [Array.getElem_setIfInBounds h2]
      split
      · next e =>
        subst e
        rw [Array.getElem?_eq_getElem h2] at hj
        exact (Option.some.inj hj).symm
      · rfl
    rw [← hset] at HB4
    have Z := Lib.hid (And.intro HB4 (And.intro hM4 HT4))
    clear HB4 hM4 HT4 hg4 HT HM HB KB VB KV hd hm hcell hfr q hset
    go_region
    all_goals
      refine bodyPost_end (v := .tuple #[]) (results_none rfl _ _ _) rfl ?_
      refine ⟨rfl, _, _, Z.out.1, Z.out.2.1, ?_, Z.out.2.2, .inl rfl⟩
      split <;> omega

set_option maxHeartbeats 1000000 in
theorem set_floor {T : TypeId} {cs : Array Value} {w : World} {d j : Nat} {r : Option Nat} {n : Nat} {f : Ky → Option Value} (hd : Blk T w d cs) (hj : cs[j]? = some (.map r)) (hm : Mo kyE w r n f) (hne : ∀ b, r = some b → d ≠ b) (hn : n < maxLen) (k : Ky) (hk : k.ok) (s x : Nat) :
    Calls Try.prog 21 #[.pointer (some ⟨d, j, none⟩), k.enc, .agg #[.int .u32 s, .int .u16 x]] w fun e w' => e = .returned (.tuple #[]) ∧ ∃ b n', Blk T w' d (cs.setIfInBounds j (.map (some b))) ∧ Mk kyE w' b n' (upd f k (.agg #[.int .u32 s, .int .u16 x])) ∧ n' ≤ n + 1 ∧ Turn (d :: r.toList) w w' ∧ (r = some b ∨ w.heap.size ≤ b) := by
  have hcell : w.cell? ⟨d, j, none⟩ = some (.map r) := (hd.at_ j).trans hj
  have hfr := hd.free j
  have hlt := hd.lt
  obtain ⟨ka, kn, kid⟩ := k
  show Calls _ _ #[_, .agg #[.int .u32 ka, .int .i64 kn, .int .u32 kid], _] _ _
  have KV := Lib.hid (And.intro hd hm)
  clear hm hd
  have q : ∀ (w : World) (r : Option Nat), (binOp .eql 49 (.map r) (.map none)).run Try.prog w = .ok (.bool r.isNone) w := fun w r => run_eql_map_nil w _ _ _ r Try.underlying49
  cases r with
  | none =>
    go_enter Try.func21, Try.ntmps21
    have hmm := @run_makeMap Try.prog
    have f3 := (((KV.out.1.more (.cells #[.int .u32 ka, .int .i64 kn, .int .u32 kid] 45)).more (.cells #[.int .u32 s, .int .u16 x] 35)).more (.map #[] 0)).free j
    have k3 := held (next (next (below_new w (.cells #[.int .u32 ka, .int .i64 kn, .int .u32 kid] 45)) (below_new _ (.cells #[.int .u32 s, .int .u16 x] 35))) (below_new _ (.map #[] 0))) hcell
    go_wp2_with fail
    obtain ⟨hd, rfl, hf0⟩ := KV.out
    obtain rfl : f = fun _ => none := funext hf0
    have HB : Blk T (((((w.alloc (.cells #[.int .u32 ka, .int .i64 kn, .int .u32 kid] 45)).alloc (.cells #[.int .u32 s, .int .u16 x] 35)).alloc (.map #[] 0))).setCell ⟨d, j, none⟩ (.map (some (w.heap.size + 1 + 1)))) d (cs.setIfInBounds j (.map (some (w.heap.size + 1 + 1)))) := (((hd.more _).more _).more _).store j _
    have gne : w.heap.size + 1 + 1 ≠ d := by omega
    have HM : Mk kyE (((((w.alloc (.cells #[.int .u32 ka, .int .i64 kn, .int .u32 kid] 45)).alloc (.cells #[.int .u32 s, .int .u16 x] 35)).alloc (.map #[] 0))).setCell ⟨d, j, none⟩ (.map (some (w.heap.size + 1 + 1)))) (w.heap.size + 1 + 1) 0 (fun _ => none) := by
      have h0 := Mk.new kyE ((w.alloc (.cells #[.int .u32 ka, .int .i64 kn, .int .u32 kid] 45)).alloc (.cells #[.int .u32 s, .int .u16 x] 35))
      rw [size_new, size_new] at h0
      exact h0.of_block (Below.heap_setCell _ _ _ _ gne)
    have KB : Blk 45 (((((w.alloc (.cells #[.int .u32 ka, .int .i64 kn, .int .u32 kid] 45)).alloc (.cells #[.int .u32 s, .int .u16 x] 35)).alloc (.map #[] 0))).setCell ⟨d, j, none⟩ (.map (some (w.heap.size + 1 + 1)))) w.heap.size #[.int .u32 ka, .int .i64 kn, .int .u32 kid] := (((Blk.new w 45 #[.int .u32 ka, .int .i64 kn, .int .u32 kid]).more _).more _).away (p := ⟨d, j, none⟩) (by show w.heap.size ≠ d; omega) _
    have VB : Blk 35 (((((w.alloc (.cells #[.int .u32 ka, .int .i64 kn, .int .u32 kid] 45)).alloc (.cells #[.int .u32 s, .int .u16 x] 35)).alloc (.map #[] 0))).setCell ⟨d, j, none⟩ (.map (some (w.heap.size + 1 + 1)))) (w.heap.size + 1) #[.int .u32 s, .int .u16 x] := by
      have h0 := Blk.new (w.alloc (.cells #[.int .u32 ka, .int .i64 kn, .int .u32 kid] 45)) 35 #[.int .u32 s, .int .u16 x]
      rw [size_new] at h0
      exact (h0.more _).away (p := ⟨d, j, none⟩) (by show w.heap.size + 1 ≠ d; omega) _
    have HT : Turn [d] w (((((w.alloc (.cells #[.int .u32 ka, .int .i64 kn, .int .u32 kid] 45)).alloc (.cells #[.int .u32 s, .int .u16 x] 35)).alloc (.map #[] 0))).setCell ⟨d, j, none⟩ (.map (some (w.heap.size + 1 + 1)))) := ((((Turn.refl [d] w).alloc _).alloc _).alloc _).trans (Turn.setCell _ (p := ⟨d, j, none⟩) (by simp) _)
    have hjs : j < cs.size := by
      rcases Nat.lt_or_ge j cs.size with h | h
      · exact h
      · rw [Array.getElem?_eq_none h] at hj; cases hj
    generalize (((((w.alloc (.cells #[.int .u32 ka, .int .i64 kn, .int .u32 kid] 45)).alloc (.cells #[.int .u32 s, .int .u16 x] 35)).alloc (.map #[] 0))).setCell ⟨d, j, none⟩ (.map (some (w.heap.size + 1 + 1)))) = W at *
    have hW : W.cell? ⟨d, j, none⟩ = some (.map (some (w.heap.size + 1 + 1))) := (HB.at_ j).trans (by simp [hjs])
    obtain ⟨w4, hu, hM4, hg4, -⟩ := (HM.of_block (w' := W.drew) rfl).store (t := 49) (e := 35) (by kernel_rfl) hn (i := ⟨ka, kn, kid⟩) hk (.agg #[.int .u32 s, .int .u16 x])
    have hu : (Instr.mapUpdate 49 (.map (some (w.heap.size + 1 + 1))) (.agg #[.int .u32 ka, .int .i64 kn, .int .u32 kid]) (.agg #[.int .u32 s, .int .u16 x])).run Try.prog W.drew = .ok () w4 := hu
    have k0 := KB.at_ 0
    have k1 := KB.at_ 1
    have k2 := KB.at_ 2
    have v0 := VB.at_ 0
    have v1 := VB.at_ 1
    have HT4 : Turn [d] w w4 := HT.drew.fresh (Turn.of_grown hg4 (List.mem_singleton.2 rfl)) (by omega)
    have HB4 := HB.drew.turn (Turn.of_grown hg4 (List.mem_singleton.2 rfl)) (by simp; omega)
    have Z := Lib.hid (And.intro HB4 (And.intro hM4 HT4))
    clear HB4 hM4 HT4 hg4 HT HM HB KB VB KV hd hf0 k3 f3 hcell hfr q hmm
    go_region
    all_goals
      refine bodyPost_end (v := .tuple #[]) (results_none rfl _ _ _) rfl ?_
      refine ⟨rfl, _, _, Z.out.1, Z.out.2.1, ?_, Z.out.2.2, .inr (by omega)⟩
      split <;> omega
  | some b =>
    go_enter Try.func21, Try.ntmps21
    have k2 := held (next (below_new w (.cells #[.int .u32 ka, .int .i64 kn, .int .u32 kid] 45)) (below_new _ (.cells #[.int .u32 s, .int .u16 x] 35))) hcell
    go_wp2_with fail
    obtain ⟨hd, hm⟩ := KV.out
    have hm : Mk kyE w b n f := hm
    have hdb := hne b rfl
    have HB : Blk T ((w.alloc (.cells #[.int .u32 ka, .int .i64 kn, .int .u32 kid] 45)).alloc (.cells #[.int .u32 s, .int .u16 x] 35)) d cs := (hd.more _).more _
    have HM : Mk kyE ((w.alloc (.cells #[.int .u32 ka, .int .i64 kn, .int .u32 kid] 45)).alloc (.cells #[.int .u32 s, .int .u16 x] 35)) b n f := hm.held (next (below_new _ _) (below_new _ _))
    have KB : Blk 45 ((w.alloc (.cells #[.int .u32 ka, .int .i64 kn, .int .u32 kid] 45)).alloc (.cells #[.int .u32 s, .int .u16 x] 35)) w.heap.size #[.int .u32 ka, .int .i64 kn, .int .u32 kid] := (Blk.new w 45 #[.int .u32 ka, .int .i64 kn, .int .u32 kid]).more _
    have VB : Blk 35 ((w.alloc (.cells #[.int .u32 ka, .int .i64 kn, .int .u32 kid] 45)).alloc (.cells #[.int .u32 s, .int .u16 x] 35)) (w.heap.size + 1) #[.int .u32 s, .int .u16 x] := by
      have h0 := Blk.new (w.alloc (.cells #[.int .u32 ka, .int .i64 kn, .int .u32 kid] 45)) 35 #[.int .u32 s, .int .u16 x]
      rw [size_new] at h0
      exact h0
    have HT : Turn [d, b] w ((w.alloc (.cells #[.int .u32 ka, .int .i64 kn, .int .u32 kid] 45)).alloc (.cells #[.int .u32 s, .int .u16 x] 35)) := ((Turn.refl _ w).alloc _).alloc _
    generalize ((w.alloc (.cells #[.int .u32 ka, .int .i64 kn, .int .u32 kid] 45)).alloc (.cells #[.int .u32 s, .int .u16 x] 35)) = W at *
    obtain ⟨w4, hu, hM4, hg4, -⟩ := (HM.of_block (w' := W.drew) rfl).store (t := 49) (e := 35) (by kernel_rfl) hn (i := ⟨ka, kn, kid⟩) hk (.agg #[.int .u32 s, .int .u16 x])
    have hu : (Instr.mapUpdate 49 (.map (some b)) (.agg #[.int .u32 ka, .int .i64 kn, .int .u32 kid]) (.agg #[.int .u32 s, .int .u16 x])).run Try.prog W.drew = .ok () w4 := hu
    have k0 := KB.at_ 0
    have k1 := KB.at_ 1
    have k2 := KB.at_ 2
    have v0 := VB.at_ 0
    have v1 := VB.at_ 1
    have HT4 : Turn [d, b] w w4 := HT.drew.trans (Turn.of_grown hg4 (by simp))
    have HB4 := HB.drew.turn (Turn.of_grown hg4 (List.mem_singleton.2 rfl)) (by simpa using hdb)
    have hset : cs.setIfInBounds j (.map (some b)) = cs := by
      apply Array.ext (by simp)
      intro i h1 h2
      simp only [Array.getElem_setIfInBounds h2]
      split
      · next e =>
        subst e
        rw [Array.getElem?_eq_getElem h2] at hj
        exact (Option.some.inj hj).symm
      · rfl
    rw [← hset] at HB4
    have Z := Lib.hid (And.intro HB4 (And.intro hM4 HT4))
    clear HB4 hM4 HT4 hg4 HT HM HB KB VB KV hd hm hcell hfr q hset
    go_region
    all_goals
      refine bodyPost_end (v := .tuple #[]) (results_none rfl _ _ _) rfl ?_
      refine ⟨rfl, _, _, Z.out.1, Z.out.2.1, ?_, Z.out.2.2, .inl rfl⟩
      split <;> omega
end Go.Proofs.Ytncliolkdkofhaa
