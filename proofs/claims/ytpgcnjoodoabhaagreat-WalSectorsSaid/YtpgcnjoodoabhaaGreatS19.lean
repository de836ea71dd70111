/-
  A journal, its disk, the statement's model and its list of records beside each other; what each call makes of them.
  The journal where its region is full; the statement's list of records; what is read.
-/
import Derived.Test.YtpgcnjoodoabhaaGreatS16
import Derived.Test.YtpgcnjoodoabhaaGreatS18
import Derived.Test.YtpgcnjoodoabhaaGreatS14
import Derived.Test.YtpgcnjoodoabhaaGreatS07
namespace Go.Proofs.YtpgcnjoodoabhaaGreat
open Go.RowKit Rm

structure Wj (w : World) (half n d S M lb md mo mf gb gen first len N : Nat) (T : Sm) (wsD : List Rc) (N2 : Nat) (T2 : Sm) (wv : Value) (ws : List Rc) (W : World) : Prop where
  log : ∃ o fl, Notes 74 (lgX d first half gen len false) W lb o fl 5 N T ∧ ∀ x, x ∈ fp lb o fl → x ∉ [d, S, M] ∧ x ∉ [md, mo, mf] ∧ some x ≠ wv.ownBlock ∧ w.heap.size ≤ x ∧ x ≠ gb
  disk : ∃ safe, Dk W d S M n safe (fun _ => none) (-1) ∧ Sec safe first wsD
  model : Says W md mo mf 5 N2 T2
  want : Wl w.heap.size wv ws W
  apart : ∀ x, x ∈ [d, S, M] → x ∉ [md, mo, mf] ∧ some x ≠ wv.ownBlock ∧ w.heap.size ≤ x ∧ x ≠ gb
  apart2 : ∀ x, x ∈ [md, mo, mf] → some x ≠ wv.ownBlock ∧ w.heap.size ≤ x ∧ x ≠ gb
  box : some gb ≠ wv.ownBlock
  below : Below w.heap.size w W
  good : GoodSm T

section
variable {w : World} {half n d S M lb md mo mf gb gen first len N : Nat} {T : Sm} {wsD : List Rc} {N2 : Nat} {T2 : Sm} {wv : Value} {ws : List Rc} {W W' : World}
theorem Wj.held (h : Wj w half n d S M lb md mo mf gb gen first len N T wsD N2 T2 wv ws W) (hb : Below W.heap.size W W') : Wj w half n d S M lb md mo mf gb gen first len N T wsD N2 T2 wv ws W' := by
  obtain ⟨⟨o, fl, ⟨cn, cm, hnm, hS⟩, h2⟩, ⟨safe, hD, hC⟩, ⟨mn, mm, hm1, hm2⟩, h5, h6, h7, hbx, h8, h9⟩ := h
  exact ⟨⟨o, fl, ⟨cn, cm, hnm, hS.held hb⟩, h2⟩, ⟨safe, hD.held hb, hC⟩, ⟨mn, mm, hm1, hm2.held hb⟩, h5.held hb, h6, h7, hbx, next h8 hb, h9⟩
theorem Wj.blocks (h : Wj w half n d S M lb md mo mf gb gen first len N T wsD N2 T2 wv ws W) : (∀ x, x ∈ [d, S, M] → x < W.heap.size) ∧ (∀ x, x ∈ [md, mo, mf] → x < W.heap.size) ∧ (∀ x, some x = wv.ownBlock → x < W.heap.size) := by
  obtain ⟨safe, hD, -⟩ := h.disk
  obtain ⟨mn, mm, -, hm⟩ := h.model
  have a1 := hD.head.lt
  have a2 := hD.ltS
  have a3 := hD.map.lt
  have b1 := hm.head.lt
  have b2 := hm.owns.lt
  have b3 := hm.floors.lt
  refine ⟨fun x hx => ?_, fun x hx => ?_, fun x hx => (h.want.lt hx.symm).1⟩
  · simp only [List.mem_cons, List.not_mem_nil, or_false] at hx
    rcases hx with rfl | rfl | rfl <;> assumption
  · simp only [List.mem_cons, List.not_mem_nil, or_false] at hx
    rcases hx with rfl | rfl | rfl <;> assumption
theorem Wj.append (h : Wj w half n d S M lb md mo mf gb gen first len N T wsD N2 T2 wv ws W) (hNN : N < 100000) (hi : first + (1 + len) < n) (hsz : 1 + len < half) (hg : gen < 4294967296) (hl : wsD.length = 1 + len) (hgb : gb < W.heap.size) {r : Rc} (hf : r.Fits) (hr : right r = true) (hk : r.kind ≠ 1) :
    Calls Tryz.prog 12 #[.pointer (some ⟨lb, 0, none⟩), .agg (rcl r)] W fun e W' => e = .returned (.int .i64 0) ∧
      Wj w half n d S M lb md mo mf gb gen first (len + 1) (N + 1) (app T r) (wsD ++ [inAt gen (1 + len) r]) N2 T2 wv ws W' ∧ W'.heap[gb]? = W.heap[gb]? ∧ W.heap.size ≤ W'.heap.size := by
  obtain ⟨hb1, hb2, hb3⟩ := h.blocks
  obtain ⟨⟨o, fl, hN, h2⟩, ⟨safe, hD, hC⟩, ⟨mn, mm, hm1, hm2⟩, h5, h6, h7, hbx, h8, h9⟩ := h
  refine (append_well hN hNN hD (by decide) (by decide) (fun x hx => (h2 x hx).1) hi hsz hg hf hr hk).mono ?_
  rintro e W' ⟨rfl, hD', o', fl', hN', hT, hfp⟩
  have hd : dec (dec (-1)) = -1 := rfl
  rw [hd] at hD'
  have hL : ∀ x, x ∈ [d, S, M] ++ fp lb o fl → x ∉ [md, mo, mf] ∧ some x ≠ wv.ownBlock ∧ w.heap.size ≤ x ∧ x ≠ gb := fun x hx => (List.mem_append.1 hx).elim (h6 x) (fun h => (h2 x h).2)
  have hmL : ∀ x, x ∈ [md, mo, mf] → x ∉ [d, S, M] ++ fp lb o fl := fun x hx h => (hL x h).1 hx
  refine ⟨rfl, ⟨⟨o', fl', hN', fun x hx => ?_⟩, ⟨_, hD', ?_⟩, ⟨mn, mm, hm1, hm2.turn hT (hmL md (by simp)) (hmL mo (by simp)) (hmL mf (by simp))⟩, h5.turn hT (fun b e hb => (hL b hb).2.1 e.symm), h6, h7, hbx, h8.trans (hT.below (fun x hx => (hL x hx).2.2.1) h8.size), ?_⟩, hT.block gb hgb (fun hm => (hL gb hm).2.2.2 rfl), hT.size⟩
  · rcases hfp x hx with hx | hx
    · exact h2 x hx
    · exact ⟨fun h => by have := hb1 x h; omega, fun h => by have := hb2 x h; omega, fun h => by have := hb3 x h; omega, Nat.le_trans h8.size hx, by omega⟩
  · exact hC.snoc _ (by omega)
  · exact h9.app (by rw [right_two]; exact hr) hf
theorem Wj.apply (h : Wj w half n d S M lb md mo mf gb gen first len N T wsD N2 T2 wv ws W) (hN2 : N2 < 100000) (hgb : gb < W.heap.size) {r : Rc} (hf : r.Fits) :
    Calls Tryz.prog 14 #[.pointer (some ⟨md, 0, none⟩), .agg (rcl r)] W fun e W' => e = .returned (.tuple #[]) ∧
      Wj w half n d S M lb md mo mf gb gen first len N T wsD (N2 + 1) (app T2 r) wv ws W' ∧ W'.heap[gb]? = W.heap[gb]? ∧ W.heap.size ≤ W'.heap.size := by
  obtain ⟨⟨o, fl, ⟨cn, cm, hnm, hS⟩, h2⟩, ⟨safe, hD, hC⟩, hm, h5, h6, h7, hbx, h8, h9⟩ := h
  refine (mapply_any hm hN2 r hf).mono ?_
  rintro e W' ⟨rfl, hm', hT⟩
  have hdm : ∀ x, x ∈ [d, S, M] → x ∉ [md, mo, mf] := fun x hx => (h6 x hx).1
  exact ⟨rfl, ⟨⟨o, fl, ⟨cn, cm, hnm, hS.turn hT (fun x hx => (h2 x hx).2.1)⟩, h2⟩, ⟨safe, hD.turn hT (hdm d (by simp)) (hdm S (by simp)) (hdm M (by simp)), hC⟩, hm', h5.turn hT (fun b e hb => (h7 b hb).1 e.symm), h6, h7, hbx, h8.trans (hT.below (fun x hx => (h7 x hx).2.1) h8.size), h9⟩, hT.block gb hgb (fun hm => (h7 gb hm).2.2 rfl), hT.size⟩
theorem Wj.shows (h : Wj w half n d S M lb md mo mf gb gen first len N T wsD N2 T wv ws W) :
    Calls Tryz.prog 13 #[.pointer (some ⟨md, 0, none⟩), .pointer (some ⟨lb, 0, none⟩)] W fun e W' => e = .returned (.bool true) ∧ Below W.heap.size W W' := by
  obtain ⟨⟨o, fl, hN, -⟩, -, hm, -⟩ := h
  exact shows_any hN hm
/-- a new block is the box -/
theorem Wj.newbox (h : Wj w half n d S M lb md mo mf gb gen first len N T wsD N2 T2 wv ws W) (o : Obj) : Wj w half n d S M lb md mo mf W.heap.size gen first len N T wsD N2 T2 wv ws (W.alloc o) := by
  obtain ⟨hb1, hb2, hb3⟩ := h.blocks
  have hb := below_new W o
  obtain ⟨⟨ow, fl, ⟨cn, cm, hnm, hS⟩, h2⟩, ⟨safe, hD, hC⟩, ⟨mn, mm, hm1, hm2⟩, h5, h6, h7, hbx, h8, h9⟩ := h
  exact ⟨⟨ow, fl, ⟨cn, cm, hnm, hS.held hb⟩, fun x hx => ⟨(h2 x hx).1, (h2 x hx).2.1, (h2 x hx).2.2.1, (h2 x hx).2.2.2.1, by have : x < W.heap.size := hS.lt hx; omega⟩⟩, ⟨safe, hD.held hb, hC⟩, ⟨mn, mm, hm1, hm2.held hb⟩, h5.held hb, fun x hx => ⟨(h6 x hx).1, (h6 x hx).2.1, (h6 x hx).2.2.1, by have := hb1 x hx; omega⟩, fun x hx => ⟨(h7 x hx).1, (h7 x hx).2.1, by have := hb2 x hx; omega⟩, fun e => by have := hb3 _ e; omega, next h8 hb, h9⟩
theorem Wj.gen_ (h : Wj w half n d S M lb md mo mf gb gen first len N T wsD N2 T2 wv ws W) : Calls Tryz.prog 15 #[.pointer (some ⟨lb, 0, none⟩)] W fun e w' => e = .returned (.int .u32 gen) ∧ W = w' := by
  obtain ⟨⟨o, fl, ⟨cn, cm, hnm, hS⟩, -⟩, -⟩ := h
  exact gen_any hS
theorem Wj.len_ (h : Wj w half n d S M lb md mo mf gb gen first len N T wsD N2 T2 wv ws W) : Calls Tryz.prog 16 #[.pointer (some ⟨lb, 0, none⟩)] W fun e w' => e = .returned (.int .i64 len) ∧ W = w' := by
  obtain ⟨⟨o, fl, ⟨cn, cm, hnm, hS⟩, -⟩, -⟩ := h
  exact len_any hS
theorem Wj.state_ (h : Wj w half n d S M lb md mo mf gb gen first len N T wsD N2 T2 wv ws W) : Calls Tryz.prog 10 #[.pointer (some ⟨lb, 0, none⟩)] W fun e w' => e = .returned (.pointer (some ⟨lb, 0, none⟩)) ∧ W = w' := by
  obtain ⟨⟨o, fl, ⟨cn, cm, hnm, hS⟩, -⟩, -⟩ := h
  exact state_any hS
end
end Go.Proofs.YtpgcnjoodoabhaaGreat

namespace Go.Proofs.YtpgcnjoodoabhaaGreat
open Go.RowKit Rm

/-- L is what T's Records are -/
def IsRecs (T : Sm) (L : List Rc) : Prop := ∀ (xs : List Pk) (ys : List Ky) (es : List (ElP T.own)) (fs : List (ElK T.floor)), EsP T.own xs es → xs.Pairwise ltP → (∀ x, x ∈ xs ↔ x.ok ∧ (T.own x).isSome = true) → EsK T.floor ys fs → ys.Pairwise ltK → (∀ x, x ∈ ys ↔ x.ok ∧ (T.floor x).isSome = true) → recsOf T es fs = L
def beginR (g : Nat) : Rc := ⟨1, g, 0, 5, 0, 0, false, 0, 0⟩
section
variable {w : World} {half n d S M lb md mo mf gb gen first len N : Nat} {T : Sm} {wsD : List Rc} {N2 : Nat} {T2 : Sm} {wv : Value} {ws : List Rc} {W W' : World}
theorem Wj.records (h : Wj w half n d S M lb md mo mf gb gen first len N T wsD N2 T2 wv ws W) :
    Calls Tryz.prog 11 #[.pointer (some ⟨lb, 0, none⟩)] W fun e W' => ∃ v L, e = .returned v ∧ IsRecs T L ∧ (∀ r ∈ L, right2 r = true ∧ r.Fits ∧ r.gen = 0 ∧ r.lsn = 0) ∧ Wl W.heap.size v L W' ∧ Below W.heap.size W W' := by
  obtain ⟨⟨o, fl, hN, -⟩, -, -, -, -, -, -, -, h9⟩ := h
  refine (records_any hN).mono ?_
  rintro e W' ⟨v, xs, ys, es, fs, rfl, a1, a2, a3, a4, a5, a6, hrow, -, hb⟩
  exact ⟨v, recsOf T es fs, rfl, fun xs' ys' es' fs' b1 b2 b3 b4 b5 b6 => recs_same b1 b2 b3 b4 b5 b6 a1 a2 a3 a4 a5 a6, recs_right (es := es) (fs := fs) h9, hrow, hb⟩
/-- the same, and how many they are -/
theorem Wj.records2 (h : Wj w half n d S M lb md mo mf gb gen first len N T wsD N2 T wv ws W) :
    Calls Tryz.prog 11 #[.pointer (some ⟨lb, 0, none⟩)] W fun e W' => ∃ v L, e = .returned v ∧ IsRecs T L ∧ (∀ r ∈ L, right2 r = true ∧ r.Fits ∧ r.gen = 0 ∧ r.lsn = 0) ∧ Wl W.heap.size v L W' ∧ Below W.heap.size W W' ∧ L.length ≤ N2 + 1 := by
  obtain ⟨⟨o, fl, hN, -⟩, -, ⟨mn, mm, hmm, hM⟩, -, -, -, -, -, h9⟩ := h
  refine (records_any hN).mono ?_
  rintro e W' ⟨v, xs, ys, es, fs, rfl, a1, a2, a3, a4, a5, a6, hrow, -, hb⟩
  have hcnt1 : es.length = mn := by
    rw [← hM.owns.card (chainP_nodup a2) (fun k => by rw [a3 k]; show _ ↔ k.ok ∧ _; cases T.own k <;> simp), ← show es.map (·.key) = xs from a1]; simp
  have hcnt2 : fs.length = mm := by
    rw [← hM.floors.card (chainK_nodup a5) (fun k => by rw [a6 k]; show _ ↔ k.ok ∧ _; cases T.floor k <;> simp), ← show fs.map (·.key) = ys from a4]; simp
  have hrl : (rL T.lease).length ≤ 1 := by unfold rL; split <;> simp
  have hcnt : (recsOf T es fs).length ≤ N2 + 1 := by
    unfold recsOf
    rw [List.length_append, List.length_append, List.length_map, List.length_map]
    omega
  exact ⟨v, recsOf T es fs, rfl, fun xs' ys' es' fs' b1 b2 b3 b4 b5 b6 => recs_same b1 b2 b3 b4 b5 b6 a1 a2 a3 a4 a5 a6, recs_right (es := es) (fs := fs) h9, hrow, hb, hcnt⟩
theorem Wj.full (h : Wj w half n d S M lb md mo mf gb gen first len N T wsD N2 T2 wv ws W) (hNN : N < 100000) (hlen : len ≤ 100000) (hfull : half ≤ 1 + len) (hsf : first ≤ half) (hsz : half ≤ 1000) (hn : (half - first) + half ≤ n) (hg : gen < 4294967294) {L : List Rc} (hL : IsRecs T L) (hroom : L.length + 2 ≤ half) (hgb : gb < W.heap.size) {r : Rc} (hf : r.Fits) (hr : right r = true) (hk : r.kind ≠ 1) :
    Calls Tryz.prog 12 #[.pointer (some ⟨lb, 0, none⟩), .agg (rcl r)] W fun e W' => e = .returned (.int .i64 0) ∧
      Wj w half n d S M lb md mo mf gb (gen + 1) (half - first) (L.length + 1) (N + 1) (app T r) (beginR (gen + 1) :: laid (gen + 1) L L.length ++ [inAt (gen + 1) (1 + L.length) r]) N2 T2 wv ws W' ∧ W'.heap[gb]? = W.heap[gb]? ∧ W.heap.size ≤ W'.heap.size := by
  obtain ⟨hb1, hb2, hb3⟩ := h.blocks
  obtain ⟨⟨o, fl, hN, h2⟩, ⟨safe, hD, hC⟩, ⟨mn, mm, hm1, hm2⟩, h5, h6, h7, hbx, h8, h9⟩ := h
  refine (append_full hN hNN hD (fun x hx => (h2 x hx).1) hlen hfull h9 hsf hsz rfl rfl hn hg (by omega) (by omega) (fun xs ys es fs a1 a2 a3 a4 a5 a6 => by rw [hL xs ys es fs a1 a2 a3 a4 a5 a6]; exact hroom) hf hr hk).mono ?_
  rintro e W' ⟨rfl, xs, ys, es, fs, ⟨a1, a2, a3, a4, a5, a6⟩, hD', o', fl', hN', hT, hfp⟩
  rw [hL xs ys es fs a1 a2 a3 a4 a5 a6] at hD' hN'
  have hLL : ∀ x, x ∈ [d, S, M] ++ fp lb o fl → x ∉ [md, mo, mf] ∧ some x ≠ wv.ownBlock ∧ w.heap.size ≤ x ∧ x ≠ gb := fun x hx => (List.mem_append.1 hx).elim (h6 x) (fun h => (h2 x h).2)
  have hmL : ∀ x, x ∈ [md, mo, mf] → x ∉ [d, S, M] ++ fp lb o fl := fun x hx h => (hLL x h).1 hx
  refine ⟨rfl, ⟨⟨o', fl', hN', fun x hx => ?_⟩, ⟨_, hD', ?_⟩, ⟨mn, mm, hm1, hm2.turn hT (hmL md (by simp)) (hmL mo (by simp)) (hmL mf (by simp))⟩, h5.turn hT (fun b e hb => (hLL b hb).2.1 e.symm), h6, h7, hbx, h8.trans (hT.below (fun x hx => (hLL x hx).2.2.1) h8.size), ?_⟩, hT.block gb hgb (fun hm => (hLL gb hm).2.2.2 rfl), hT.size⟩
  · rcases hfp x hx with hx | hx
    · exact h2 x hx
    · exact ⟨fun h => by have := hb1 x h; omega, fun h => by have := hb2 x h; omega, fun h => by have := hb3 x h; omega, Nat.le_trans h8.size hx, by omega⟩
  · exact Sec.over.snoc _ (by simp [laid_length]; omega)
  · exact h9.app (by rw [right_two]; exact hr) hf
theorem Wj.none_ (h : Wj w half n d S M lb md mo mf gb gen first len N T wsD N2 T2 wv ws W) (hlen : len ≤ 100000) (hfull : half ≤ 1 + len) {L : List Rc} (hL : IsRecs T L) (hroom : half < L.length + 2) (hLb : L.length ≤ 100000) {r : Rc} (hf : r.Fits) (hr : right r = true) (hk : r.kind ≠ 1) :
    Calls Tryz.prog 12 #[.pointer (some ⟨lb, 0, none⟩), .agg (rcl r)] W fun e W' => e = .returned (.int .i64 5) ∧ Below W.heap.size W W' := by
  obtain ⟨⟨o, fl, hN, -⟩, -, -, -, -, -, -, -, h9⟩ := h
  exact append_none hN hlen hfull h9 (fun xs ys es fs a1 a2 a3 a4 a5 a6 => by rw [hL xs ys es fs a1 a2 a3 a4 a5 a6]; exact ⟨hroom, hLb⟩) hf hr hk
/-- 'want = append(want, r)' -/
theorem Wj.push (h : Wj w half n d S M lb md mo mf gb gen first len N T wsD N2 T2 wv ws W) (hgb : gb < W.heap.size) (r : Rc) (hbig : ws.length + 1 ≤ 100000) {ob : Obj} (ho : ob = .cells (rcl r) 41) :
    ∃ g' cap' W', (Builtin.append_ #[22, 22] 22 #[wv, .slice (some ⟨W.heap.size, 0, none⟩) 1 1]).run Tryz.prog (W.alloc ob) = .ok (.slice (some ⟨g', 0, none⟩) (ws.length + 1) cap') W' ∧
      Wj w half n d S M lb md mo mf gb gen first len N T wsD N2 T2 (.slice (some ⟨g', 0, none⟩) (ws.length + 1) cap') (ws ++ [r]) W' ∧ (∀ x t C, Blk t W x C → some x ≠ wv.ownBlock → Blk t W' x C) ∧ W.heap.size ≤ W'.heap.size ∧ ∀ x, x < W.heap.size → some x ≠ wv.ownBlock → some x ≠ (Value.slice (some ⟨g', 0, none⟩) (ws.length + 1) cap').ownBlock := by
  obtain ⟨hb1, hb2, hb3⟩ := h.blocks
  obtain ⟨⟨o, fl, ⟨cn, cm, hnm, hS⟩, h2⟩, ⟨safe, hD, hC⟩, ⟨mn, mm, hm1, hm2⟩, h5, h6, h7, hbx, h8, h9⟩ := h
  obtain ⟨g', cap', W', hr, hL, hg, hB, hat⟩ := h5.push h8.size r hbig ho
  subst ho
  have hbA := below_new W (.cells (rcl r) 41)
  have hT : Turn wv.ownBlock.toList W W' := (Turn.of_below _ hbA).trans ⟨hg.os, hg.tape, hg.output, hg.size, fun i hi hn => hg.block i hi (fun e => hn (by rw [← e]; simp))⟩
  have hin : ∀ x, x ∈ wv.ownBlock.toList ↔ some x = wv.ownBlock := fun x => by cases wv.ownBlock <;> simp [eq_comm]
  have hlb : ∀ x, x ∈ fp lb o fl → x < W.heap.size := fun x hx => hS.lt hx
  have hg' : ∀ x, x < W.heap.size → some x ≠ wv.ownBlock → some x ≠ (Value.slice (some ⟨g', 0, none⟩) (ws.length + 1) cap').ownBlock := fun x hx hne e => by
    have e2 : x = g' := by simpa [Value.ownBlock] using e
    rcases hat with h | h
    · exact hne (by rw [h, e2])
    · omega
  refine ⟨g', cap', W', hr, ⟨⟨o, fl, ⟨cn, cm, hnm, hS.turn hT (fun x hx hm => (h2 x hx).2.2.1 ((hin x).1 hm))⟩, fun x hx => ⟨(h2 x hx).1, (h2 x hx).2.1, hg' x (hlb x hx) (h2 x hx).2.2.1, (h2 x hx).2.2.2⟩⟩,
    ⟨safe, hD.turn hT (fun hm => (h6 d (by simp)).2.1 ((hin d).1 hm)) (fun hm => (h6 S (by simp)).2.1 ((hin S).1 hm)) (fun hm => (h6 M (by simp)).2.1 ((hin M).1 hm)), hC⟩,
    ⟨mn, mm, hm1, hm2.turn hT (fun hm => (h7 md (by simp)).1 ((hin md).1 hm)) (fun hm => (h7 mo (by simp)).1 ((hin mo).1 hm)) (fun hm => (h7 mf (by simp)).1 ((hin mf).1 hm))⟩,
    hL, fun x hx => ⟨(h6 x hx).1, hg' x (hb1 x hx) (h6 x hx).2.1, (h6 x hx).2.2⟩, fun x hx => ⟨hg' x (hb2 x hx) (h7 x hx).1, (h7 x hx).2⟩, hg' gb hgb hbx, h8.trans hB, h9⟩, fun x t C hx hne => (hT.block x hx.lt (fun hm => hne ((hin x).1 hm))).trans hx, hB.size, hg'⟩
/-- 'want = []rec.Rec{r}' -/
theorem Wj.rewant (h : Wj w half n d S M lb md mo mf gb gen first len N T wsD N2 T2 wv ws W) (hgb : gb < W.heap.size) (r : Rc) {o : Obj} (ho : o = .cells (rcl r) 41) :
    Wj w half n d S M lb md mo mf gb gen first len N T wsD N2 T2 (.slice (some ⟨W.heap.size, 0, none⟩) 1 1) [r] (W.alloc o) ∧ ∀ x, x < W.heap.size → some x ≠ (Value.slice (some ⟨W.heap.size, 0, none⟩) 1 1).ownBlock := by
  obtain ⟨hb1, hb2, hb3⟩ := h.blocks
  have hb := below_new W o
  obtain ⟨⟨ow, fl, ⟨cn, cm, hnm, hS⟩, h2⟩, ⟨safe, hD, hC⟩, ⟨mn, mm, hm1, hm2⟩, h5, h6, h7, hbx, h8, h9⟩ := h
  have hne : ∀ x, x < W.heap.size → some x ≠ (Value.slice (some ⟨W.heap.size, 0, none⟩) 1 1).ownBlock := fun x hx e => by
    have : x = W.heap.size := by simpa [Value.ownBlock] using e
    omega
  exact ⟨⟨⟨ow, fl, ⟨cn, cm, hnm, hS.held hb⟩, fun x hx => ⟨(h2 x hx).1, (h2 x hx).2.1, hne x (hS.lt hx), (h2 x hx).2.2.2⟩⟩, ⟨safe, hD.held hb, hC⟩, ⟨mn, mm, hm1, hm2.held hb⟩, Wl.one W h8.size r ho, fun x hx => ⟨(h6 x hx).1, hne x (hb1 x hx), (h6 x hx).2.2⟩, fun x hx => ⟨hne x (hb2 x hx), (h7 x hx).2⟩, hne gb hgb, next h8 hb, h9⟩, hne⟩
/-- a store into the box -/
theorem Wj.setbox (h : Wj w half n d S M lb md mo mf gb gen first len N T wsD N2 T2 wv ws W) (hgw : w.heap.size ≤ gb) (k : Nat) (v : Value) : Wj w half n d S M lb md mo mf gb gen first len N T wsD N2 T2 wv ws (W.setCell ⟨gb, k, none⟩ v) := by
  obtain ⟨⟨o, fl, ⟨cn, cm, hnm, hS⟩, h2⟩, ⟨safe, hD, hC⟩, ⟨mn, mm, hm1, hm2⟩, h5, h6, h7, hbx, h8, h9⟩ := h
  have hT : Turn [gb] W (W.setCell ⟨gb, k, none⟩ v) := Turn.setCell _ (p := ⟨gb, k, none⟩) (by simp) _
  exact ⟨⟨o, fl, ⟨cn, cm, hnm, hS.turn hT (fun x hx hm => (h2 x hx).2.2.2.2 (List.mem_singleton.1 hm))⟩, h2⟩, ⟨safe, hD.turn hT (fun hm => (h6 d (by simp)).2.2.2 (List.mem_singleton.1 hm)) (fun hm => (h6 S (by simp)).2.2.2 (List.mem_singleton.1 hm)) (fun hm => (h6 M (by simp)).2.2.2 (List.mem_singleton.1 hm)), hC⟩,
    ⟨mn, mm, hm1, hm2.turn hT (fun hm => (h7 md (by simp)).2.2 (List.mem_singleton.1 hm)) (fun hm => (h7 mo (by simp)).2.2 (List.mem_singleton.1 hm)) (fun hm => (h7 mf (by simp)).2.2 (List.mem_singleton.1 hm))⟩,
    h5.turn hT (fun b e hm => hbx (by rw [← List.mem_singleton.1 hm, e])), h6, h7, hbx, h8.setCell (p := ⟨gb, k, none⟩) hgw v, h9⟩
/-- a sector read, and the record's bytes -/
theorem Wj.read (h : Wj w half n d S M lb md mo mf gb gen first len N T wsD N2 T2 wv ws W) {i : Nat} (hi : i < wsD.length) (hin : first + i < n) {z : Int} (hz : z = ((first + i : Nat) : Int)) :
    Calls Tryz.prog 17 #[.pointer (some ⟨d, 0, none⟩), .int .i64 z] W fun e W' => ∃ g cap, e = .returned (.tuple #[.slice (some ⟨g, 0, none⟩) 48 cap, .int .i64 0]) ∧ Bys W' (some ⟨g, 0, none⟩) 48 (u8s (Rm.bytes (wsD[i]?.getD Rm.zero))) ∧ Below W.heap.size W W' := by
  subst hz
  obtain ⟨-, ⟨safe, hD, hC⟩, -⟩ := h
  refine (read_ok hD hin).mono ?_
  rintro e W' ⟨g, cap, rfl, -, hB, hb, -⟩
  have e2 : synced safe (fun _ => none) (first + i) = u8s (Rm.bytes (wsD[i]?.getD Rm.zero)) := hC i hi
  rw [e2] at hB
  exact ⟨g, cap, rfl, hB, hb⟩
end
end Go.Proofs.YtpgcnjoodoabhaaGreat

