/-
  Package wal: going over to the other region, and Append, where what must not be forgotten leaves no room: nothing is written.
  Which sectors a journal has: plain mathematics; the records of a state are the same list whenever they are asked for.
  Lists of records that a function owns (the statement's list of what a journal has).
  Package wal: Append on a disk that fails.
-/
import Derived.Test.YtpgcnjoodoabhaaGreatS15
import Derived.Test.YtpgcnjoodoabhaaGreatS09
namespace Go.Proofs.YtpgcnjoodoabhaaGreat
open Go.RowKit Rm

section
variable {w w' : World} {d S M n : Nat} {safe : Nat → List UInt8} {wn : Int → Option (List UInt8)}
set_option maxRecDepth 20000 in
theorem compact_full {lb first size gen len : Nat} {o fl : Option Nat} {id N : Nat} {T : Sm} (hN : Notes 74 (lgX d first size gen len false) w lb o fl id N T) (hgood : GoodSm T)
    (hroom : ∀ (xs : List Pk) (ys : List Ky) (es : List (ElP T.own)) (fs : List (ElK T.floor)), EsP T.own xs es → xs.Pairwise ltP → (∀ x, x ∈ xs ↔ x.ok ∧ (T.own x).isSome = true) → EsK T.floor ys fs → ys.Pairwise ltK → (∀ x, x ∈ ys ↔ x.ok ∧ (T.floor x).isSome = true) → size < (recsOf T es fs).length + 2 ∧ (recsOf T es fs).length ≤ 100000) :
    Calls Tryz.prog 34 #[.pointer (some ⟨lb, 0, none⟩)] w fun e w' => e = .returned (.int .i64 5) ∧ Below w.heap.size w w' := by
  have HRec := records_any hN
  obtain ⟨cn, cm, hnm, hS⟩ := hN
  have HH := Lib.hid (And.intro hS (And.intro hgood hroom))
  clear hS hgood hroom
  go_enter Tryz.func34, Tryz.ntmps34
  go_wp2_with fail
  refine HRec.mono ?_
  rintro e w1 ⟨v, xs, ys, es, fs, rfl, hE, hxs, hx, hE2, hys, hy, hrow, -, hb1⟩
  obtain ⟨hS, hgood, hroom⟩ := HH.out
  have hrm := hroom xs ys es fs hE hxs hx hE2 hys hy
  have hrr := recs_right (es := es) (fs := fs) hgood
  obtain ⟨a2, cap2, rfl, hm2, hc2, hA2, hR2⟩ := row_recs (L := recsOf T es fs) hrow
  have hblk : ∀ b off, a2 = some ⟨b, off, none⟩ → w.heap.size ≤ b ∧ b < w1.heap.size := fun b off e => by subst e; exact row_new hrow
  have HE := Lib.hid (And.intro hE (And.intro hxs (And.intro hx (And.intro hE2 (And.intro hys hy)))))
  have HREC : ∃ L, L = recsOf T es fs := ⟨_, rfl⟩
  obtain ⟨L, hL⟩ := HREC
  rw [← hL] at hrm hrr hm2 hc2 hA2 hR2
  have HLL := Lib.hid hL
  have hSw1 := hS.held hb1
  have HL1 := lg_head hSw1
  obtain ⟨n3, hn3⟩ : ∃ n3, n3 = L.length := ⟨_, rfl⟩
  rw [← hL]
  rw [← hn3] at hrm hm2 hc2 hA2 ⊢
  have hw3 : IntKind.i64.wrap ((n3 : Int) + 2) = (n3 : Int) + 2 := by simp only [IntKind.wrap, IntKind.bits, IntKind.signed]; simp; omega
  have hgt : decide ((size : Int) < (n3 : Int) + 2) = true := decide_eq_true (by omega)
  have l4 := HL1.at_ 4
  have l5 := HL1.at_ 5
  have l6 := HL1.at_ 6
  have l7 := HL1.at_ 7
  have l9 := HL1.at_ 9
  have HB := Lib.hid hb1
  clear hS hgood hroom hE hxs hx hE2 hys hy hrow hR2 hblk hrr hSw1 HL1 hL hb1 HRec hn3 HE HLL hA2
  go_wp2_with fail
  go_ret
  exact ⟨rfl, HB.out⟩

set_option maxRecDepth 20000 in
theorem append_none {lb first size gen len : Nat} {o fl : Option Nat} {id N : Nat} {T : Sm} (hN : Notes 74 (lgX d first size gen len false) w lb o fl id N T) (hlen : len ≤ 100000) (hfull : size ≤ 1 + len) (hgood : GoodSm T)
    (hroom : ∀ (xs : List Pk) (ys : List Ky) (es : List (ElP T.own)) (fs : List (ElK T.floor)), EsP T.own xs es → xs.Pairwise ltP → (∀ x, x ∈ xs ↔ x.ok ∧ (T.own x).isSome = true) → EsK T.floor ys fs → ys.Pairwise ltK → (∀ x, x ∈ ys ↔ x.ok ∧ (T.floor x).isSome = true) → size < (recsOf T es fs).length + 2 ∧ (recsOf T es fs).length ≤ 100000) {k : Int} {g l rid a : Nat} {rn : Int} {on : Bool} {s m : Nat} (hf : (⟨k, g, l, rid, a, rn, on, s, m⟩ : Rc).Fits) (hr : right ⟨k, g, l, rid, a, rn, on, s, m⟩ = true) (hk : k ≠ 1) :
    Calls Tryz.prog 12 #[.pointer (some ⟨lb, 0, none⟩), .agg #[.int .i64 k, .int .u32 g, .int .u32 l, .int .u32 rid, .int .u32 a, .int .i64 rn, .bool on, .int .u32 s, .int .u16 m]] w fun e w' => e = .returned (.int .i64 5) ∧ Below w.heap.size w w' := by
  obtain ⟨cn, cm, hnm, hS⟩ := hN
  have hk1 : (k == 1) = false := beq_eq_false_iff_ne.2 hk
  have HROOM := Lib.hid hroom
  have HGO := Lib.hid hgood
  have RB := Blk.new w 41 #[.int .i64 k, .int .u32 g, .int .u32 l, .int .u32 rid, .int .u32 a, .int .i64 rn, .bool on, .int .u32 s, .int .u16 m]
  have hb := below_new w (.cells #[.int .i64 k, .int .u32 g, .int .u32 l, .int .u32 rid, .int .u32 a, .int .i64 rn, .bool on, .int .u32 s, .int .u16 m] 41)
  go_enter Tryz.func12, Tryz.ntmps12
  have HRT := prright_eq hf.a hr (w.alloc (.cells #[.int .i64 k, .int .u32 g, .int .u32 l, .int .u32 rid, .int .u32 a, .int .i64 rn, .bool on, .int .u32 s, .int .u16 m] 41))
  have HH := Lib.hid (And.intro hS (And.intro RB hb))
  clear hS hf hr RB hb hk hroom hgood
  go_wp2_with fail
  generalize w.alloc (.cells #[.int .i64 k, .int .u32 g, .int .u32 l, .int .u32 rid, .int .u32 a, .int .i64 rn, .bool on, .int .u32 s, .int .u16 m] 41) = W at *
  refine HRT.mono ?_
  rintro e x1 ⟨rfl, hb1⟩
  obtain ⟨hS, RB, hb⟩ := HH.out
  have hbb := next hb hb1
  have RB1 := RB.held hb1
  have hS1 := hS.held hbb
  have HF := full_log hS1 hlen (q := true) (decide_eq_true (by omega))
  have r0 := RB1.at_ 0
  have H1 := Lib.hid (And.intro hbb hS1)
  clear hS RB hb hbb RB1 hS1 HRT hb1 HH
  go_wp2_with fail
  refine HF.mono ?_
  rintro e xa ⟨rfl, hba⟩
  have hCO := compact_full ⟨cn, cm, hnm, H1.out.2.held hba⟩ HGO.out HROOM.out
  have HB := Lib.hid (next H1.out.1 hba)
  clear HF r0 H1 hba
  go_wp2_with fail
  refine hCO.mono ?_
  rintro e x2 ⟨rfl, hb2⟩
  have HZ := Lib.hid (next HB.out hb2)
  clear hCO HB hb2
  go_wp2_with fail
  go_ret
  exact ⟨rfl, HZ.out⟩
end
end Go.Proofs.YtpgcnjoodoabhaaGreat

namespace Go.Proofs.YtpgcnjoodoabhaaGreat
open Go.RowKit Rm

theorem sorted_same {α : Type} {lt : α → α → Prop} (hs : ∀ x y, lt x y → ¬ lt y x) : ∀ (xs ys : List α), xs.Pairwise lt → ys.Pairwise lt → (∀ z, z ∈ xs ↔ z ∈ ys) → xs = ys
  | [], [], _, _, _ => rfl
  | [], y :: ys, _, _, h => by have := (h y).2 (by simp); simp at this
  | x :: xs, [], _, _, h => by have := (h x).1 (by simp); simp at this
  | x :: xs, y :: ys, hx, hy, h => by
    rw [List.pairwise_cons] at hx hy
    have hxi : ∀ z, lt z z → False := fun z hz => hs z z hz hz
    have e : x = y := by
      rcases List.mem_cons.1 ((h x).1 (by simp)) with e | e
      · exact e
      · rcases List.mem_cons.1 ((h y).2 (by simp)) with e2 | e2
        · exact e2.symm
        · exact absurd (hx.1 y e2) (hs y x (hy.1 x e))
    subst e
    have := sorted_same hs xs ys hx.2 hy.2 (fun z => by
      constructor
      · intro hz
        rcases List.mem_cons.1 ((h z).1 (List.mem_cons_of_mem _ hz)) with e | e
        · subst e; exact absurd (hx.1 z hz) (hxi z)
        · exact e
      · intro hz
        rcases List.mem_cons.1 ((h z).2 (List.mem_cons_of_mem _ hz)) with e | e
        · subst e; exact absurd (hy.1 z hz) (hxi z)
        · exact e)
    rw [this]
theorem ltP_asymm (x y : Pk) (h : ltP x y) : ¬ ltP y x := by unfold ltP at *; omega
theorem ltK_asymm (x y : Ky) (h : ltK x y) : ¬ ltK y x := by unfold ltK ltP at *; simp only at *; omega
theorem esP_same {f : Pk → Option Bool} : ∀ (es es' : List (ElP f)), es.map (·.key) = es'.map (·.key) → es = es'
  | [], [], _ => rfl
  | [], _ :: _, h => by simp at h
  | _ :: _, [], h => by simp at h
  | ⟨k, v, a, b, c⟩ :: r, ⟨k', v', a', b', c'⟩ :: r', h => by
    simp only [List.map_cons, List.cons.injEq] at h
    obtain ⟨rfl, h⟩ := h
    have := c.symm.trans c'
    cases this
    rw [esP_same r r' h]
theorem esK_same {f : Ky → Option (Nat × Nat)} : ∀ (es es' : List (ElK f)), es.map (·.key) = es'.map (·.key) → es = es'
  | [], [], _ => rfl
  | [], _ :: _, h => by simp at h
  | _ :: _, [], h => by simp at h
  | ⟨k, v, a, b, c⟩ :: r, ⟨k', v', a', b', c'⟩ :: r', h => by
    simp only [List.map_cons, List.cons.injEq] at h
    obtain ⟨rfl, h⟩ := h
    have := c.symm.trans c'
    cases this
    rw [esK_same r r' h]
theorem recs_same {T : Sm} {xs xs' : List Pk} {ys ys' : List Ky} {es es' : List (ElP T.own)} {fs fs' : List (ElK T.floor)}
    (a1 : EsP T.own xs es) (a2 : xs.Pairwise ltP) (a3 : ∀ x, x ∈ xs ↔ x.ok ∧ (T.own x).isSome = true) (a4 : EsK T.floor ys fs) (a5 : ys.Pairwise ltK) (a6 : ∀ x, x ∈ ys ↔ x.ok ∧ (T.floor x).isSome = true)
    (b1 : EsP T.own xs' es') (b2 : xs'.Pairwise ltP) (b3 : ∀ x, x ∈ xs' ↔ x.ok ∧ (T.own x).isSome = true) (b4 : EsK T.floor ys' fs') (b5 : ys'.Pairwise ltK) (b6 : ∀ x, x ∈ ys' ↔ x.ok ∧ (T.floor x).isSome = true) :
    recsOf T es fs = recsOf T es' fs' := by
  have e1 : xs = xs' := sorted_same ltP_asymm _ _ a2 b2 (fun z => (a3 z).trans (b3 z).symm)
  have e2 : ys = ys' := sorted_same ltK_asymm _ _ a5 b5 (fun z => (a6 z).trans (b6 z).symm)
  rw [esP_same es es' (by rw [show es.map (·.key) = xs from a1, show es'.map (·.key) = xs' from b1, e1]), esK_same fs fs' (by rw [show fs.map (·.key) = ys from a4, show fs'.map (·.key) = ys' from b4, e2])]

/-! ### sectors -/
/-- from sector first on these records stand -/
def Sec (safe : Nat → List UInt8) (first : Nat) (ws : List Rc) : Prop := ∀ i, i < ws.length → safe (first + i) = u8s (Rm.bytes (ws[i]?.getD Rm.zero))
theorem Sec.snoc {safe : Nat → List UInt8} {first : Nat} {ws : List Rc} (h : Sec safe first ws) (r : Rc) {z : Int} (hz : z = ((first + ws.length : Nat) : Int)) :
    Sec (synced safe (updD (fun _ => none) z (u8s (Rm.bytes r)))) first (ws ++ [r]) := by
  intro i hi
  rw [List.length_append, List.length_singleton] at hi
  unfold synced
  by_cases e : i = ws.length
  · subst e
    rw [hz, upd_sameD]
    simp
  · rw [upd_otherD _ (by omega)]
    rw [List.getElem?_append_left (by omega)]
    exact h i (by omega)
/-- the records of a state as they stand in a region -/
def laid (g : Nat) (rs : List Rc) (k : Nat) : List Rc := (List.range k).map fun i => inAt g (1 + i) (rs[i]?.getD Rm.zero)
theorem laid_length (g : Nat) (rs : List Rc) (k : Nat) : (laid g rs k).length = k := by simp [laid]
theorem laid_get {g : Nat} {rs : List Rc} {k i : Nat} (h : i < k) : (laid g rs k)[i]? = some (inAt g (1 + i) (rs[i]?.getD Rm.zero)) := by simp [laid, h]
theorem lay_at (first g : Nat) (rs : List Rc) : ∀ (k i : Nat), i < k → layW (fun _ => none) first g rs k (((first + (1 + i) : Nat)) : Int) = some (u8s (Rm.bytes (inAt g (1 + i) (rs[i]?.getD Rm.zero))))
  | k + 1, i, h => by
    unfold layW
    by_cases e : i = k
    · subst e
      rw [show (((first + (1 + i) : Nat)) : Int) = (first : Int) + ((1 + i : Nat) : Int) by omega, upd_sameD]
    · rw [upd_otherD _ (by omega)]
      exact lay_at first g rs k i (by omega)
/-- behind going over to the other region -/
theorem Sec.over {safe : Nat → List UInt8} {f2 g2 : Nat} {rs : List Rc} {b : Rc} :
    Sec (synced (synced safe (layW (fun _ => none) f2 g2 rs rs.length)) (updD (fun _ => none) ((f2 : Int) + (0 : Nat)) (u8s (Rm.bytes b)))) f2 (b :: laid g2 rs rs.length) := by
  intro i hi
  rw [List.length_cons, laid_length] at hi
  unfold synced
  cases i with
  | zero => rw [show ((f2 + 0 : Nat) : Int) = (f2 : Int) + (0 : Nat) by omega, upd_sameD]; simp
  | succ i =>
    rw [upd_otherD _ (by omega), show f2 + (i + 1) = f2 + (1 + i) by omega, lay_at _ _ _ _ _ (by omega)]
    rw [List.getElem?_cons_succ, laid_get (by omega)]
    rfl
end Go.Proofs.YtpgcnjoodoabhaaGreat

namespace Go.Proofs.YtpgcnjoodoabhaaGreat
open Go.RowKit Rm

/-- v is a list of the call's own (from block B on) that holds ws -/
def Wl (B : Nat) (v : Value) (ws : List Rc) (W : World) : Prop := W.ownsRow B 41 9 v ws.length (ws.flatMap rcells)
theorem rcells_one (ws : List Rc) : ∀ v ∈ ws.flatMap rcells, v.oneCell' = true := by
  intro v hv
  obtain ⟨r, _, h⟩ := List.mem_flatMap.1 hv
  simp only [rcells, rcl, List.mem_cons, List.not_mem_nil, or_false] at h
  rcases h with h | h | h | h | h | h | h | h | h <;> (subst h; rfl)
theorem rflat_length (ws : List Rc) : (ws.flatMap rcells).length = ws.length * 9 := by
  induction ws with
  | nil => rfl
  | cons r ws ih => rw [List.flatMap_cons, List.length_append, ih, rcells_length, List.length_cons]; omega
section
variable {B : Nat} {v : Value} {ws : List Rc} {W W' : World}
theorem Wl.of_block (h : Wl B v ws W) (hb : ∀ b, v.ownBlock = some b → W'.heap[b]? = W.heap[b]?) : Wl B v ws W' := by
  obtain ⟨h1, h2⟩ := h
  refine ⟨h1, ?_⟩
  rcases h2 with h2 | ⟨g, cap, cur, rfl, h4, h5, h6⟩
  · exact .inl h2
  · exact .inr ⟨g, cap, cur, rfl, h4, (hb g rfl).trans h5, h6⟩
theorem Wl.lt (h : Wl B v ws W) {b : Nat} (hb : v.ownBlock = some b) : b < W.heap.size ∧ B ≤ b := by
  rcases h.2 with ⟨rfl, _⟩ | ⟨g, cap, cur, rfl, h4, h5, _⟩
  · cases hb
  · cases hb
    exact ⟨(Array.getElem?_eq_some_iff.1 h5).1, h4⟩
theorem Wl.held (h : Wl B v ws W) (hb : Below W.heap.size W W') : Wl B v ws W' := h.of_block fun b e => hb.block b (h.lt e).1
theorem Wl.drew (h : Wl B v ws W) : Wl B v ws W.drew := h
theorem Wl.turn {L : List Nat} (h : Wl B v ws W) (t : Turn L W W') (hL : ∀ b, v.ownBlock = some b → b ∉ L) : Wl B v ws W' := h.of_block fun b e => t.block b (h.lt e).1 (hL b e)
theorem Wl.form (h : Wl B v ws W) : ∃ p cap, v = .slice p ws.length cap ∧ ws.length ≤ cap := by
  rcases h.2 with ⟨rfl, h0⟩ | ⟨g, cap, cur, rfl, _, _, h6, _⟩
  · exact ⟨none, 0, by rw [h0], by omega⟩
  · exact ⟨_, cap, rfl, h6⟩
/-- '[]rec.Rec{r}' -/
theorem Wl.one (W : World) (hB : B ≤ W.heap.size) (r : Rc) {o : Obj} (ho : o = .cells (rcl r) 41) : Wl B (.slice (some ⟨W.heap.size, 0, none⟩) 1 1) [r] (W.alloc o) := by
  subst ho
  refine ⟨by simp [rcells_length], .inr ⟨W.heap.size, 1, rcl r, rfl, hB, Blk.new W 41 (rcl r), Nat.le_refl _, by unfold maxLen; omega, rfl, ?_⟩⟩
  simp [rcells]
  rfl
/-- 'append(list, r)' -/
theorem Wl.push (h : Wl B v ws W) (hB : B ≤ W.heap.size) (r : Rc) (hbig : ws.length + 1 ≤ 100000) {o : Obj} (ho : o = .cells (rcl r) 41) :
    ∃ g' cap' W', (Builtin.append_ #[22, 22] 22 #[v, .slice (some ⟨W.heap.size, 0, none⟩) 1 1]).run Tryz.prog (W.alloc o) = .ok (.slice (some ⟨g', 0, none⟩) (ws.length + 1) cap') W' ∧ Wl B (.slice (some ⟨g', 0, none⟩) (ws.length + 1) cap') (ws ++ [r]) W' ∧ (W.alloc o).grownBy W' v.ownBlock ∧ Below B W W' ∧ (v.ownBlock = some g' ∨ W.heap.size ≤ g') := by
  subst ho
  have hb := below_new W (.cells (rcl r) 41)
  have hX := Blk.new W 41 (rcl r)
  have h5 := h.held hb
  obtain ⟨i0, hi, hz0, hz1, hz2⟩ := info_parts infoRec
  obtain ⟨v', W', hr, hown, hgr, hnil, hat⟩ := run_append_own_at (P := Tryz.prog) (W.alloc (.cells (rcl r) 41)) B 22 22 41 i0 _ 9 56 (by kernel_rfl) hi hz0 hz1 hz2 rfl (by decide) v ws.length (ws.flatMap rcells) h5 ⟨W.heap.size, 0, none⟩ 1 1 (rcells r) (by rw [rcells_length]) (fun j u hu => by
    rw [Addr.add_mid, Nat.zero_add, hX.at_ j]
    simpa [rcells] using hu) (fun u hu => rcells_one [r] u (by simpa using hu))
    (by unfold maxLen; omega) (by omega) (Nat.le_trans hB hb.size)
  have hne : ¬ v' = .slice none 0 0 := fun e => by have := (hnil.1 e).2; omega
  rcases hown.2 with ⟨rfl, _⟩ | ⟨g', cap', cur, rfl, h4, h6, h7, h8, h9, h10⟩
  · exact absurd rfl hne
  · have e1 : (ws ++ [r]).flatMap rcells = ws.flatMap rcells ++ rcells r := by simp
    refine ⟨g', cap', W', hr, ⟨by rw [List.length_append, e1]; exact hown.1, .inr ⟨g', cap', cur, by rw [List.length_append]; rfl, h4, h6, by rw [List.length_append]; exact h7, h8, h9, by rw [List.length_append, e1]; exact h10⟩⟩, hgr, (hb.mono hB).grown hgr (Nat.le_trans hB hb.size) (fun kk e => (h5.lt e).2), ?_⟩
    rcases hat with h | h
    · exact .inl (h.symm.trans rfl)
    · have e2 : g' = (W.alloc (.cells (rcl r) 41)).heap.size := by simpa [Value.ownBlock] using h
      have := size_new W (.cells (rcl r) 41)
      exact .inr (by omega)
theorem Wl.recs (h : Wl B v ws W) : ∃ a cap, v = .slice a ws.length cap ∧ ws.length ≤ cap ∧ (0 < ws.length → ∃ b off, a = some ⟨b, off, none⟩ ∧ v.ownBlock = some b) ∧ ∀ b off, a = some ⟨b, off, none⟩ → Recs W b off ws := by
  obtain ⟨a, cap, hv, -, hc, hA, hR⟩ := row_recs h
  refine ⟨a, cap, hv, hc, fun h0 => ?_, hR⟩
  obtain ⟨b, off, e⟩ := hA h0
  exact ⟨b, off, e, by rw [hv, e]; rcases h.2 with ⟨h1, h2⟩ | ⟨g, cap', cur, h1, _⟩ <;> (rw [hv, e] at h1; cases h1); rfl⟩
end
end Go.Proofs.YtpgcnjoodoabhaaGreat

namespace Go.Proofs.YtpgcnjoodoabhaaGreat
open Go.RowKit Rm

section
variable {w w' : World} {d S M n : Nat} {safe : Nat → List UInt8} {wn : Int → Option (List UInt8)} {well : Int}
theorem put_at_fail1 (h : Dk w d S M n safe wn 0) {first size gen place : Nat} {z : Int} (hz : z = (place : Int)) (hi : first + place < n) {k : Int} {g l id a : Nat} {len : Int} {on : Bool} {s m : Nat} (hf : (⟨k, gen, place, id, a, len, on, s, m⟩ : Rc).Fits) (hr : right ⟨k, gen, place, id, a, len, on, s, m⟩ = true) :
    Calls Tryz.prog 35 #[.agg #[.pointer (some ⟨d, 0, none⟩), .int .i64 first, .int .i64 size, .int .u32 gen], .int .i64 z, .agg #[.int .i64 k, .int .u32 g, .int .u32 l, .int .u32 id, .int .u32 a, .int .i64 len, .bool on, .int .u32 s, .int .u16 m]] w fun e w' => e = .returned (.int .i64 4) ∧ Turn [d, S, M] w w' := by
  subst hz
  exact (put_fail1 h hi hf hr).mono fun e w' h => ⟨h.1, h.2.2⟩

set_option maxRecDepth 20000 in
set_option maxHeartbeats 4000000 in
theorem append_fail1 {lb first size gen len : Nat} {laid : Bool} {o fl : Option Nat} {id N : Nat} {T : Sm} (hN : Notes 74 (lgX d first size gen len laid) w lb o fl id N T) (h : Dk w d S M n safe wn 0)
    (hdis : ∀ x, x ∈ fp lb o fl → x ∉ [d, S, M]) (hi : first + (1 + len) < n) (hsz : 1 + len < size) (hg : gen < 4294967296) {k : Int} {g l rid a : Nat} {rn : Int} {on : Bool} {s m : Nat} (hf : (⟨k, g, l, rid, a, rn, on, s, m⟩ : Rc).Fits) (hr : right ⟨k, g, l, rid, a, rn, on, s, m⟩ = true) (hk : k ≠ 1) :
    Calls Tryz.prog 12 #[.pointer (some ⟨lb, 0, none⟩), .agg #[.int .i64 k, .int .u32 g, .int .u32 l, .int .u32 rid, .int .u32 a, .int .i64 rn, .bool on, .int .u32 s, .int .u16 m]] w fun e w' => e = .returned (.int .i64 4) ∧ Turn [d, S, M] w w' := by
  obtain ⟨cn, cm, hnm, hS⟩ := hN
  have n2 := h.n2
  have hk1 : (k == 1) = false := beq_eq_false_iff_ne.2 hk
  have hf2 : (⟨k, gen, 1 + len, rid, a, rn, on, s, m⟩ : Rc).Fits := ⟨hf.k1, hf.k2, hg, by show 1 + len < 4294967296; omega, hf.id, hf.a, hf.n1, hf.n2, hf.seq, hf.met⟩
  have hr2 : right ⟨k, gen, 1 + len, rid, a, rn, on, s, m⟩ = true := by rw [← right_two] at hr ⊢; unfold right2 at hr ⊢; exact hr
  have RB := Blk.new w 41 #[.int .i64 k, .int .u32 g, .int .u32 l, .int .u32 rid, .int .u32 a, .int .i64 rn, .bool on, .int .u32 s, .int .u16 m]
  have hb := below_new w (.cells #[.int .i64 k, .int .u32 g, .int .u32 l, .int .u32 rid, .int .u32 a, .int .i64 rn, .bool on, .int .u32 s, .int .u16 m] 41)
  go_enter Tryz.func12, Tryz.ntmps12
  have HH := Lib.hid (And.intro h (And.intro hS (And.intro hf (And.intro hf2 (And.intro hr2 (And.intro RB hb))))))
  have HRT := prright_eq hf.a hr (w.alloc (.cells #[.int .i64 k, .int .u32 g, .int .u32 l, .int .u32 rid, .int .u32 a, .int .i64 rn, .bool on, .int .u32 s, .int .u16 m] 41))
  have HDIS := Lib.hid hdis
  clear h hS hf hf2 hr hr2 RB hb hdis hk
  go_wp2_with fail
  generalize w.alloc (.cells #[.int .i64 k, .int .u32 g, .int .u32 l, .int .u32 rid, .int .u32 a, .int .i64 rn, .bool on, .int .u32 s, .int .u16 m] 41) = W at *
  refine HRT.mono ?_
  rintro e x1 ⟨rfl, hb1⟩
  obtain ⟨h, hS, hf, hf2, hr2, RB, hb⟩ := HH.out
  have hbb := next hb hb1
  have RB1 := RB.held hb1
  have hS1 := hS.held hbb
  have HF := full_log hS1 (by omega) (q := false) (decide_eq_false (by omega))
  have r0 := RB1.at_ 0
  have H1 := Lib.hid (And.intro hbb (And.intro RB1 hS1))
  clear h hS hf hf2 hr2 RB hb hbb RB1 hS1 HRT hb1
  go_wp2_with fail
  refine HF.mono ?_
  rintro e x2 ⟨rfl, hb2⟩
  obtain ⟨h, hS, hf, hf2, hr2, RB, hb⟩ := HH.out
  obtain ⟨hbb, RB1, hS1⟩ := H1.out
  have hbb2 := next hbb hb2
  have RB2 := (RB1.held hb2).drew
  have hS2 := (hS1.held hb2).drew
  have HL := lg_head hS2
  have hlb := hS.head.lt
  have hlt := h.head.lt
  have hltM := h.map.lt
  have hltS := h.ltS
  have hl1 := HDIS.out lb (mem_fp.2 (.inl rfl))
  simp only [List.mem_cons, List.not_mem_nil, or_false, not_or] at hl1
  obtain ⟨hl1, hl2, hl3⟩ := hl1
  clear r0
  have l4 : x2.drew.cell? ⟨lb, 4, none⟩ = some (.pointer (some ⟨d, 0, none⟩)) := HL.at_ 4
  have l5 : x2.drew.cell? ⟨lb, 5, none⟩ = some (.int .i64 first) := HL.at_ 5
  have l6 : x2.drew.cell? ⟨lb, 6, none⟩ = some (.int .i64 size) := HL.at_ 6
  have l7 : x2.drew.cell? ⟨lb, 7, none⟩ = some (.int .u32 gen) := HL.at_ 7
  have r0 : x2.drew.cell? ⟨w.heap.size, 0, none⟩ = some (.int .i64 k) := RB2.at_ 0
  have r1 : x2.drew.cell? ⟨w.heap.size, 1, none⟩ = some (.int .u32 g) := RB2.at_ 1
  have r2 : x2.drew.cell? ⟨w.heap.size, 2, none⟩ = some (.int .u32 l) := RB2.at_ 2
  have r3 : x2.drew.cell? ⟨w.heap.size, 3, none⟩ = some (.int .u32 rid) := RB2.at_ 3
  have r4 : x2.drew.cell? ⟨w.heap.size, 4, none⟩ = some (.int .u32 a) := RB2.at_ 4
  have r5 : x2.drew.cell? ⟨w.heap.size, 5, none⟩ = some (.int .i64 rn) := RB2.at_ 5
  have r6 : x2.drew.cell? ⟨w.heap.size, 6, none⟩ = some (.bool on) := RB2.at_ 6
  have r7 : x2.drew.cell? ⟨w.heap.size, 7, none⟩ = some (.int .u32 s) := RB2.at_ 7
  have r8 : x2.drew.cell? ⟨w.heap.size, 8, none⟩ = some (.int .u16 m) := RB2.at_ 8
  have HNX := next_any hS2 (by omega)
  have HPUT := put_at_fail1 (h.held hbb2).drew (size := size) (z := 1 + (len : Int)) (place := 1 + len) (by push_cast; rfl) hi (g := g) (l := l) hf2 hr2
  have H2 := Lib.hid (And.intro hbb2 (And.intro RB2 hS2))
  clear h hS hf hf2 hr2 RB hb hbb RB1 hS1 hbb2 RB2 hS2 HL H1 HF hb2
  go_wp2_with fail
  go_region_held3 (fun w' => w'.cell? ⟨lb, 4, none⟩ = some (.pointer (some ⟨d, 0, none⟩)) ∧ w'.cell? ⟨lb, 5, none⟩ = some (.int .i64 first) ∧ w'.cell? ⟨lb, 6, none⟩ = some (.int .i64 size) ∧ w'.cell? ⟨lb, 7, none⟩ = some (.int .u32 gen) ∧ w'.cell? ⟨w.heap.size, 0, none⟩ = some (.int .i64 k) ∧ w'.cell? ⟨w.heap.size, 1, none⟩ = some (.int .u32 g) ∧ w'.cell? ⟨w.heap.size, 2, none⟩ = some (.int .u32 l) ∧ w'.cell? ⟨w.heap.size, 3, none⟩ = some (.int .u32 rid) ∧ w'.cell? ⟨w.heap.size, 4, none⟩ = some (.int .u32 a) ∧ w'.cell? ⟨w.heap.size, 5, none⟩ = some (.int .i64 rn) ∧ w'.cell? ⟨w.heap.size, 6, none⟩ = some (.bool on) ∧ w'.cell? ⟨w.heap.size, 7, none⟩ = some (.int .u32 s) ∧ w'.cell? ⟨w.heap.size, 8, none⟩ = some (.int .u16 m))
    (first | exact ⟨l4, l5, l6, l7, r0, r1, r2, r3, r4, r5, r6, r7, r8⟩ | exact ⟨hT3.cell l4 (by simp; omega), hT3.cell l5 (by simp; omega), hT3.cell l6 (by simp; omega), hT3.cell l7 (by simp; omega), hT3.cell r0 (by simp; omega), hT3.cell r1 (by simp; omega), hT3.cell r2 (by simp; omega), hT3.cell r3 (by simp; omega), hT3.cell r4 (by simp; omega), hT3.cell r5 (by simp; omega), hT3.cell r6 (by simp; omega), hT3.cell r7 (by simp; omega), hT3.cell r8 (by simp; omega)⟩ | go_keep)
    (first | (go_at_call 36; refine HNX.mono ?_; rintro e w' ⟨rfl, rfl⟩)
           | (go_at_call 35; refine HPUT.mono ?_; rintro e x3 ⟨rfl, hT3⟩))
  obtain ⟨hbb2, RB2, hS2⟩ := H2.out
  have hTT := (Turn.of_below [d, S, M] hbb2.drew).trans hT3
  clear l4 l5 l6 l7 r0 r1 r2 r3 r4 r5 r6 r7 r8 hbb2 RB2 hS2 hT3 HNX HPUT H2
  go_wp2_with fail
  go_ret
  exact ⟨rfl, hTT⟩
theorem put_at_fail2 (h : Dk w d S M n safe wn 1) {first size gen place : Nat} {z : Int} (hz : z = (place : Int)) (hi : first + place < n) {k : Int} {g l id a : Nat} {len : Int} {on : Bool} {s m : Nat} (hf : (⟨k, gen, place, id, a, len, on, s, m⟩ : Rc).Fits) (hr : right ⟨k, gen, place, id, a, len, on, s, m⟩ = true) :
    Calls Tryz.prog 35 #[.agg #[.pointer (some ⟨d, 0, none⟩), .int .i64 first, .int .i64 size, .int .u32 gen], .int .i64 z, .agg #[.int .i64 k, .int .u32 g, .int .u32 l, .int .u32 id, .int .u32 a, .int .i64 len, .bool on, .int .u32 s, .int .u16 m]] w fun e w' => e = .returned (.int .i64 4) ∧ Turn [d, S, M] w w' := by
  subst hz
  exact (put_fail2 h hi hf hr).mono fun e w' h => ⟨h.1, h.2.2⟩

set_option maxRecDepth 20000 in
set_option maxHeartbeats 4000000 in
theorem append_fail2 {lb first size gen len : Nat} {laid : Bool} {o fl : Option Nat} {id N : Nat} {T : Sm} (hN : Notes 74 (lgX d first size gen len laid) w lb o fl id N T) (h : Dk w d S M n safe wn 1)
    (hdis : ∀ x, x ∈ fp lb o fl → x ∉ [d, S, M]) (hi : first + (1 + len) < n) (hsz : 1 + len < size) (hg : gen < 4294967296) {k : Int} {g l rid a : Nat} {rn : Int} {on : Bool} {s m : Nat} (hf : (⟨k, g, l, rid, a, rn, on, s, m⟩ : Rc).Fits) (hr : right ⟨k, g, l, rid, a, rn, on, s, m⟩ = true) (hk : k ≠ 1) :
    Calls Tryz.prog 12 #[.pointer (some ⟨lb, 0, none⟩), .agg #[.int .i64 k, .int .u32 g, .int .u32 l, .int .u32 rid, .int .u32 a, .int .i64 rn, .bool on, .int .u32 s, .int .u16 m]] w fun e w' => e = .returned (.int .i64 4) ∧ Turn [d, S, M] w w' := by
  obtain ⟨cn, cm, hnm, hS⟩ := hN
  have n2 := h.n2
  have hk1 : (k == 1) = false := beq_eq_false_iff_ne.2 hk
  have hf2 : (⟨k, gen, 1 + len, rid, a, rn, on, s, m⟩ : Rc).Fits := ⟨hf.k1, hf.k2, hg, by show 1 + len < 4294967296; omega, hf.id, hf.a, hf.n1, hf.n2, hf.seq, hf.met⟩
  have hr2 : right ⟨k, gen, 1 + len, rid, a, rn, on, s, m⟩ = true := by rw [← right_two] at hr ⊢; unfold right2 at hr ⊢; exact hr
  have RB := Blk.new w 41 #[.int .i64 k, .int .u32 g, .int .u32 l, .int .u32 rid, .int .u32 a, .int .i64 rn, .bool on, .int .u32 s, .int .u16 m]
  have hb := below_new w (.cells #[.int .i64 k, .int .u32 g, .int .u32 l, .int .u32 rid, .int .u32 a, .int .i64 rn, .bool on, .int .u32 s, .int .u16 m] 41)
  go_enter Tryz.func12, Tryz.ntmps12
  have HH := Lib.hid (And.intro h (And.intro hS (And.intro hf (And.intro hf2 (And.intro hr2 (And.intro RB hb))))))
  have HRT := prright_eq hf.a hr (w.alloc (.cells #[.int .i64 k, .int .u32 g, .int .u32 l, .int .u32 rid, .int .u32 a, .int .i64 rn, .bool on, .int .u32 s, .int .u16 m] 41))
  have HDIS := Lib.hid hdis
  clear h hS hf hf2 hr hr2 RB hb hdis hk
  go_wp2_with fail
  generalize w.alloc (.cells #[.int .i64 k, .int .u32 g, .int .u32 l, .int .u32 rid, .int .u32 a, .int .i64 rn, .bool on, .int .u32 s, .int .u16 m] 41) = W at *
  refine HRT.mono ?_
  rintro e x1 ⟨rfl, hb1⟩
  obtain ⟨h, hS, hf, hf2, hr2, RB, hb⟩ := HH.out
  have hbb := next hb hb1
  have RB1 := RB.held hb1
  have hS1 := hS.held hbb
  have HF := full_log hS1 (by omega) (q := false) (decide_eq_false (by omega))
  have r0 := RB1.at_ 0
  have H1 := Lib.hid (And.intro hbb (And.intro RB1 hS1))
  clear h hS hf hf2 hr2 RB hb hbb RB1 hS1 HRT hb1
  go_wp2_with fail
  refine HF.mono ?_
  rintro e x2 ⟨rfl, hb2⟩
  obtain ⟨h, hS, hf, hf2, hr2, RB, hb⟩ := HH.out
  obtain ⟨hbb, RB1, hS1⟩ := H1.out
  have hbb2 := next hbb hb2
  have RB2 := (RB1.held hb2).drew
  have hS2 := (hS1.held hb2).drew
  have HL := lg_head hS2
  have hlb := hS.head.lt
  have hlt := h.head.lt
  have hltM := h.map.lt
  have hltS := h.ltS
  have hl1 := HDIS.out lb (mem_fp.2 (.inl rfl))
  simp only [List.mem_cons, List.not_mem_nil, or_false, not_or] at hl1
  obtain ⟨hl1, hl2, hl3⟩ := hl1
  clear r0
  have l4 : x2.drew.cell? ⟨lb, 4, none⟩ = some (.pointer (some ⟨d, 0, none⟩)) := HL.at_ 4
  have l5 : x2.drew.cell? ⟨lb, 5, none⟩ = some (.int .i64 first) := HL.at_ 5
  have l6 : x2.drew.cell? ⟨lb, 6, none⟩ = some (.int .i64 size) := HL.at_ 6
  have l7 : x2.drew.cell? ⟨lb, 7, none⟩ = some (.int .u32 gen) := HL.at_ 7
  have r0 : x2.drew.cell? ⟨w.heap.size, 0, none⟩ = some (.int .i64 k) := RB2.at_ 0
  have r1 : x2.drew.cell? ⟨w.heap.size, 1, none⟩ = some (.int .u32 g) := RB2.at_ 1
  have r2 : x2.drew.cell? ⟨w.heap.size, 2, none⟩ = some (.int .u32 l) := RB2.at_ 2
  have r3 : x2.drew.cell? ⟨w.heap.size, 3, none⟩ = some (.int .u32 rid) := RB2.at_ 3
  have r4 : x2.drew.cell? ⟨w.heap.size, 4, none⟩ = some (.int .u32 a) := RB2.at_ 4
  have r5 : x2.drew.cell? ⟨w.heap.size, 5, none⟩ = some (.int .i64 rn) := RB2.at_ 5
  have r6 : x2.drew.cell? ⟨w.heap.size, 6, none⟩ = some (.bool on) := RB2.at_ 6
  have r7 : x2.drew.cell? ⟨w.heap.size, 7, none⟩ = some (.int .u32 s) := RB2.at_ 7
  have r8 : x2.drew.cell? ⟨w.heap.size, 8, none⟩ = some (.int .u16 m) := RB2.at_ 8
  have HNX := next_any hS2 (by omega)
  have HPUT := put_at_fail2 (h.held hbb2).drew (size := size) (z := 1 + (len : Int)) (place := 1 + len) (by push_cast; rfl) hi (g := g) (l := l) hf2 hr2
  have H2 := Lib.hid (And.intro hbb2 (And.intro RB2 hS2))
  clear h hS hf hf2 hr2 RB hb hbb RB1 hS1 hbb2 RB2 hS2 HL H1 HF hb2
  go_wp2_with fail
  go_region_held3 (fun w' => w'.cell? ⟨lb, 4, none⟩ = some (.pointer (some ⟨d, 0, none⟩)) ∧ w'.cell? ⟨lb, 5, none⟩ = some (.int .i64 first) ∧ w'.cell? ⟨lb, 6, none⟩ = some (.int .i64 size) ∧ w'.cell? ⟨lb, 7, none⟩ = some (.int .u32 gen) ∧ w'.cell? ⟨w.heap.size, 0, none⟩ = some (.int .i64 k) ∧ w'.cell? ⟨w.heap.size, 1, none⟩ = some (.int .u32 g) ∧ w'.cell? ⟨w.heap.size, 2, none⟩ = some (.int .u32 l) ∧ w'.cell? ⟨w.heap.size, 3, none⟩ = some (.int .u32 rid) ∧ w'.cell? ⟨w.heap.size, 4, none⟩ = some (.int .u32 a) ∧ w'.cell? ⟨w.heap.size, 5, none⟩ = some (.int .i64 rn) ∧ w'.cell? ⟨w.heap.size, 6, none⟩ = some (.bool on) ∧ w'.cell? ⟨w.heap.size, 7, none⟩ = some (.int .u32 s) ∧ w'.cell? ⟨w.heap.size, 8, none⟩ = some (.int .u16 m))
    (first | exact ⟨l4, l5, l6, l7, r0, r1, r2, r3, r4, r5, r6, r7, r8⟩ | exact ⟨hT3.cell l4 (by simp; omega), hT3.cell l5 (by simp; omega), hT3.cell l6 (by simp; omega), hT3.cell l7 (by simp; omega), hT3.cell r0 (by simp; omega), hT3.cell r1 (by simp; omega), hT3.cell r2 (by simp; omega), hT3.cell r3 (by simp; omega), hT3.cell r4 (by simp; omega), hT3.cell r5 (by simp; omega), hT3.cell r6 (by simp; omega), hT3.cell r7 (by simp; omega), hT3.cell r8 (by simp; omega)⟩ | go_keep)
    (first | (go_at_call 36; refine HNX.mono ?_; rintro e w' ⟨rfl, rfl⟩)
           | (go_at_call 35; refine HPUT.mono ?_; rintro e x3 ⟨rfl, hT3⟩))
  obtain ⟨hbb2, RB2, hS2⟩ := H2.out
  have hTT := (Turn.of_below [d, S, M] hbb2.drew).trans hT3
  clear l4 l5 l6 l7 r0 r1 r2 r3 r4 r5 r6 r7 r8 hbb2 RB2 hS2 hT3 HNX HPUT H2
  go_wp2_with fail
  go_ret
  exact ⟨rfl, hTT⟩
end
end Go.Proofs.YtpgcnjoodoabhaaGreat

