/-
  The statement's lease; its example.
  The example of the statements on journals.
  WalSmall's walk.
-/
import Derived.Test.YtpgcnjoodoabhaaGreatS09
import Derived.Test.YtpgcnjoodoabhaaGreatS15
import Derived.Test.YtpgcnjoodoabhaaGreatS16
import Derived.Test.YtpgcnjoodoabhaaGreatS17
import Derived.Deep.Cut
import Derived.Deep.RegionWith
import Derived.Deep.CutBlock
import Derived.Deep.CutRange
import Derived.Deep.RegionHeld3
namespace Go.Proofs.YtpgcnjoodoabhaaGreat
open Go.RowKit Rm

set_option maxRecDepth 20000 in
theorem lease_rec (n : Nat) (w : World) :
    Calls Tryz.prog 21 #[.int .u32 n] w fun e w' => e = .returned (.agg #[.int .i64 3, .int .u32 0, .int .u32 0, .int .u32 0, .int .u32 0, .int .i64 0, .bool false, .int .u32 n, .int .u16 0]) ∧ Below w.heap.size w w' := by
  have hZ := Blk.new w 41 #[.int .i64 3, .int .u32 0, .int .u32 0, .int .u32 0, .int .u32 0, .int .i64 0, .bool false, .int .u32 n, .int .u16 0]
  have hb := below_new w (.cells #[.int .i64 3, .int .u32 0, .int .u32 0, .int .u32 0, .int .u32 0, .int .i64 0, .bool false, .int .u32 n, .int .u16 0] 41)
  have H := Lib.hid (And.intro hZ hb)
  clear hZ hb
  go_enter Tryz.func21, Tryz.ntmps21
  go_wp2_with fail
  refine bodyPost_ret (v := .agg #[.int .i64 3, .int .u32 0, .int .u32 0, .int .u32 0, .int .u32 0, .int .i64 0, .bool false, .int .u32 n, .int .u16 0]) ?_ rfl ⟨rfl, H.out.2⟩
  simp [results, Tryz.results21, go_sem]

/-- the journal of a router without prefixes and floors, on a disk that doesn't fail -/
def Jr (w : World) (d S M n first size gen len : Nat) (id N lease lb : Nat) (W : World) : Prop :=
  ∃ o fl safe, Notes 74 (lgX d first size gen len false) W lb o fl id N ⟨lease, fun _ => none, fun _ => none⟩ ∧ Dk W d S M n safe (fun _ => none) (-1) ∧ Below w.heap.size w W ∧ (∀ x, x ∈ fp lb o fl → x ∉ [d, S, M] ∧ w.heap.size ≤ x) ∧ (∀ x, x ∈ [d, S, M] → w.heap.size ≤ x)
theorem lease_right (s : Nat) (h : s ≤ 1073741824) : right ⟨3, 0, 0, 0, 0, 0, false, s, 0⟩ = true := by
  rw [← right_two]
  unfold right2
  simp [Am.right, h]
theorem lease_fits (s : Nat) (h : s ≤ 1073741824) : (⟨3, 0, 0, 0, 0, 0, false, s, 0⟩ : Rc).Fits := by constructor <;> (dsimp only; omega)
theorem app_lease (l s : Nat) : app ⟨l, fun _ => none, fun _ => none⟩ ⟨3, 0, 0, 0, 0, 0, false, s, 0⟩ = ⟨max l s, fun _ => none, fun _ => none⟩ := by
  unfold app
  simp
theorem Jr.held {w : World} {d S M n first size gen len id N lease lb : Nat} {W W' : World} (h : Jr w d S M n first size gen len id N lease lb W) (hb : Below W.heap.size W W') : Jr w d S M n first size gen len id N lease lb W' := by
  obtain ⟨o, fl, safe, ⟨cn, cm, hnm, hS⟩, h2, h3, h4, h5⟩ := h
  exact ⟨o, fl, safe, ⟨cn, cm, hnm, hS.held hb⟩, h2.held hb, h3.trans (hb.mono h3.size), h4, h5⟩
theorem Jr.append {w : World} {d S M n first size gen len id N lease lb : Nat} {W : World} (h : Jr w d S M n first size gen len id N lease lb W) (hNN : N < 100000) (hi : first + (1 + len) < n) (hsz : 1 + len < size) (hg : gen < 4294967296) {s : Nat} (hs : s ≤ 1073741824) (hl : lease ≤ s) :
    Calls Tryz.prog 12 #[.pointer (some ⟨lb, 0, none⟩), .agg #[.int .i64 3, .int .u32 0, .int .u32 0, .int .u32 0, .int .u32 0, .int .i64 0, .bool false, .int .u32 s, .int .u16 0]] W fun e W' => e = .returned (.int .i64 0) ∧
      Jr w d S M n first size gen (len + 1) id (N + 1) s lb W' := by
  obtain ⟨o, fl, safe, h1, h2, h3, h4, h5⟩ := h
  refine (append_well h1 hNN h2 (by decide) (by decide) (fun x hx => (h4 x hx).1) hi hsz hg (lease_fits s hs) (lease_right s hs) (by decide)).mono ?_
  rintro e W' ⟨rfl, hD, o', fl', hN', hT, hf⟩
  rw [app_lease, Nat.max_eq_right hl] at hN'
  have hd : dec (dec (-1)) = -1 := rfl
  rw [hd] at hD
  have hmem : ∀ x, x ∈ [d, S, M] ++ fp lb o fl → w.heap.size ≤ x := fun x hx => (List.mem_append.1 hx).elim (h5 x) (fun h => (h4 x h).2)
  refine ⟨rfl, o', fl', _, hN', hD, h3.trans (hT.below hmem h3.size), fun x hx => ?_, h5⟩
  rcases hf x hx with h | h
  · exact h4 x h
  · refine ⟨fun hm => ?_, Nat.le_trans h3.size h⟩
    have a1 := h2.head.lt
    have a2 := h2.ltS
    have a3 := h2.map.lt
    simp only [List.mem_cons, List.not_mem_nil, or_false] at hm
    omega
theorem none_recs {l : Nat} (xs : List Pk) (ys : List Ky) (es : List (ElP (Sm.own ⟨l, fun _ => none, fun _ => none⟩))) (fs : List (ElK (Sm.floor ⟨l, fun _ => none, fun _ => none⟩))) (h1 : EsP (Sm.own ⟨l, fun _ => none, fun _ => none⟩) xs es) (h2 : ∀ x, x ∈ xs ↔ x.ok ∧ ((Sm.own ⟨l, fun _ => none, fun _ => none⟩) x).isSome = true)
    (h3 : EsK (Sm.floor ⟨l, fun _ => none, fun _ => none⟩) ys fs) (h4 : ∀ x, x ∈ ys ↔ x.ok ∧ ((Sm.floor ⟨l, fun _ => none, fun _ => none⟩) x).isSome = true) : recsOf ⟨l, fun _ => none, fun _ => none⟩ es fs = rL l := by
  have hx : xs = [] := List.eq_nil_iff_forall_not_mem.2 fun x hx => by have := ((h2 x).1 hx).2; simp at this
  have hy : ys = [] := List.eq_nil_iff_forall_not_mem.2 fun x hx => by have := ((h4 x).1 hx).2; simp at this
  subst hx hy
  have he : es = [] := List.map_eq_nil_iff.1 h1
  have hf : fs = [] := List.map_eq_nil_iff.1 h3
  subst he hf
  simp [recsOf]
theorem Jr.full {w : World} {d S M n first size gen len id N lease lb : Nat} {W : World} (h : Jr w d S M n first size gen len id N lease lb W) (hNN : N < 100000) (hlen : len ≤ 100000) (hfull : size ≤ 1 + len) (hsf : first ≤ size) (hsz : size ≤ 1000) (h3s : 3 ≤ size) (hn : (size - first) + size ≤ n) (hg : gen < 4294967294) (h0 : 0 < id) (h1 : id < 4294967296) {s : Nat} (hs : s ≤ 1073741824) (hl : lease ≤ s) (hl0 : lease ≠ 0) :
    Calls Tryz.prog 12 #[.pointer (some ⟨lb, 0, none⟩), .agg #[.int .i64 3, .int .u32 0, .int .u32 0, .int .u32 0, .int .u32 0, .int .i64 0, .bool false, .int .u32 s, .int .u16 0]] W fun e W' => e = .returned (.int .i64 0) ∧
      Jr w d S M n (size - first) size (gen + 1) 2 id (N + 1) s lb W' := by
  obtain ⟨o, fl, safe, g1, g2, g3, g4, g5⟩ := h
  have hgood : GoodSm ⟨lease, fun _ => none, fun _ => none⟩ := ⟨by show lease ≤ _; omega, fun _ _ h => (by cases h), fun _ _ h => (by cases h)⟩
  have hr1 : (rL lease).length = 1 := by unfold rL; rw [if_neg hl0]; rfl
  refine (append_full g1 hNN g2 (fun x hx => (g4 x hx).1) hlen hfull hgood hsf hsz rfl rfl hn hg h0 h1 (fun xs ys es fs a1 _ a2 a3 _ a4 => by rw [none_recs xs ys es fs a1 a2 a3 a4, hr1]; omega) (lease_fits s hs) (lease_right s hs) (by decide)).mono ?_
  rintro e W' ⟨rfl, xs, ys, es, fs, ⟨a1, -, a2, a3, -, a4⟩, hD, o', fl', hN', hT, hf⟩
  rw [none_recs xs ys es fs a1 a2 a3 a4, hr1, app_lease, Nat.max_eq_right hl] at hN'
  have hmem : ∀ x, x ∈ [d, S, M] ++ fp lb o fl → w.heap.size ≤ x := fun x hx => (List.mem_append.1 hx).elim (g5 x) (fun h => (g4 x h).2)
  refine ⟨rfl, o', fl', _, hN', hD, g3.trans (hT.below hmem g3.size), fun x hx => ?_, g5⟩
  rcases hf x hx with h | h
  · exact g4 x h
  · refine ⟨fun hm => ?_, Nat.le_trans g3.size h⟩
    have b1 := g2.head.lt
    have b2 := g2.ltS
    have b3 := g2.map.lt
    simp only [List.mem_cons, List.not_mem_nil, or_false] at hm
    omega
end Go.Proofs.YtpgcnjoodoabhaaGreat

namespace Go.Proofs.YtpgcnjoodoabhaaGreat
open Go.RowKit Rm

theorem Jr.gen {w : World} {d S M n first size gen len id N lease lb : Nat} {W : World} (h : Jr w d S M n first size gen len id N lease lb W) : Calls Tryz.prog 15 #[.pointer (some ⟨lb, 0, none⟩)] W fun e w' => e = .returned (.int .u32 gen) ∧ W = w' := by
  obtain ⟨o, fl, safe, ⟨cn, cm, hnm, hS⟩, -⟩ := h
  exact gen_any hS
theorem Jr.len {w : World} {d S M n first size gen len id N lease lb : Nat} {W : World} (h : Jr w d S M n first size gen len id N lease lb W) : Calls Tryz.prog 16 #[.pointer (some ⟨lb, 0, none⟩)] W fun e w' => e = .returned (.int .i64 len) ∧ W = w' := by
  obtain ⟨o, fl, safe, ⟨cn, cm, hnm, hS⟩, -⟩ := h
  exact len_any hS
theorem Jr.state {w : World} {d S M n first size gen len id N lease lb : Nat} {W : World} (h : Jr w d S M n first size gen len id N lease lb W) : Calls Tryz.prog 10 #[.pointer (some ⟨lb, 0, none⟩)] W fun e w' => e = .returned (.pointer (some ⟨lb, 0, none⟩)) ∧ W = w' := by
  obtain ⟨o, fl, safe, ⟨cn, cm, hnm, hS⟩, -⟩ := h
  exact state_any hS
theorem Jr.lease {w : World} {d S M n first size gen len id N lease lb : Nat} {W : World} (h : Jr w d S M n first size gen len id N lease lb W) : Calls Tryz.prog 22 #[.pointer (some ⟨lb, 0, none⟩)] W fun e w' => e = .returned (.int .u32 lease) ∧ W = w' := by
  obtain ⟨o, fl, safe, ⟨cn, cm, hnm, hS⟩, -⟩ := h
  exact lease_any hS
/-- a new disk, and a new journal on it -/
theorem Jr.open {w w1 : World} {d S M n : Nat} (hD : Dk w1 d S M n (fun _ => List.replicate 48 0) (fun _ => none) (-1)) (hb : Below w.heap.size w w1) (hd : ∀ x, x ∈ [d, S, M] → w.heap.size ≤ x) (hn : 4 ≤ n) {id : Nat} (h0 : 0 < id) (h1 : id < 4294967296) :
    Calls Tryz.prog 7 #[.pointer (some ⟨d, 0, none⟩), .int .u32 id] w1 fun e w' => ∃ lb, e = .returned (.tuple #[.pointer (some ⟨lb, 0, none⟩), .int .i64 0]) ∧ Jr w d S M n 0 (n / 2) 1 0 id 0 0 lb w' := by
  refine (open_well hD (fun i _ => recAt_zero) (by decide) (by decide) h0 h1 hn).mono ?_
  rintro e w' ⟨lb, rfl, hlb, hN, hD', hT⟩
  have a1 := hD.head.lt
  have a2 := hD.ltS
  have a3 := hD.map.lt
  refine ⟨lb, rfl, none, none, _, hN, hD', hb.trans (hT.below hd hb.size), fun x hx => ?_, hd⟩
  have hx' : x = lb := by simpa [mem_fp] using hx
  subst hx'
  have := hb.size
  refine ⟨fun hm => ?_, by omega⟩
  simp only [List.mem_cons, List.not_mem_nil, or_false] at hm
  omega

set_option maxRecDepth 20000 in
set_option maxHeartbeats 4000000 in
theorem whead_any (w : World) : Calls Tryz.prog 5 #[] w fun e w' => e = .returned (.bool true) ∧ Below w.heap.size w w' := by
  go_enter Tryz.func5, Tryz.ntmps5
  go_wp2_with fail
  refine (new_in 8 (by omega) (by omega) w).mono ?_
  rintro e w1 ⟨rfl, hD, hb⟩
  have hd : ∀ x, x ∈ [w.heap.size + 2, w.heap.size, w.heap.size + 1] → w.heap.size ≤ x := fun x hx => by simp at hx; omega
  have HO := Jr.open hD hb hd (by omega) (id := 7) (by omega) (by omega)
  clear hD hb hd
  generalize w.heap.size + 2 = d at *
  obtain ⟨S, hS⟩ : ∃ S, S = w.heap.size := ⟨_, rfl⟩
  go_wp2_with fail
  refine HO.mono ?_
  rintro e w2 ⟨lb, rfl, HJ⟩
  have H := Lib.hid HJ
  clear HO HJ hS
  go_wp2_with fail
  go_loopw [4] (fun i wr => ∃ k : Nat, k ≤ 3 ∧ i = .int .u32 ((k + 1 : Nat) : Int) ∧ Jr w d w.heap.size (w.heap.size + 1) 8 0 4 1 k 7 k k lb wr) (fun i _ => 4 - (intOf i).toNat)
  case atStart => exact ⟨0, by omega, rfl, H.out⟩
  case round =>
    clear H
    obtain ⟨k, hk, rfl, HJ⟩ := hrel
    by_cases hlt : k < 3
    · have d1 : decide (((k + 1 : Nat) : Int) ≤ 3) = true := decide_eq_true (by omega)
      have H := Lib.hid HJ
      clear HJ
      have hq : IntKind.u32.wrap (((k + 1 : Nat) : Int) + 1) = ((k + 1 + 1 : Nat) : Int) := by simp [IntKind.wrap, IntKind.bits, IntKind.signed]; omega
      generalize hj : k + 1 = j at *
      go_wp2_with fail
      refine (lease_rec j wr).mono ?_
      rintro e w3 ⟨rfl, hb3⟩
      have HA := (H.out.held hb3).append (s := j) (by omega) (by omega) (by omega) (by omega) (by omega) (by omega)
      clear H hb3
      go_wp2_with fail
      refine HA.mono ?_
      rintro e w4 ⟨rfl, HJ4⟩
      have H4 := Lib.hid HJ4
      clear HA HJ4
      go_wp2_with fail
      refine H4.out.gen.mono ?_
      rintro e w' ⟨rfl, rfl⟩
      go_wp2_with fail
      go_roundw
      case rel => exact ⟨j, by omega, rfl, hj ▸ H4.out⟩
      case measure => simp [intOf]; omega
    · obtain rfl : k = 3 := by omega
      have H := Lib.hid HJ
      clear HJ
      go_wp2_with fail
      have HL : Calls Tryz.prog 16 #[.pointer (some ⟨lb, 0, none⟩)] wr fun e w' => e = .returned (.int .i64 3) ∧ wr = w' := H.out.len
      refine HL.mono ?_
      rintro e w' ⟨rfl, rfl⟩
      clear HL
      go_wp2_with fail
      refine (lease_rec 4 wr).mono ?_
      rintro e w3 ⟨rfl, hb3⟩
      have HA := (H.out.held hb3).full (s := 4) (by omega) (by omega) (by omega) (by omega) (by omega) (by omega) (by omega) (by omega) (by omega) (by omega) (by omega) (by omega) (by omega)
      clear H hb3
      go_wp2_with fail
      refine HA.mono ?_
      rintro e w4 ⟨rfl, HJ4⟩
      have H4 := Lib.hid HJ4
      clear HA HJ4
      have HG : Calls Tryz.prog 15 #[.pointer (some ⟨lb, 0, none⟩)] w4 fun e w' => e = .returned (.int .u32 2) ∧ w4 = w' := H4.out.gen
      have HL : Calls Tryz.prog 16 #[.pointer (some ⟨lb, 0, none⟩)] w4 fun e w' => e = .returned (.int .i64 2) ∧ w4 = w' := H4.out.len
      have HE : Calls Tryz.prog 22 #[.pointer (some ⟨lb, 0, none⟩)] w4 fun e w' => e = .returned (.int .u32 4) ∧ w4 = w' := H4.out.lease
      have HT := H4.out.state
      go_wp2_with fail
      refine HG.mono ?_
      rintro e w' ⟨rfl, rfl⟩
      clear HG
      go_wp2_with fail
      refine HL.mono ?_
      rintro e w' ⟨rfl, rfl⟩
      clear HL
      go_wp2_with fail
      refine HT.mono ?_
      rintro e w' ⟨rfl, rfl⟩
      clear HT
      go_wp2_with fail
      refine HE.mono ?_
      rintro e w' ⟨rfl, rfl⟩
      clear HE
      go_wp2_with fail
      go_ret
      obtain ⟨_, _, _, _, _, hB, _⟩ := H4.out
      exact ⟨rfl, hB⟩
end Go.Proofs.YtpgcnjoodoabhaaGreat

namespace Go.Proofs.YtpgcnjoodoabhaaGreat
open Go.RowKit Rm

/-! ### a region that draws its order, an operation at a time, each written out -/
section
variable {P : Program} {Q : Exit → Act → World → Prop} {md : Region.Mode} {S : World → Prop}
theorem list_at {α : Type} {l rest : List α} {i : Nat} {o : α} (h : l.drop i = o :: rest) : l.toArray[i]? = some o := by
  have e : (l.drop i)[0]? = some o := by rw [h]; rfl
  rw [List.getElem?_drop] at e
  simpa using e
theorem take_list {l rest : List Oper} {i : Nat} {oi : Oper} {v : Value} {fuel : Nat} {listed : Array Bool} {a : Act} {w : World} (hi : l.drop i = oi :: rest)
    (hs : Region.noSelect l.toArray = true) (hf : Region.free md l.toArray listed i = true) (hr : (Region.ready md l.toArray listed).contains i = true)
    (hQ : ∀ c a w, Q (.panic c) (a.put oi.dst v) w → Q (.panic c) a w) (hy : YieldsIf P l.toArray S oi v a) (hS : S w)
    (h : wpAnyH P md l.toArray Q S fuel (listed.setIfInBounds i true) (a.put oi.dst v) w) : wpAnyH P md l.toArray Q S (fuel + 1) listed a w :=
  wpAnyH_take (list_at hi) hs hf hr hQ hy hS h
theorem ready_list {l rest : List Oper} {fuel : Nat} {listed : Array Bool} {a : Act} {w : World} {i : Nat} {o : Oper} (ho : l.drop i = o :: rest) (hr : Region.ready md l.toArray listed = [i])
    (h : ∀ K' : Act → World → Prop, Shut (∀ a w, S w → (S w → wpAnyH P md l.toArray Q S fuel (listed.setIfInBounds i true) a w) → K' a w) → if Region.wanted o (yielded l.toArray a.tmps) = true then Oper.wp P o a w K' Q else K' (a.put o.dst undef) w) :
    wpAnyH P md l.toArray Q S (fuel + 1) listed a w :=
  wpAnyH_ready hr (by simp) (AllReadyH.cons (list_at ho) h AllReadyH.nil)
end

theorem and_seven (z : Int) : ∃ c : Nat, c ≤ 7 ∧ bits .and .i64 z 7 = (c : Int) := by
  have h : (BitVec.ofInt 64 z &&& BitVec.ofInt 64 7).toNat ≤ 7 := by
    rw [BitVec.toNat_and]
    exact Nat.and_le_right
  have e : bits .and .i64 z 7 = IntKind.i64.wrap ((BitVec.ofInt 64 z &&& BitVec.ofInt 64 7).toNat : Int) := rfl
  rw [e]
  generalize (BitVec.ofInt 64 z &&& BitVec.ofInt 64 7).toNat = n at h
  refine ⟨n, h, ?_⟩
  simp only [IntKind.wrap, IntKind.bits, IntKind.signed]
  simp
  omega
theorem and_three (z : Int) : ∃ c : Nat, c ≤ 3 ∧ bits .and .i64 z 3 = (c : Int) := by
  have h : (BitVec.ofInt 64 z &&& BitVec.ofInt 64 3).toNat ≤ 3 := by
    rw [BitVec.toNat_and]
    exact Nat.and_le_right
  have e : bits .and .i64 z 3 = IntKind.i64.wrap ((BitVec.ofInt 64 z &&& BitVec.ofInt 64 3).toNat : Int) := rfl
  rw [e]
  generalize (BitVec.ofInt 64 z &&& BitVec.ofInt 64 3).toNat = n at h
  refine ⟨n, h, ?_⟩
  simp only [IntKind.wrap, IntKind.bits, IntKind.signed]
  simp
  omega

set_option maxRecDepth 20000 in
theorem new_zero (w : World) : Calls Tryz.prog 6 #[.int .i64 0] w fun e w' =>
    e = .returned (.pointer (some ⟨w.heap.size + 2, 0, none⟩)) ∧ Dk w' (w.heap.size + 2) w.heap.size (w.heap.size + 1) 1 (fun _ => List.replicate 48 0) (fun _ => none) (-1) ∧ Below w.heap.size w w' := by
  have hmk : ∀ w : World, (Instr.makeSlice 60 (.int .i64 (min (max 0 1) 512)) (.int .i64 (min (max 0 1) 512))).run Tryz.prog w = .ok (.slice (some ⟨w.heap.size, 0, none⟩) 1 1) (w.alloc (.cells (zer 1) 103)) := fun w => run_make_sectors 1 (by omega) w
  have hzs := zer_size 1
  have hzr := zero_rows 1
  generalize zer 1 = Z1 at *
  have hmm := @run_makeMap Tryz.prog
  go_enter Tryz.func6, Tryz.ntmps6
  go_wp2
  go_ret
  refine ⟨rfl, ?_, ((below_new w _).alloc (by simp) _).alloc (by simp; omega) _⟩
  have hs1 := size_new w (.cells Z1 103)
  have hX := Blk.new w 103 Z1
  generalize w.alloc (.cells Z1 103) = w1 at *
  have hM := Mp.new (P := Tryz.prog) (k := 3) w1
  have hs2 := size_new w1 (.map #[] 0)
  have hX2 := hX.more (.map #[] 0)
  generalize w1.alloc (.map #[] 0) = w2 at *
  have hb := below_new w2 (.cells #[.slice (some ⟨w.heap.size, 0, none⟩) 1 1, .map (some (w.heap.size + 1)), .int .i64 (-1)] 63)
  have hH := Blk.new w2 63 #[.slice (some ⟨w.heap.size, 0, none⟩) 1 1, .map (some (w.heap.size + 1)), .int .i64 (-1)]
  rw [show w2.heap.size = w.heap.size + 2 by omega] at hH
  rw [hs1] at hM
  exact ⟨hH, ⟨_, hX2.held hb, hzs, hzr⟩, hM.of_block (hb.block _ (by omega)), fun _ _ => by simp, fun z s h => by simp at h, by omega, by omega, by omega, by omega⟩
theorem new_few (n : Nat) (h : n ≤ 512) (w : World) : ∃ N, N = max n 1 ∧ Calls Tryz.prog 6 #[.int .i64 (n : Int)] w fun e w' =>
    e = .returned (.pointer (some ⟨w.heap.size + 2, 0, none⟩)) ∧ Dk w' (w.heap.size + 2) w.heap.size (w.heap.size + 1) N (fun _ => List.replicate 48 0) (fun _ => none) (-1) ∧ Below w.heap.size w w' := by
  rcases Nat.eq_zero_or_pos n with rfl | h0
  · exact ⟨1, rfl, new_zero w⟩
  · exact ⟨n, by omega, new_in n h0 h w⟩
theorem Jr.disk {w : World} {d S M n first size gen len id N lease lb : Nat} {W : World} (h : Jr w d S M n first size gen len id N lease lb W) : ∃ safe, Dk W d S M n safe (fun _ => none) (-1) := by
  obtain ⟨o, fl, safe, -, h2, -⟩ := h
  exact ⟨safe, h2⟩
theorem Jr.below {w : World} {d S M n first size gen len id N lease lb : Nat} {W : World} (h : Jr w d S M n first size gen len id N lease lb W) : Below w.heap.size w W := by
  obtain ⟨_, _, _, _, _, hB, _⟩ := h
  exact hB

set_option maxRecDepth 20000 in
set_option maxHeartbeats 1000000 in
theorem small_any (n after : Int) (w : World) : Calls Tryz.prog 4 #[.int .i64 n, .int .i64 after] w fun e w' => e = .returned (.bool true) ∧ Below w.heap.size w w' := by
  obtain ⟨N, hN, eN⟩ := and_seven n
  obtain ⟨a, ha, ea⟩ := and_three after
  go_enter Tryz.func4, Tryz.ntmps4
  go_wp2_with fail
  refine (whead_any w).mono ?_
  rintro e w1 ⟨rfl, hb1⟩
  go_wp2_with fail
  obtain ⟨K, hK, HN⟩ := new_few N (by omega) w1
  refine HN.mono ?_
  rintro e w2 ⟨rfl, hD, hb2⟩
  clear HN
  by_cases h4 : K < 4
  · have HO := open_small hD (id := 3) h4
    have HS := Lib.hid (And.intro hD (next hb1 hb2))
    clear hD hb1 hb2 hK
    generalize w1.heap.size + 2 = d at *
    go_wp2_with fail
    refine HO.mono ?_
    rintro e w3 ⟨rfl, hb3⟩
    have HZ := size_any (HS.out.1.held hb3)
    have HB := Lib.hid (next HS.out.2 hb3)
    have d4 : decide ((K : Int) < 4) = true := decide_eq_true (by omega)
    clear HO HS hb3
    go_wp2_with fail
    refine HZ.mono ?_
    rintro e w' ⟨rfl, rfl⟩
    go_wp2_with fail
    go_ret
    exact ⟨rfl, HB.out⟩
  · have hKN : K = N := by omega
    clear hK
    subst hKN
    have hd : ∀ x, x ∈ [w1.heap.size + 2, w1.heap.size, w1.heap.size + 1] → w.heap.size ≤ x := fun x hx => by have := hb1.size; simp at hx; omega
    have HO := Jr.open hD (next hb1 hb2) hd (by omega) (id := 3) (by omega) (by omega)
    clear hD hb1 hb2 hd
    generalize w1.heap.size + 2 = d at *
    generalize w1.heap.size + 1 = M at *
    generalize w1.heap.size = S at *
    go_wp2_with fail
    refine HO.mono ?_
    rintro e w3 ⟨lb, rfl, HJ⟩
    clear HO
    obtain ⟨safe, hD⟩ := HJ.disk
    have HZ := size_any hD
    have HB := Lib.hid HJ.below
    have d4 : decide ((K : Int) < 4) = false := decide_eq_false (by omega)
    clear HJ hD
    go_wp2_with fail
    refine HZ.mono ?_
    rintro e w' ⟨rfl, rfl⟩
    clear HZ
    go_wp2_with fail
    refine (new_in K (by omega) (by omega) w3).mono ?_
    rintro e w4 ⟨rfl, hD, hb4⟩
    have hd : ∀ x, x ∈ [w3.heap.size + 2, w3.heap.size, w3.heap.size + 1] → w3.heap.size ≤ x := fun x hx => by simp at hx; omega
    have HF := fail_any hD (a := (a : Int)) (by omega)
    have hfa : failAt (a : Int) = (a : Int) := by unfold failAt; rw [if_neg (by omega)]
    rw [hfa] at HF
    have H4 := Lib.hid (And.intro hb4 hd)
    clear hD hb4 hd hfa
    generalize w3.heap.size + 2 = f at *
    generalize w3.heap.size + 1 = M2 at *
    generalize hS2 : w3.heap.size = S2 at *
    go_wp2_with fail
    refine HF.mono ?_
    rintro e w5 ⟨rfl, hD5, hT5, hz5⟩
    have hw3 : w.heap.size ≤ S2 := hS2 ▸ HB.out.size
    have B5 : Below w.heap.size w w5 := by
      have h1 : Below w.heap.size w w4 := HB.out.trans (H4.out.1.mono hw3)
      exact h1.trans (hT5.below (fun x hx => Nat.le_trans hw3 (H4.out.2 x (by simp at hx ⊢; exact .inl hx))) h1.size)
    have hq : ∀ x, x ∈ [f, S2, M2] → w.heap.size ≤ x := fun x hx => Nat.le_trans hw3 (H4.out.2 x hx)
    have X := Lib.hid (And.intro B5 hq)
    have hK4 : 4 ≤ K := by omega
    have hK7 : K < 1000 := by omega
    clear HF H4 hT5 hz5 HB hS2 hw3 B5 hq eN ea d4 h4 hN
    have ha4 : a = 0 ∨ a = 1 ∨ a = 2 ∨ a = 3 := by omega
    rcases ha4 with rfl | rfl | rfl | rfl
    · have HO : Calls Tryz.prog 7 #[.pointer (some ⟨f, 0, none⟩), .int .u32 3] w5 fun e w' => e = .returned (.tuple #[.pointer none, .int .i64 4]) ∧ Turn [f, S2, M2] w5 w' := open_fail1 hD5 (fun i _ => recAt_zero) (id := 3) (by omega) (by omega) hK4
      clear hD5
      go_wp2_with fail
      refine HO.mono ?_
      rintro e w6 ⟨rfl, hT⟩
      have B6 := Lib.hid (X.out.1.trans (hT.below X.out.2 X.out.1.size))
      clear HO hT X
      go_wp2_with fail
      go_ret
      exact ⟨rfl, B6.out⟩
    · have HO : Calls Tryz.prog 7 #[.pointer (some ⟨f, 0, none⟩), .int .u32 3] w5 fun e w' => e = .returned (.tuple #[.pointer none, .int .i64 4]) ∧ Turn [f, S2, M2] w5 w' := open_fail2 hD5 (fun i _ => recAt_zero) (id := 3) (by omega) (by omega) hK4
      clear hD5
      go_wp2_with fail
      refine HO.mono ?_
      rintro e w6 ⟨rfl, hT⟩
      have B6 := Lib.hid (X.out.1.trans (hT.below X.out.2 X.out.1.size))
      clear HO hT X
      go_wp2_with fail
      go_ret
      exact ⟨rfl, B6.out⟩
    · have HO := open_well hD5 (fun i _ => recAt_zero) (by decide) (by decide) (id := 3) (by omega) (by omega) hK4
      have hdd : dec (dec ((2 : Nat) : Int)) = 0 := rfl
      rw [hdd] at HO
      clear hdd
      go_wp2_with fail
      refine HO.mono ?_
      rintro e w6 ⟨lc, rfl, hlc, hN6, hD6, hT⟩
      clear HO
      have B6 : Below w.heap.size w w6.drew := (X.out.1.trans (hT.below X.out.2 X.out.1.size)).drew
      have hfl := hD5.head.lt
      have hSl := hD5.ltS
      have hMl := hD5.map.lt
      have hz6 := hT.size
      have hdis : ∀ x, x ∈ fp lc none none → x ∉ [f, S2, M2] := fun x hx => by
        have hx' : x = lc := by simpa [mem_fp] using hx
        subst hx'
        simp; omega
      have AP : Hid (∀ W' : World, Below w6.drew.heap.size w6.drew W' → Calls Tryz.prog 12 #[.pointer (some ⟨lc, 0, none⟩), .agg #[.int .i64 3, .int .u32 0, .int .u32 0, .int .u32 0, .int .u32 0, .int .i64 0, .bool false, .int .u32 1, .int .u16 0]] W' fun e w'' => e = .returned (.int .i64 4) ∧ Turn [f, S2, M2] W' w'') := Lib.hid (fun W' hb => by
        obtain ⟨cn, cm, hnm, hS⟩ := hN6
        exact append_fail1 ⟨cn, cm, hnm, hS.drew.held hb⟩ (hD6.drew.held hb) hdis (by omega) (by omega) (by omega) (lease_fits 1 (by omega)) (lease_right 1 (by omega)) (by decide))
      have hout : ∀ x, w6.drew.heap.size ≤ x → x ∉ [f, S2, M2] := fun x hx => by
        have : w6.drew.heap.size = w6.heap.size := rfl
        simp; omega
      have Y := Lib.hid (And.intro B6 hout)
      clear hD5 hN6 hD6 hT hlc B6 hfl hSl hMl hz6 hdis hout hK4 hK7
      go_wp2_with fail
      have hw0 : IntKind.i64.wrap 0 = 0 := rfl
      refine wp_region_held_drew (S := fun _ => True) (by kernel_rfl) trivial (fun hHeld => ?_)
      refine take_list (i := 0) (v := .int .i64 0) rfl (by kernel_rfl) (by kernel_rfl) (by kernel_rfl) (fun _ _ _ h => h) (.inl ⟨rfl, ?_⟩) hHeld ?_
      · (intro w hSw; go_simp)
      go_frame
      refine take_list (i := 1) (v := .bool true) rfl (by kernel_rfl) (by kernel_rfl) (by kernel_rfl) (fun _ _ _ h => h) (.inl ⟨rfl, ?_⟩) hHeld ?_
      · (intro w hSw; go_simp)
      go_frame
      refine take_list (i := 2) (v := .bool true) rfl (by kernel_rfl) (by kernel_rfl) (by kernel_rfl) (fun _ _ _ h => h) (.inl ⟨rfl, ?_⟩) hHeld ?_
      · (intro w hSw; go_simp)
      go_frame
      refine take_list (i := 3) (v := .int .i64 0) rfl (by kernel_rfl) (by kernel_rfl) (by kernel_rfl) (fun _ _ _ h => h) (.inl ⟨rfl, ?_⟩) hHeld ?_
      · (intro w hSw; go_simp)
      go_frame
      refine take_list (i := 4) (v := .bool true) rfl (by kernel_rfl) (by kernel_rfl) (by kernel_rfl) (fun _ _ _ h => h) (.inl ⟨rfl, ?_⟩) hHeld ?_
      · (intro w hSw; go_simp)
      go_frame
      refine take_list (i := 5) (v := .bool true) rfl (by kernel_rfl) (by kernel_rfl) (by kernel_rfl) (fun _ _ _ h => h) (.inl ⟨rfl, ?_⟩) hHeld ?_
      · (intro w hSw; go_simp)
      go_frame
      refine take_list (i := 6) (v := .bool true) rfl (by kernel_rfl) (by kernel_rfl) (by kernel_rfl) (fun _ _ _ h => h) (.inl ⟨rfl, ?_⟩) hHeld ?_
      · (intro w hSw; go_simp)
      go_frame
      refine take_list (i := 7) (v := .pointer (some ⟨lc, 0, none⟩)) rfl (by kernel_rfl) (by kernel_rfl) (by kernel_rfl) (fun _ _ _ h => h) (.inl ⟨rfl, ?_⟩) hHeld ?_
      · (intro w hSw; go_simp)
      go_frame
      refine take_list (i := 11) (v := .int .i64 2) rfl (by kernel_rfl) (by kernel_rfl) (by kernel_rfl) (fun _ _ _ h => h) (.inl ⟨rfl, ?_⟩) hHeld ?_
      · (intro w hSw; go_simp)
      go_frame
      refine take_list (i := 12) (v := .int .i64 0) rfl (by kernel_rfl) (by kernel_rfl) (by kernel_rfl) (fun _ _ _ h => h) (.inl ⟨rfl, ?_⟩) hHeld ?_
      · (intro w hSw; go_simp)
      go_frame
      refine wpAnyH_ready (rs := [8, 10]) (by kernel_rfl) (by simp) ?_
      refine AllReadyH.cons (list_at (by rfl)) (fun K hK => ?_) ?_
      · skip
        go_simp
        refine (lease_rec 1 _).mono ?_
        rintro e w7 ⟨rfl, hb7⟩
        have hA7 := next (Below.refl _ _) hb7
        refine hK.out _ _ trivial (fun hHeld => ?_)
        clear hK K
        try go_frame
        refine wpAnyH_ready (rs := [9, 10]) (by kernel_rfl) (by simp) ?_
        refine AllReadyH.cons (list_at (by rfl)) (fun K hK => ?_) ?_
        · skip
          go_simp
          refine (AP.out _ hA7).mono ?_
          rintro e w8 ⟨rfl, hT8⟩
          have hB8 := (next Y.out.1 hA7).trans (hT8.below X.out.2 (next Y.out.1 hA7).size)
          refine hK.out _ _ trivial (fun hHeld => ?_)
          clear hK K
          try go_frame
          refine ready_list (i := 10) rfl (by kernel_rfl) (fun K hK => ?_)
          go_simp
          have rc : (w8.alloc (.cells #[.int .i64 4, .int .i64 4] 28)).cell? ⟨w8.heap.size, 0, none⟩ = some (.int .i64 4) := ((new_cell w8 #[.int .i64 4, .int .i64 4] _ 0).trans rfl)
          refine hK.out _ _ trivial (fun hHeld => ?_)
          clear hK K
          try go_frame
          refine take_list (i := 13) (v := .pointer (some ⟨w8.heap.size, 0, none⟩)) rfl (by kernel_rfl) (by kernel_rfl) (by kernel_rfl) (fun _ _ _ h => h) (.inl ⟨rfl, ?_⟩) hHeld ?_
          · (intro w hSw; go_simp)
          go_frame
          refine ready_list (i := 14) rfl (by kernel_rfl) (fun K hK => ?_)
          go_simp
          refine hK.out _ _ trivial (fun hHeld => ?_)
          clear hK K
          try go_frame
          refine take_list (i := 15) (v := .bool true) rfl (by kernel_rfl) (by kernel_rfl) (by kernel_rfl) (fun _ _ _ h => h) (.inl ⟨rfl, ?_⟩) hHeld ?_
          · (intro w hSw; go_simp)
          go_frame
          refine take_list (i := 16) (v := .bool true) rfl (by kernel_rfl) (by kernel_rfl) (by kernel_rfl) (fun _ _ _ h => h) (.inl ⟨rfl, ?_⟩) hHeld ?_
          · (intro w hSw; go_simp)
          go_frame
          refine ready_list (i := 17) rfl (by kernel_rfl) (fun K hK => ?_)
          go_simp
          refine hK.out _ _ trivial (fun hHeld => ?_)
          clear hK K
          refine wpAnyH_done (by kernel_rfl) ?_ _
          try go_frame
          go_wp2_with fail
          go_ret
          exact ⟨rfl, next hB8 (below_new _ _)⟩
        refine AllReadyH.cons (list_at (by rfl)) (fun K hK => ?_) AllReadyH.nil
        · skip
          go_simp
          have rc : (w7.alloc (.cells #[.int .i64 4, .int .i64 4] 28)).cell? ⟨w7.heap.size, 0, none⟩ = some (.int .i64 4) := ((new_cell w7 #[.int .i64 4, .int .i64 4] _ 0).trans rfl)
          refine hK.out _ _ trivial (fun hHeld => ?_)
          clear hK K
          try go_frame
          refine take_list (i := 13) (v := .pointer (some ⟨w7.heap.size, 0, none⟩)) rfl (by kernel_rfl) (by kernel_rfl) (by kernel_rfl) (fun _ _ _ h => h) (.inl ⟨rfl, ?_⟩) hHeld ?_
          · (intro w hSw; go_simp)
          go_frame
          refine wpAnyH_ready (rs := [9, 14]) (by kernel_rfl) (by simp) ?_
          refine AllReadyH.cons (list_at (by rfl)) (fun K hK => ?_) ?_
          · skip
            go_simp
            refine (AP.out _ (next hA7 (below_new _ _))).mono ?_
            rintro e w8 ⟨rfl, hT8⟩
            have hB8 := (next Y.out.1 (next hA7 (below_new _ _))).trans (hT8.below X.out.2 (next Y.out.1 (next hA7 (below_new _ _))).size)
            have r8 : w8.cell? ⟨w7.heap.size, 0, none⟩ = some (.int .i64 4) := hT8.cell rc (Y.out.2 _ (hA7.size))
            refine hK.out _ _ trivial (fun hHeld => ?_)
            clear hK K
            try go_frame
            refine ready_list (i := 14) rfl (by kernel_rfl) (fun K hK => ?_)
            go_simp
            refine hK.out _ _ trivial (fun hHeld => ?_)
            clear hK K
            try go_frame
            refine take_list (i := 15) (v := .bool true) rfl (by kernel_rfl) (by kernel_rfl) (by kernel_rfl) (fun _ _ _ h => h) (.inl ⟨rfl, ?_⟩) hHeld ?_
            · (intro w hSw; go_simp)
            go_frame
            refine take_list (i := 16) (v := .bool true) rfl (by kernel_rfl) (by kernel_rfl) (by kernel_rfl) (fun _ _ _ h => h) (.inl ⟨rfl, ?_⟩) hHeld ?_
            · (intro w hSw; go_simp)
            go_frame
            refine ready_list (i := 17) rfl (by kernel_rfl) (fun K hK => ?_)
            go_simp
            refine hK.out _ _ trivial (fun hHeld => ?_)
            clear hK K
            refine wpAnyH_done (by kernel_rfl) ?_ _
            try go_frame
            go_wp2_with fail
            go_ret
            exact ⟨rfl, hB8⟩
          refine AllReadyH.cons (list_at (by rfl)) (fun K hK => ?_) AllReadyH.nil
          · skip
            go_simp
            refine hK.out _ _ trivial (fun hHeld => ?_)
            clear hK K
            try go_frame
            refine ready_list (i := 9) rfl (by kernel_rfl) (fun K hK => ?_)
            go_simp
            refine (AP.out _ (next hA7 (below_new _ _))).mono ?_
            rintro e w8 ⟨rfl, hT8⟩
            have hB8 := (next Y.out.1 (next hA7 (below_new _ _))).trans (hT8.below X.out.2 (next Y.out.1 (next hA7 (below_new _ _))).size)
            refine hK.out _ _ trivial (fun hHeld => ?_)
            clear hK K
            try go_frame
            refine take_list (i := 15) (v := .bool true) rfl (by kernel_rfl) (by kernel_rfl) (by kernel_rfl) (fun _ _ _ h => h) (.inl ⟨rfl, ?_⟩) hHeld ?_
            · (intro w hSw; go_simp)
            go_frame
            refine take_list (i := 16) (v := .bool true) rfl (by kernel_rfl) (by kernel_rfl) (by kernel_rfl) (fun _ _ _ h => h) (.inl ⟨rfl, ?_⟩) hHeld ?_
            · (intro w hSw; go_simp)
            go_frame
            refine ready_list (i := 17) rfl (by kernel_rfl) (fun K hK => ?_)
            go_simp
            refine hK.out _ _ trivial (fun hHeld => ?_)
            clear hK K
            refine wpAnyH_done (by kernel_rfl) ?_ _
            try go_frame
            go_wp2_with fail
            go_ret
            exact ⟨rfl, hB8⟩
      refine AllReadyH.cons (list_at (by rfl)) (fun K hK => ?_) AllReadyH.nil
      · skip
        go_simp
        have rc : (w6.alloc (.cells #[.int .i64 4, .int .i64 4] 28)).drew.cell? ⟨w6.heap.size, 0, none⟩ = some (.int .i64 4) := ((new_cell w6.drew #[.int .i64 4, .int .i64 4] _ 0).trans rfl)
        refine hK.out _ _ trivial (fun hHeld => ?_)
        clear hK K
        try go_frame
        refine take_list (i := 13) (v := .pointer (some ⟨w6.heap.size, 0, none⟩)) rfl (by kernel_rfl) (by kernel_rfl) (by kernel_rfl) (fun _ _ _ h => h) (.inl ⟨rfl, ?_⟩) hHeld ?_
        · (intro w hSw; go_simp)
        go_frame
        refine wpAnyH_ready (rs := [8, 14]) (by kernel_rfl) (by simp) ?_
        refine AllReadyH.cons (list_at (by rfl)) (fun K hK => ?_) ?_
        · skip
          go_simp
          refine (lease_rec 1 _).mono ?_
          rintro e w7 ⟨rfl, hb7⟩
          have hA7 := next (show Below w6.drew.heap.size w6.drew (w6.alloc (.cells #[.int .i64 4, .int .i64 4] 28)).drew from below_new w6.drew _) hb7
          have r7 : w7.cell? ⟨w6.heap.size, 0, none⟩ = some (.int .i64 4) := held hb7 rc
          refine hK.out _ _ trivial (fun hHeld => ?_)
          clear hK K
          try go_frame
          refine wpAnyH_ready (rs := [9, 14]) (by kernel_rfl) (by simp) ?_
          refine AllReadyH.cons (list_at (by rfl)) (fun K hK => ?_) ?_
          · skip
            go_simp
            refine (AP.out _ hA7).mono ?_
            rintro e w8 ⟨rfl, hT8⟩
            have hB8 := (next Y.out.1 hA7).trans (hT8.below X.out.2 (next Y.out.1 hA7).size)
            have r8 : w8.cell? ⟨w6.heap.size, 0, none⟩ = some (.int .i64 4) := hT8.cell r7 (Y.out.2 _ (Nat.le_refl _))
            refine hK.out _ _ trivial (fun hHeld => ?_)
            clear hK K
            try go_frame
            refine ready_list (i := 14) rfl (by kernel_rfl) (fun K hK => ?_)
            go_simp
            refine hK.out _ _ trivial (fun hHeld => ?_)
            clear hK K
            try go_frame
            refine take_list (i := 15) (v := .bool true) rfl (by kernel_rfl) (by kernel_rfl) (by kernel_rfl) (fun _ _ _ h => h) (.inl ⟨rfl, ?_⟩) hHeld ?_
            · (intro w hSw; go_simp)
            go_frame
            refine take_list (i := 16) (v := .bool true) rfl (by kernel_rfl) (by kernel_rfl) (by kernel_rfl) (fun _ _ _ h => h) (.inl ⟨rfl, ?_⟩) hHeld ?_
            · (intro w hSw; go_simp)
            go_frame
            refine ready_list (i := 17) rfl (by kernel_rfl) (fun K hK => ?_)
            go_simp
            refine hK.out _ _ trivial (fun hHeld => ?_)
            clear hK K
            refine wpAnyH_done (by kernel_rfl) ?_ _
            try go_frame
            go_wp2_with fail
            go_ret
            exact ⟨rfl, hB8⟩
          refine AllReadyH.cons (list_at (by rfl)) (fun K hK => ?_) AllReadyH.nil
          · skip
            go_simp
            refine hK.out _ _ trivial (fun hHeld => ?_)
            clear hK K
            try go_frame
            refine ready_list (i := 9) rfl (by kernel_rfl) (fun K hK => ?_)
            go_simp
            refine (AP.out _ hA7).mono ?_
            rintro e w8 ⟨rfl, hT8⟩
            have hB8 := (next Y.out.1 hA7).trans (hT8.below X.out.2 (next Y.out.1 hA7).size)
            refine hK.out _ _ trivial (fun hHeld => ?_)
            clear hK K
            try go_frame
            refine take_list (i := 15) (v := .bool true) rfl (by kernel_rfl) (by kernel_rfl) (by kernel_rfl) (fun _ _ _ h => h) (.inl ⟨rfl, ?_⟩) hHeld ?_
            · (intro w hSw; go_simp)
            go_frame
            refine take_list (i := 16) (v := .bool true) rfl (by kernel_rfl) (by kernel_rfl) (by kernel_rfl) (fun _ _ _ h => h) (.inl ⟨rfl, ?_⟩) hHeld ?_
            · (intro w hSw; go_simp)
            go_frame
            refine ready_list (i := 17) rfl (by kernel_rfl) (fun K hK => ?_)
            go_simp
            refine hK.out _ _ trivial (fun hHeld => ?_)
            clear hK K
            refine wpAnyH_done (by kernel_rfl) ?_ _
            try go_frame
            go_wp2_with fail
            go_ret
            exact ⟨rfl, hB8⟩
        refine AllReadyH.cons (list_at (by rfl)) (fun K hK => ?_) AllReadyH.nil
        · skip
          go_simp
          refine hK.out _ _ trivial (fun hHeld => ?_)
          clear hK K
          try go_frame
          refine ready_list (i := 8) rfl (by kernel_rfl) (fun K hK => ?_)
          go_simp
          refine (lease_rec 1 _).mono ?_
          rintro e w7 ⟨rfl, hb7⟩
          have hA7 := next (show Below w6.drew.heap.size w6.drew (w6.alloc (.cells #[.int .i64 4, .int .i64 4] 28)).drew from below_new w6.drew _) hb7
          refine hK.out _ _ trivial (fun hHeld => ?_)
          clear hK K
          try go_frame
          refine ready_list (i := 9) rfl (by kernel_rfl) (fun K hK => ?_)
          go_simp
          refine (AP.out _ hA7).mono ?_
          rintro e w8 ⟨rfl, hT8⟩
          have hB8 := (next Y.out.1 hA7).trans (hT8.below X.out.2 (next Y.out.1 hA7).size)
          refine hK.out _ _ trivial (fun hHeld => ?_)
          clear hK K
          try go_frame
          refine take_list (i := 15) (v := .bool true) rfl (by kernel_rfl) (by kernel_rfl) (by kernel_rfl) (fun _ _ _ h => h) (.inl ⟨rfl, ?_⟩) hHeld ?_
          · (intro w hSw; go_simp)
          go_frame
          refine take_list (i := 16) (v := .bool true) rfl (by kernel_rfl) (by kernel_rfl) (by kernel_rfl) (fun _ _ _ h => h) (.inl ⟨rfl, ?_⟩) hHeld ?_
          · (intro w hSw; go_simp)
          go_frame
          refine ready_list (i := 17) rfl (by kernel_rfl) (fun K hK => ?_)
          go_simp
          refine hK.out _ _ trivial (fun hHeld => ?_)
          clear hK K
          refine wpAnyH_done (by kernel_rfl) ?_ _
          try go_frame
          go_wp2_with fail
          go_ret
          exact ⟨rfl, hB8⟩
    · have HO := open_well hD5 (fun i _ => recAt_zero) (by decide) (by decide) (id := 3) (by omega) (by omega) hK4
      have hdd : dec (dec ((3 : Nat) : Int)) = 1 := rfl
      rw [hdd] at HO
      clear hdd
      go_wp2_with fail
      refine HO.mono ?_
      rintro e w6 ⟨lc, rfl, hlc, hN6, hD6, hT⟩
      clear HO
      have B6 : Below w.heap.size w w6.drew := (X.out.1.trans (hT.below X.out.2 X.out.1.size)).drew
      have hfl := hD5.head.lt
      have hSl := hD5.ltS
      have hMl := hD5.map.lt
      have hz6 := hT.size
      have hdis : ∀ x, x ∈ fp lc none none → x ∉ [f, S2, M2] := fun x hx => by
        have hx' : x = lc := by simpa [mem_fp] using hx
        subst hx'
        simp; omega
      have AP : Hid (∀ W' : World, Below w6.drew.heap.size w6.drew W' → Calls Tryz.prog 12 #[.pointer (some ⟨lc, 0, none⟩), .agg #[.int .i64 3, .int .u32 0, .int .u32 0, .int .u32 0, .int .u32 0, .int .i64 0, .bool false, .int .u32 1, .int .u16 0]] W' fun e w'' => e = .returned (.int .i64 4) ∧ Turn [f, S2, M2] W' w'') := Lib.hid (fun W' hb => by
        obtain ⟨cn, cm, hnm, hS⟩ := hN6
        exact append_fail2 ⟨cn, cm, hnm, hS.drew.held hb⟩ (hD6.drew.held hb) hdis (by omega) (by omega) (by omega) (lease_fits 1 (by omega)) (lease_right 1 (by omega)) (by decide))
      have hout : ∀ x, w6.drew.heap.size ≤ x → x ∉ [f, S2, M2] := fun x hx => by
        have : w6.drew.heap.size = w6.heap.size := rfl
        simp; omega
      have Y := Lib.hid (And.intro B6 hout)
      clear hD5 hN6 hD6 hT hlc B6 hfl hSl hMl hz6 hdis hout hK4 hK7
      go_wp2_with fail
      have hw1 : IntKind.i64.wrap 1 = 1 := rfl
      refine wp_region_held_drew (S := fun _ => True) (by kernel_rfl) trivial (fun hHeld => ?_)
      refine take_list (i := 0) (v := .int .i64 0) rfl (by kernel_rfl) (by kernel_rfl) (by kernel_rfl) (fun _ _ _ h => h) (.inl ⟨rfl, ?_⟩) hHeld ?_
      · (intro w hSw; go_simp)
      go_frame
      refine take_list (i := 1) (v := .bool true) rfl (by kernel_rfl) (by kernel_rfl) (by kernel_rfl) (fun _ _ _ h => h) (.inl ⟨rfl, ?_⟩) hHeld ?_
      · (intro w hSw; go_simp)
      go_frame
      refine take_list (i := 2) (v := .bool true) rfl (by kernel_rfl) (by kernel_rfl) (by kernel_rfl) (fun _ _ _ h => h) (.inl ⟨rfl, ?_⟩) hHeld ?_
      · (intro w hSw; go_simp)
      go_frame
      refine take_list (i := 3) (v := .int .i64 0) rfl (by kernel_rfl) (by kernel_rfl) (by kernel_rfl) (fun _ _ _ h => h) (.inl ⟨rfl, ?_⟩) hHeld ?_
      · (intro w hSw; go_simp)
      go_frame
      refine take_list (i := 4) (v := .bool true) rfl (by kernel_rfl) (by kernel_rfl) (by kernel_rfl) (fun _ _ _ h => h) (.inl ⟨rfl, ?_⟩) hHeld ?_
      · (intro w hSw; go_simp)
      go_frame
      refine take_list (i := 5) (v := .bool true) rfl (by kernel_rfl) (by kernel_rfl) (by kernel_rfl) (fun _ _ _ h => h) (.inl ⟨rfl, ?_⟩) hHeld ?_
      · (intro w hSw; go_simp)
      go_frame
      refine take_list (i := 6) (v := .bool true) rfl (by kernel_rfl) (by kernel_rfl) (by kernel_rfl) (fun _ _ _ h => h) (.inl ⟨rfl, ?_⟩) hHeld ?_
      · (intro w hSw; go_simp)
      go_frame
      refine take_list (i := 7) (v := .pointer (some ⟨lc, 0, none⟩)) rfl (by kernel_rfl) (by kernel_rfl) (by kernel_rfl) (fun _ _ _ h => h) (.inl ⟨rfl, ?_⟩) hHeld ?_
      · (intro w hSw; go_simp)
      go_frame
      refine take_list (i := 11) (v := .int .i64 3) rfl (by kernel_rfl) (by kernel_rfl) (by kernel_rfl) (fun _ _ _ h => h) (.inl ⟨rfl, ?_⟩) hHeld ?_
      · (intro w hSw; go_simp)
      go_frame
      refine take_list (i := 12) (v := .int .i64 1) rfl (by kernel_rfl) (by kernel_rfl) (by kernel_rfl) (fun _ _ _ h => h) (.inl ⟨rfl, ?_⟩) hHeld ?_
      · (intro w hSw; go_simp)
      go_frame
      refine wpAnyH_ready (rs := [8, 10]) (by kernel_rfl) (by simp) ?_
      refine AllReadyH.cons (list_at (by rfl)) (fun K hK => ?_) ?_
      · skip
        go_simp
        refine (lease_rec 1 _).mono ?_
        rintro e w7 ⟨rfl, hb7⟩
        have hA7 := next (Below.refl _ _) hb7
        refine hK.out _ _ trivial (fun hHeld => ?_)
        clear hK K
        try go_frame
        refine wpAnyH_ready (rs := [9, 10]) (by kernel_rfl) (by simp) ?_
        refine AllReadyH.cons (list_at (by rfl)) (fun K hK => ?_) ?_
        · skip
          go_simp
          refine (AP.out _ hA7).mono ?_
          rintro e w8 ⟨rfl, hT8⟩
          have hB8 := (next Y.out.1 hA7).trans (hT8.below X.out.2 (next Y.out.1 hA7).size)
          refine hK.out _ _ trivial (fun hHeld => ?_)
          clear hK K
          try go_frame
          refine ready_list (i := 10) rfl (by kernel_rfl) (fun K hK => ?_)
          go_simp
          have rc : (w8.alloc (.cells #[.int .i64 4, .int .i64 4] 28)).cell? ⟨w8.heap.size, 1, none⟩ = some (.int .i64 4) := ((new_cell w8 #[.int .i64 4, .int .i64 4] _ 1).trans rfl)
          refine hK.out _ _ trivial (fun hHeld => ?_)
          clear hK K
          try go_frame
          refine take_list (i := 13) (v := .pointer (some ⟨w8.heap.size, 1, none⟩)) rfl (by kernel_rfl) (by kernel_rfl) (by kernel_rfl) (fun _ _ _ h => h) (.inl ⟨rfl, ?_⟩) hHeld ?_
          · (intro w hSw; go_simp)
          go_frame
          refine ready_list (i := 14) rfl (by kernel_rfl) (fun K hK => ?_)
          go_simp
          refine hK.out _ _ trivial (fun hHeld => ?_)
          clear hK K
          try go_frame
          refine take_list (i := 15) (v := .bool true) rfl (by kernel_rfl) (by kernel_rfl) (by kernel_rfl) (fun _ _ _ h => h) (.inl ⟨rfl, ?_⟩) hHeld ?_
          · (intro w hSw; go_simp)
          go_frame
          refine take_list (i := 16) (v := .bool true) rfl (by kernel_rfl) (by kernel_rfl) (by kernel_rfl) (fun _ _ _ h => h) (.inl ⟨rfl, ?_⟩) hHeld ?_
          · (intro w hSw; go_simp)
          go_frame
          refine ready_list (i := 17) rfl (by kernel_rfl) (fun K hK => ?_)
          go_simp
          refine hK.out _ _ trivial (fun hHeld => ?_)
          clear hK K
          refine wpAnyH_done (by kernel_rfl) ?_ _
          try go_frame
          go_wp2_with fail
          go_ret
          exact ⟨rfl, next hB8 (below_new _ _)⟩
        refine AllReadyH.cons (list_at (by rfl)) (fun K hK => ?_) AllReadyH.nil
        · skip
          go_simp
          have rc : (w7.alloc (.cells #[.int .i64 4, .int .i64 4] 28)).cell? ⟨w7.heap.size, 1, none⟩ = some (.int .i64 4) := ((new_cell w7 #[.int .i64 4, .int .i64 4] _ 1).trans rfl)
          refine hK.out _ _ trivial (fun hHeld => ?_)
          clear hK K
          try go_frame
          refine take_list (i := 13) (v := .pointer (some ⟨w7.heap.size, 1, none⟩)) rfl (by kernel_rfl) (by kernel_rfl) (by kernel_rfl) (fun _ _ _ h => h) (.inl ⟨rfl, ?_⟩) hHeld ?_
          · (intro w hSw; go_simp)
          go_frame
          refine wpAnyH_ready (rs := [9, 14]) (by kernel_rfl) (by simp) ?_
          refine AllReadyH.cons (list_at (by rfl)) (fun K hK => ?_) ?_
          · skip
            go_simp
            refine (AP.out _ (next hA7 (below_new _ _))).mono ?_
            rintro e w8 ⟨rfl, hT8⟩
            have hB8 := (next Y.out.1 (next hA7 (below_new _ _))).trans (hT8.below X.out.2 (next Y.out.1 (next hA7 (below_new _ _))).size)
            have r8 : w8.cell? ⟨w7.heap.size, 1, none⟩ = some (.int .i64 4) := hT8.cell rc (Y.out.2 _ (hA7.size))
            refine hK.out _ _ trivial (fun hHeld => ?_)
            clear hK K
            try go_frame
            refine ready_list (i := 14) rfl (by kernel_rfl) (fun K hK => ?_)
            go_simp
            refine hK.out _ _ trivial (fun hHeld => ?_)
            clear hK K
            try go_frame
            refine take_list (i := 15) (v := .bool true) rfl (by kernel_rfl) (by kernel_rfl) (by kernel_rfl) (fun _ _ _ h => h) (.inl ⟨rfl, ?_⟩) hHeld ?_
            · (intro w hSw; go_simp)
            go_frame
            refine take_list (i := 16) (v := .bool true) rfl (by kernel_rfl) (by kernel_rfl) (by kernel_rfl) (fun _ _ _ h => h) (.inl ⟨rfl, ?_⟩) hHeld ?_
            · (intro w hSw; go_simp)
            go_frame
            refine ready_list (i := 17) rfl (by kernel_rfl) (fun K hK => ?_)
            go_simp
            refine hK.out _ _ trivial (fun hHeld => ?_)
            clear hK K
            refine wpAnyH_done (by kernel_rfl) ?_ _
            try go_frame
            go_wp2_with fail
            go_ret
            exact ⟨rfl, hB8⟩
          refine AllReadyH.cons (list_at (by rfl)) (fun K hK => ?_) AllReadyH.nil
          · skip
            go_simp
            refine hK.out _ _ trivial (fun hHeld => ?_)
            clear hK K
            try go_frame
            refine ready_list (i := 9) rfl (by kernel_rfl) (fun K hK => ?_)
            go_simp
            refine (AP.out _ (next hA7 (below_new _ _))).mono ?_
            rintro e w8 ⟨rfl, hT8⟩
            have hB8 := (next Y.out.1 (next hA7 (below_new _ _))).trans (hT8.below X.out.2 (next Y.out.1 (next hA7 (below_new _ _))).size)
            refine hK.out _ _ trivial (fun hHeld => ?_)
            clear hK K
            try go_frame
            refine take_list (i := 15) (v := .bool true) rfl (by kernel_rfl) (by kernel_rfl) (by kernel_rfl) (fun _ _ _ h => h) (.inl ⟨rfl, ?_⟩) hHeld ?_
            · (intro w hSw; go_simp)
            go_frame
            refine take_list (i := 16) (v := .bool true) rfl (by kernel_rfl) (by kernel_rfl) (by kernel_rfl) (fun _ _ _ h => h) (.inl ⟨rfl, ?_⟩) hHeld ?_
            · (intro w hSw; go_simp)
            go_frame
            refine ready_list (i := 17) rfl (by kernel_rfl) (fun K hK => ?_)
            go_simp
            refine hK.out _ _ trivial (fun hHeld => ?_)
            clear hK K
            refine wpAnyH_done (by kernel_rfl) ?_ _
            try go_frame
            go_wp2_with fail
            go_ret
            exact ⟨rfl, hB8⟩
      refine AllReadyH.cons (list_at (by rfl)) (fun K hK => ?_) AllReadyH.nil
      · skip
        go_simp
        have rc : (w6.alloc (.cells #[.int .i64 4, .int .i64 4] 28)).drew.cell? ⟨w6.heap.size, 1, none⟩ = some (.int .i64 4) := ((new_cell w6.drew #[.int .i64 4, .int .i64 4] _ 1).trans rfl)
        refine hK.out _ _ trivial (fun hHeld => ?_)
        clear hK K
        try go_frame
        refine take_list (i := 13) (v := .pointer (some ⟨w6.heap.size, 1, none⟩)) rfl (by kernel_rfl) (by kernel_rfl) (by kernel_rfl) (fun _ _ _ h => h) (.inl ⟨rfl, ?_⟩) hHeld ?_
        · (intro w hSw; go_simp)
        go_frame
        refine wpAnyH_ready (rs := [8, 14]) (by kernel_rfl) (by simp) ?_
        refine AllReadyH.cons (list_at (by rfl)) (fun K hK => ?_) ?_
        · skip
          go_simp
          refine (lease_rec 1 _).mono ?_
          rintro e w7 ⟨rfl, hb7⟩
          have hA7 := next (show Below w6.drew.heap.size w6.drew (w6.alloc (.cells #[.int .i64 4, .int .i64 4] 28)).drew from below_new w6.drew _) hb7
          have r7 : w7.cell? ⟨w6.heap.size, 1, none⟩ = some (.int .i64 4) := held hb7 rc
          refine hK.out _ _ trivial (fun hHeld => ?_)
          clear hK K
          try go_frame
          refine wpAnyH_ready (rs := [9, 14]) (by kernel_rfl) (by simp) ?_
          refine AllReadyH.cons (list_at (by rfl)) (fun K hK => ?_) ?_
          · skip
            go_simp
            refine (AP.out _ hA7).mono ?_
            rintro e w8 ⟨rfl, hT8⟩
            have hB8 := (next Y.out.1 hA7).trans (hT8.below X.out.2 (next Y.out.1 hA7).size)
            have r8 : w8.cell? ⟨w6.heap.size, 1, none⟩ = some (.int .i64 4) := hT8.cell r7 (Y.out.2 _ (Nat.le_refl _))
            refine hK.out _ _ trivial (fun hHeld => ?_)
            clear hK K
            try go_frame
            refine ready_list (i := 14) rfl (by kernel_rfl) (fun K hK => ?_)
            go_simp
            refine hK.out _ _ trivial (fun hHeld => ?_)
            clear hK K
            try go_frame
            refine take_list (i := 15) (v := .bool true) rfl (by kernel_rfl) (by kernel_rfl) (by kernel_rfl) (fun _ _ _ h => h) (.inl ⟨rfl, ?_⟩) hHeld ?_
            · (intro w hSw; go_simp)
            go_frame
            refine take_list (i := 16) (v := .bool true) rfl (by kernel_rfl) (by kernel_rfl) (by kernel_rfl) (fun _ _ _ h => h) (.inl ⟨rfl, ?_⟩) hHeld ?_
            · (intro w hSw; go_simp)
            go_frame
            refine ready_list (i := 17) rfl (by kernel_rfl) (fun K hK => ?_)
            go_simp
            refine hK.out _ _ trivial (fun hHeld => ?_)
            clear hK K
            refine wpAnyH_done (by kernel_rfl) ?_ _
            try go_frame
            go_wp2_with fail
            go_ret
            exact ⟨rfl, hB8⟩
          refine AllReadyH.cons (list_at (by rfl)) (fun K hK => ?_) AllReadyH.nil
          · skip
            go_simp
            refine hK.out _ _ trivial (fun hHeld => ?_)
            clear hK K
            try go_frame
            refine ready_list (i := 9) rfl (by kernel_rfl) (fun K hK => ?_)
            go_simp
            refine (AP.out _ hA7).mono ?_
            rintro e w8 ⟨rfl, hT8⟩
            have hB8 := (next Y.out.1 hA7).trans (hT8.below X.out.2 (next Y.out.1 hA7).size)
            refine hK.out _ _ trivial (fun hHeld => ?_)
            clear hK K
            try go_frame
            refine take_list (i := 15) (v := .bool true) rfl (by kernel_rfl) (by kernel_rfl) (by kernel_rfl) (fun _ _ _ h => h) (.inl ⟨rfl, ?_⟩) hHeld ?_
            · (intro w hSw; go_simp)
            go_frame
            refine take_list (i := 16) (v := .bool true) rfl (by kernel_rfl) (by kernel_rfl) (by kernel_rfl) (fun _ _ _ h => h) (.inl ⟨rfl, ?_⟩) hHeld ?_
            · (intro w hSw; go_simp)
            go_frame
            refine ready_list (i := 17) rfl (by kernel_rfl) (fun K hK => ?_)
            go_simp
            refine hK.out _ _ trivial (fun hHeld => ?_)
            clear hK K
            refine wpAnyH_done (by kernel_rfl) ?_ _
            try go_frame
            go_wp2_with fail
            go_ret
            exact ⟨rfl, hB8⟩
        refine AllReadyH.cons (list_at (by rfl)) (fun K hK => ?_) AllReadyH.nil
        · skip
          go_simp
          refine hK.out _ _ trivial (fun hHeld => ?_)
          clear hK K
          try go_frame
          refine ready_list (i := 8) rfl (by kernel_rfl) (fun K hK => ?_)
          go_simp
          refine (lease_rec 1 _).mono ?_
          rintro e w7 ⟨rfl, hb7⟩
          have hA7 := next (show Below w6.drew.heap.size w6.drew (w6.alloc (.cells #[.int .i64 4, .int .i64 4] 28)).drew from below_new w6.drew _) hb7
          refine hK.out _ _ trivial (fun hHeld => ?_)
          clear hK K
          try go_frame
          refine ready_list (i := 9) rfl (by kernel_rfl) (fun K hK => ?_)
          go_simp
          refine (AP.out _ hA7).mono ?_
          rintro e w8 ⟨rfl, hT8⟩
          have hB8 := (next Y.out.1 hA7).trans (hT8.below X.out.2 (next Y.out.1 hA7).size)
          refine hK.out _ _ trivial (fun hHeld => ?_)
          clear hK K
          try go_frame
          refine take_list (i := 15) (v := .bool true) rfl (by kernel_rfl) (by kernel_rfl) (by kernel_rfl) (fun _ _ _ h => h) (.inl ⟨rfl, ?_⟩) hHeld ?_
          · (intro w hSw; go_simp)
          go_frame
          refine take_list (i := 16) (v := .bool true) rfl (by kernel_rfl) (by kernel_rfl) (by kernel_rfl) (fun _ _ _ h => h) (.inl ⟨rfl, ?_⟩) hHeld ?_
          · (intro w hSw; go_simp)
          go_frame
          refine ready_list (i := 17) rfl (by kernel_rfl) (fun K hK => ?_)
          go_simp
          refine hK.out _ _ trivial (fun hHeld => ?_)
          clear hK K
          refine wpAnyH_done (by kernel_rfl) ?_ _
          try go_frame
          go_wp2_with fail
          go_ret
          exact ⟨rfl, hB8⟩
end Go.Proofs.YtpgcnjoodoabhaaGreat

