/-
  A map's keys in order (addr.Prefix): collected, sorted; the iterator over a copy of the map.
  A map in order (addr.Prefix): sortedKeys, Clone, inOrder.
  The keys of a map (state.Key): the iterator; what it hands on is collected.
  A map's keys in order (state.Key): collected, sorted; the iterator over a copy of the map.
  A map in order (state.Key): sortedKeys, Clone, inOrder.
  Package state: Floor, Owns and Floors; the statement's own Less.
  The iterator over a map in order (addr.Prefix), gone through.
-/
import Derived.Test.YtpgcnjoodoabhaaGreatS10
import Derived.Test.YtpgcnjoodoabhaaGreatLayg
import Derived.Test.YtpgcnjoodoabhaaGreatS02
import Derived.Test.YtpgcnjoodoabhaaGreatS09
import Derived.Laws.EntriesVeiled
namespace Go.Proofs.YtpgcnjoodoabhaaGreat
open Go.RowKit Go.Maps Go.Sort

instance : Inhabited Pk := ⟨⟨0, 0⟩⟩
theorem clP_length (x : Pk) : (clP x).length = 2 := rfl
theorem clP_one (x : Pk) : ∀ v ∈ clP x, v.oneCell' = true := by
  intro v hv
  simp [clP] at hv
  rcases hv with rfl | rfl <;> rfl
theorem enter_cmpP : ∀ args w, (callFunc 54 args).run Tryz.prog w = .ok (.enter 54 args) w := enters_of Tryz.func54 (by kernel_rfl) rfl
theorem cmpP_lays (blk off size : Nat) (w : World) : CmpLays Tryz.prog 54 #[] clP 2 cfP blk off size w := fun _ _ _ _ x y =>
  cmpP_gr x.a x.n y.a y.n _

set_option maxHeartbeats 1000000 in
theorem collectP {g : Nat} {lb : Array Value} (eg : ∀ args w, (callFunc g args).run Tryz.prog w = .ok (.enter g args) w) {S Sp : List Pk → Prop} {N : Nat} (hN : N ≤ 100000) {w : World}
    (hseq : SeqStopsK Fence.wide 8 Tryz.prog g lb (fun x : Pk => #[.agg #[.int .u32 x.a, .int .i64 x.n]]) KeepsWalks S Sp N w) :
    Calls Tryz.prog 97 #[.func (.func g) #[] lb] w fun e w' => ∃ v xs, e = .returned v ∧ S xs ∧ GotP w.heap.size v xs w' ∧ Below w.heap.size w w' := by
  have hC := appendSeqP eg hN hseq
  clear hseq
  go_enter Tryz.func97, Tryz.ntmps97
  go_wp2_with (go_at_call 105; refine hC.mono ?_; rintro e w' ⟨v, xs, rfl, hS, hG, hB⟩)
  go_ret
  exact ⟨v, xs, rfl, hS, hG, hB⟩

set_option maxHeartbeats 1000000 in
theorem sortFuncP {n₀ : Nat} {v : Value} {xs : List Pk} {W : World} (hlen : xs.length ≤ 100000) (h : GotP n₀ v xs W) :
    Calls Tryz.prog 98 #[v, .func (.func 54) #[] #[]] W fun e w' => e = .returned (.tuple #[]) ∧ ∃ ys, ys.Perm xs ∧ ys.Pairwise (fun x y => ltOf cfP y x = false) ∧ Row clP 2 w' v ys ∧ (v = .slice none 0 0 ↔ ys = []) ∧ (∀ b, v.ownBlock = some b → n₀ ≤ b ∧ b < w'.heap.size) ∧ W.grownBy w' v.ownBlock := by
  obtain ⟨hrow, hnil⟩ := h
  rcases hrow.2 with ⟨rfl, h0⟩ | ⟨g, cap, cur, rfl, hg0, hb, h1, h2, h3, h4⟩
  · have : xs = [] := List.eq_nil_of_length_eq_zero h0
    subst this
    refine (AnyF.slices_SortFunc_none Tryz.sortP none 0 _ W).mono ?_
    rintro e w' ⟨rfl, rfl⟩
    exact ⟨rfl, [], List.Perm.refl _, List.Pairwise.nil, .inl ⟨rfl, rfl⟩, by simp, (fun b hb => by cases hb), ⟨rfl, rfl, rfl, Nat.le_refl _, fun _ _ _ => rfl⟩⟩
  · have hH : HoldsK clP 2 W g 0 xs.toArray := holdsK_of_owns clP_length hb h4
    have hgl : g < W.heap.size := (Array.getElem?_eq_some_iff.1 hb).1
    refine (AnyQ.slices_SortFunc Tryz.sortP 2 Tryz.isAgg36 Tryz.sizeOf36 clP clP_length clP_one cfP swoP 54 #[] g 0 cap xs.toArray W enter_cmpP (cmpP_lays _ _ _ _) hH hgl (by simp; omega)).mono ?_
    rintro e w' ⟨rfl, d', n, os, hp, hs, rfl⟩
    have hsz : d'.size = xs.length := hp.1.trans (by simp)
    have hH' := holdsK_sortWorldK_c clP 2 W g 0 xs.toArray d' n os hH hgl hp.1
    have hR := Row.of_holds clP_length hH' (show d'.size ≤ cap by omega) h2
    rw [hsz] at hR
    refine ⟨rfl, d'.toList, (perm_lists hp).trans (by simp), sorted_pairs (by rw [hp.1]; exact hs), hR, ?_, ?_, grownBy_sortK _⟩
    · constructor
      · intro h; cases h
      · intro h
        have : d'.size = 0 := by rw [← Array.length_toList, h]; rfl
        have hx := hnil.2 (List.eq_nil_of_length_eq_zero (by omega))
        cases hx
    · intro b hb'
      cases hb'
      exact ⟨hg0, Nat.lt_of_lt_of_le hgl (size_sortWorldK_c _ _ _ _ _ _ _ _)⟩

set_option maxHeartbeats 1000000 in
theorem sortedFuncP {g : Nat} {lb : Array Value} (eg : ∀ args w, (callFunc g args).run Tryz.prog w = .ok (.enter g args) w) {S Sp : List Pk → Prop} {N : Nat} (hN : N ≤ 100000) (hS : ∀ xs, S xs → xs.length ≤ 100000) {w : World}
    (hseq : SeqStopsK Fence.wide 8 Tryz.prog g lb (fun x : Pk => #[.agg #[.int .u32 x.a, .int .i64 x.n]]) KeepsWalks S Sp N w) :
    Calls Tryz.prog 88 #[.func (.func g) #[] lb, .func (.func 54) #[] #[]] w fun e w' => ∃ v xs ys, e = .returned v ∧ S xs ∧ ys.Perm xs ∧ ys.Pairwise (fun x y => ltOf cfP y x = false) ∧ Row clP 2 w' v ys ∧ (v = .slice none 0 0 ↔ ys = []) ∧ (∀ b, v.ownBlock = some b → w.heap.size ≤ b ∧ b < w'.heap.size) ∧ Below w.heap.size w w' := by
  have hC := collectP eg hN hseq
  clear hseq
  go_enter Tryz.func88, Tryz.ntmps88
  go_wp2_with (first
    | (go_at_call 97; refine hC.mono ?_; rintro e w' ⟨v, xs, rfl, hSx, hG, hB⟩; have hF := sortFuncP (hS _ hSx) hG)
    | (go_at_call 98; refine hF.mono ?_; rintro e w2 ⟨rfl, ys, hp, hs, hR, hn, hb, hg⟩))
  go_ret
  exact ⟨v, xs, ys, rfl, hSx, hp, hs, hR, hn, hb, hB.grown hg hB.size (fun k e => (hb k e).1)⟩
end Go.Proofs.YtpgcnjoodoabhaaGreat

namespace Go.Proofs.YtpgcnjoodoabhaaGreat
open Go.RowKit Go.Maps Go.Sort

/-- the iterator over a map in order: its two variables lie in B1 and B2; the keys are xs -/
structure ItP (W : World) (B1 B2 : Nat) (v : Value) (o : Option Nat) (n : Nat) (f : Pk → Option (Bool)) (xs : List Pk) : Prop where
  b1 : Blk 134 W B1 #[v]
  b2 : Blk 68 W B2 #[.map o]
  row : Row clP 2 W v xs
  map : Mo pkE W o n (fun x => (f x).map ownV)
  mem : ∀ x, x ∈ xs ↔ x.ok ∧ (f x).isSome = true
  srt : xs.Pairwise ltP
  len : xs.length ≤ 100000
  lt : ∀ b, b ∈ itL B1 B2 v o → b < W.heap.size

theorem ItP.keep {W W' : World} {B1 B2 n : Nat} {v : Value} {o : Option Nat} {f : Pk → Option (Bool)} {xs : List Pk} (h : ItP W B1 B2 v o n f xs) (k : Keep (itL B1 B2 v o) W W') (hs : W.heap.size ≤ W'.heap.size) : ItP W' B1 B2 v o n f xs :=
  ⟨(k _ (mem_itL.2 (.inl rfl))).trans h.b1, (k _ (mem_itL.2 (.inr (.inl rfl)))).trans h.b2, h.row.keep k (fun _ hb => mem_itL.2 (.inr (.inr (.inl hb)))), h.map.of_block (fun b hb => k b (mem_itL.2 (.inr (.inr (.inr hb))))), h.mem, h.srt, h.len, fun b hb => Nat.lt_of_lt_of_le (h.lt b hb) hs⟩
theorem ItP.held {W W' : World} {B1 B2 n : Nat} {v : Value} {o : Option Nat} {f : Pk → Option (Bool)} {xs : List Pk} (h : ItP W B1 B2 v o n f xs) (k : Below W.heap.size W W') : ItP W' B1 B2 v o n f xs := h.keep (.of_below h.lt k) k.size

theorem strictP {xs ys : List Pk} (hnd : xs.Nodup) (hp : ys.Perm xs) (hs : ys.Pairwise (fun x y => ltOf cfP y x = false)) : ys.Pairwise ltP := by
  have hnd' : ys.Nodup := hp.nodup_iff.2 hnd
  refine (hs.and hnd').imp ?_
  rintro x y ⟨h1, h2⟩
  rw [cfP_no] at h1
  unfold ltP at h1 ⊢
  obtain ⟨xa, xn⟩ := x
  obtain ⟨ya, yn⟩ := y
  dsimp only at h1 ⊢
  have h3 : ¬ (xa = ya ∧ xn = yn) := fun h => h2 (by rw [h.1, h.2])
  omega

set_option maxHeartbeats 1000000 in
theorem sortedKeysP {w : World} {o : Option Nat} {n : Nat} {f : Pk → Option (Bool)} (h : Mo pkE w o n (fun x => (f x).map ownV)) (hn : n ≤ 100000) :
    Calls Tryz.prog 72 #[.map o, .func (.func 54) #[] #[]] w fun e w' => ∃ v ys, e = .returned v ∧ (∀ x, x ∈ ys ↔ x.ok ∧ (f x).isSome = true) ∧ ys.Pairwise ltP ∧ ys.length ≤ 100000 ∧ Row clP 2 w' v ys ∧ (∀ b, v.ownBlock = some b → w.heap.size ≤ b ∧ b < w'.heap.size) ∧ Below w.heap.size w w' := by
  have hsome : ∀ x, ((f x).map ownV).isSome = (f x).isSome := fun x => by cases f x <;> rfl
  have cB : (w.alloc (.cells #[.map o] 68)).cell? ⟨w.heap.size, 0, none⟩ = some (.map o) := (new_cell w #[.map o] 68 0).trans rfl
  have hb0 := below_new w (.cells #[.map o] 68)
  have hz := size_new w (.cells #[.map o] 68)
  have hF : Calls Tryz.prog 88 #[.func (.func 99) #[] #[.pointer (some ⟨w.heap.size, 0, none⟩)], .func (.func 54) #[] #[]] (w.alloc (.cells #[.map o] 68)) fun e w' => ∃ v ys, e = .returned v ∧ (∀ x, x ∈ ys ↔ x.ok ∧ (f x).isSome = true) ∧ ys.Pairwise ltP ∧ ys.length ≤ 100000 ∧ Row clP 2 w' v ys ∧ (∀ b, v.ownBlock = some b → w.heap.size ≤ b ∧ b < w'.heap.size) ∧ Below w.heap.size w w' := by
    cases o with
    | none =>
      refine (sortedFuncP enter_keysP (N := 0) (by omega) (fun xs hx => by subst hx; simp) (keysP_stops_nil 8 _ _ cB)).mono ?_
      rintro e w' ⟨v, xs, ys, rfl, rfl, hp, hs, hR, hnl, hb, hB⟩
      have : ys = [] := hp.eq_nil
      subst this
      refine ⟨v, [], rfl, fun x => ?_, List.Pairwise.nil, by simp, hR, fun b hb' => ?_, next hb0 hB⟩
      · have : (f x).map ownV = none := h.2 x
        rw [← hsome x, this]
        simp
      · have := hb b hb'
        omega
    | some r =>
      have h : Mk pkE w r n (fun x => (f x).map ownV) := h
      refine (sortedFuncP enter_keysP hn (fun xs hx => ?_) (keysP_stops 8 _ r n _ _ cB (h.held hb0))).mono ?_
      · rw [h.card hx.1 hx.2]; exact hn
      rintro e w' ⟨v, xs, ys, rfl, hx, hp, hs, hR, hnl, hb, hB⟩
      refine ⟨v, ys, rfl, fun x => ?_, strictP hx.1 hp hs, ?_, hR, fun b hb' => ?_, next hb0 hB⟩
      · rw [hp.mem_iff, hx.2 x, hsome x]
      · rw [hp.length_eq, h.card hx.1 hx.2]; exact hn
      · have := hb b hb'
        omega
  clear h
  have HF := Lib.hid hF
  clear hF cB hsome
  go_enter Tryz.func72, Tryz.ntmps72
  go_wp2_with (first
    | (go_at_call 89; refine (keysP_fn o _).mono ?_; rintro e w' ⟨rfl, rfl⟩)
    | (go_at_call 88; refine HF.out.mono ?_; rintro e w2 ⟨v, ys, rfl, hm, hs, hl, hR, hb, hB⟩))
  go_ret
  exact ⟨v, ys, rfl, hm, hs, hl, hR, hb, hB⟩

theorem cloneP {w : World} {o : Option Nat} {n : Nat} {f : Pk → Option Value} (h : Mo pkE w o n f) :
    Calls Tryz.prog 71 #[.map o] w fun e w' => ∃ o', e = .returned (.map o') ∧ Mo pkE w' o' n f ∧ (∀ b, o' = some b → w.heap.size ≤ b ∧ b < w'.heap.size) ∧ Below w.heap.size w w' := by
  cases o with
  | none =>
    refine (AnyW.maps_Clone_nil Tryz.cloneP w).mono ?_
    rintro e w' ⟨rfl, rfl⟩
    exact ⟨none, rfl, h, (fun b hb => by cases hb), Below.refl _ _⟩
  | some r =>
    obtain ⟨D, hown, hn, S⟩ := h
    refine (AnyW.maps_Clone_owns Tryz.cloneP _ _ r _ D w hown).mono ?_
    rintro e w' ⟨rfl, h1, -, hB⟩
    exact ⟨some w.heap.size, rfl, ⟨D, h1, hn, S⟩, (fun b hb => by cases hb; exact ⟨Nat.le_refl _, h1.lt⟩), hB⟩

set_option maxHeartbeats 1000000 in
theorem inOrderP {w : World} {o : Option Nat} {n : Nat} {f : Pk → Option (Bool)} (h : Mo pkE w o n (fun x => (f x).map ownV)) (hn : n ≤ 100000) :
    Calls Tryz.prog 53 #[.map o, .func (.func 54) #[] #[]] w fun e w' => ∃ B1 B2 v o' xs, e = .returned (.func (.func 73) #[] #[.pointer (some ⟨B1, 0, none⟩), .pointer (some ⟨B2, 0, none⟩)]) ∧ ItP w' B1 B2 v o' n f xs ∧ (∀ b, b ∈ itL B1 B2 v o' → w.heap.size ≤ b) ∧ Below w.heap.size w w' := by
  have HC := Lib.hid (cloneP h)
  clear h
  go_enter Tryz.func53, Tryz.ntmps53
  go_wp2_with (first
    | (go_at_call 71; refine HC.out.mono ?_; rintro e w1 ⟨o', rfl, hM, ho, hB1⟩; have HS := sortedKeysP (hM.of_block fun b hb => (below_new w1 (.cells #[.map o'] 68)).block b (ho b hb).2) hn; have HM := Lib.hid hM; have HO := Lib.hid ho; have HB1 := Lib.hid hB1; replace HS := Lib.hid HS; clear hM ho hB1)
    | (go_at_call 72; refine HS.out.mono ?_; rintro e w3 ⟨v, ys, rfl, hm, hs, hl, hR, hb, hB3⟩; obtain ⟨vp, vl, vc, rfl⟩ := hR.slice; have HY := Lib.hid (And.intro hm (And.intro hs (And.intro hl (And.intro hR (And.intro hb hB3))))); clear hm hs hl hR hb hB3))
  go_ret
  obtain ⟨hm, hs, hl, hR, hb, hB3⟩ := HY.out
  clear HY HC HS
  generalize Value.slice vp vl vc = v at *
  have hB1 := HB1.out
  have hb2 := below_new w1 (.cells #[.map o'] 68)
  have hb4 := below_new w3 (.cells #[v] 134)
  have hz1 := size_new w1 (.cells #[.map o'] 68)
  have hz3 := size_new w3 (.cells #[v] 134)
  have s1 := hB1.size
  have s3 := hB3.size
  have hlt : ∀ b, b ∈ itL w3.heap.size w1.heap.size v o' → w.heap.size ≤ b ∧ b < w3.heap.size + 1 := fun b hb' => by
    rcases mem_itL.1 hb' with rfl | rfl | h | h
    · omega
    · omega
    · have := hb b h; omega
    · have := HO.out b h; omega
  refine ⟨w3.heap.size, w1.heap.size, v, o', ys, rfl, ⟨Blk.new _ _ _, ((Blk.new w1 _ _).held hB3).held hb4, ?_, ?_, hm, hs, hl, fun b hb' => by rw [hz3]; exact (hlt b hb').2⟩, fun b hb' => (hlt b hb').1, next hB1 (next hb2 (next hB3 hb4))⟩
  · exact hR.keep (L := v.ownBlock.toList) (.of_below (fun b hb' => (hb b (by simpa using hb')).2) hb4) (fun b hb' => by simpa using hb')
  · exact HM.out.of_block fun b hb' => (next hb2 (next hB3 hb4)).block b (HO.out b hb').2
end Go.Proofs.YtpgcnjoodoabhaaGreat

namespace Go.Proofs.YtpgcnjoodoabhaaGreat
open Go.RowKit Go.Maps
attribute [local go_sem] Oper.semAt_some

theorem enter_keysK : ∀ args w, (callFunc 102 args).run Tryz.prog w = .ok (.enter 102 args) w := enters_of Tryz.func102 (by kernel_rfl) rfl

set_option maxRecDepth 100000 in
set_option maxHeartbeats 1000000 in
theorem keysK_stops (m : Nat) (Bm b n : Nat) (f : Ky → Option Value) (w : World) (hm : w.cell? ⟨Bm, 0, none⟩ = some (.map (some b))) (hM : Mk kyE w b n f) :
    SeqStopsK Fence.wide m Tryz.prog 102 #[.pointer (some ⟨Bm, 0, none⟩)] (fun x : Ky => #[.agg #[.int .u32 x.a, .int .i64 x.n, .int .u32 x.id]]) KeepsWalks (fun xs => xs.Nodup ∧ ∀ x, x ∈ xs ↔ x.ok ∧ (f x).isSome = true) (fun _ => True) n w := fun l J Jx W hW hJ _ hY h0 => by
  have hm' := held hW hm
  have hM' := hM.held hW
  clear hm hM hW
  obtain ⟨w0, hr, hrg0, hg0, hs0⟩ := hM'.range (t := 69) (e := 39) (by kernel_rfl)
  have h00 := hJ [] W w0 none h0 hg0 (fun r e => by cases e)
  refine callsIn_of_wp Tryz.func102 rfl trivial ?_ rfl
  simp only [Tryz.ntmps102, List.size_toArray, List.length_cons, List.length_nil, Nat.reduceAdd, Nat.reduceSub, Array.replicate_succ, Array.replicate_zero, List.push_toArray, List.append_toArray, List.nil_append, List.cons_append]
  gi_wp2
  gi_loopw [6] (fun _ wr => ∃ (left : Ky → Bool) (cnt : Nat) (ss : List Ky), Rg kyE wr b W.heap.size n f left cnt ∧ ss.length + cnt ≤ n ∧ Came kyE f left ss ∧ J ss wr)
    (fun _ wr => wr.rangeLeft b W.heap.size)
  case atStart =>
    exact ⟨_, _, [], hrg0, by simp, Came.start _ _, h00⟩
  case round =>
    obtain ⟨left, cnt, ss, hrg, hcs, hC, hJs⟩ := hrel
    rcases hrg.next 0 with ⟨hc0, hl0, hrun⟩ | ⟨i, v, w2, cnt2, hi, hli, hfi, hrun, hrg2, hlt, hg2, hs2, hen⟩
    · gi_wp2
      go_end0
      exact ⟨⟨_, rfl⟩, .inl ⟨ss, hC.all hl0, hJs⟩⟩
    · obtain ⟨xa, xn, xi⟩ := i
      have hJ2 : J ss w2 := hJ ss wr w2 (some W.heap.size) hJs hg2 (fun r e => by cases e; exact ⟨Nat.le_refl _, hrg.iter_walk⟩)
      have hJ3 : J ss (w2.alloc (.cells #[.int .u32 xa, .int .i64 xn, .int .u32 xi] 90)) := hJ ss w2 _ none hJ2 (World.grownBy_alloc w2 _ none) (fun r e => by cases e)
      have hrg3 := hrg2.of_walks (KeepsWalks.alloc w2 (.cells #[.int .u32 xa, .int .i64 xn, .int .u32 xi] 90))
      obtain ⟨fn, tmps, assign, body, hy, hR⟩ := hY ss ⟨xa, xn, xi⟩ _ hJ3 (by omega)
      have hC2 := hC.step hi hli hfi
      replace hrun : (Instr.next (.pointer (some ⟨W.heap.size, 0, none⟩)) false 0).run Tryz.prog wr = .ok (.tuple #[.bool true, .agg #[.int .u32 xa, .int .i64 xn, .int .u32 xi], v]) w2 := hrun
      replace hen : (Instr.entry (.pointer (some ⟨W.heap.size, 0, none⟩))).run Tryz.prog w2 = .ok (.tuple #[.agg #[.int .u32 xa, .int .i64 xn, .int .u32 xi], v]) w2 := hen
      clear hs2
      gi_wp2
      refine ⟨fun h => (by cases h), hR.mono ?_⟩
      rintro e W3 (⟨rfl, hJ4, hk3⟩ | ⟨rfl, hJx3⟩)
      · gi_wp2
        have hrg4 := hrg3.of_walks hk3
        go_roundw
        case rel => exact ⟨_, cnt2, ss ++ [⟨xa, xn, xi⟩], hrg4, by simp; omega, hC2, hJ4⟩
        case measure => rw [hrg4.left_eq, hrg.left_eq]; exact hlt
      · gi_wp2
        refine bodyPost_ret (results_none rfl _ _ _) rfl ?_
        exact ⟨⟨_, rfl⟩, .inr ⟨ss ++ [⟨xa, xn, xi⟩], trivial, hJx3⟩⟩

set_option maxRecDepth 100000 in
set_option maxHeartbeats 1000000 in
/-- of the nil map: none -/
theorem keysK_stops_nil (m : Nat) (Bm : Nat) (w : World) (hm : w.cell? ⟨Bm, 0, none⟩ = some (.map none)) :
    SeqStopsK Fence.wide m Tryz.prog 102 #[.pointer (some ⟨Bm, 0, none⟩)] (fun x : Ky => #[.agg #[.int .u32 x.a, .int .i64 x.n, .int .u32 x.id]]) KeepsWalks (fun xs => xs = []) (fun _ => True) 0 w := fun l J Jx W hW hJ _ hY h0 => by
  have hm' := held hW hm
  clear hm hW
  refine callsIn_of_wp Tryz.func102 rfl trivial ?_ rfl
  simp only [Tryz.ntmps102, List.size_toArray, List.length_cons, List.length_nil, Nat.reduceAdd, Nat.reduceSub, Array.replicate_succ, Array.replicate_zero, List.push_toArray, List.append_toArray, List.nil_append, List.cons_append]
  have hrg := run_range_nilMap (P := Tryz.prog) W 69 90 39 (by kernel_rfl)
  have hnx : ∀ ty, (Instr.next (.pointer (some ⟨W.heap.size, 0, none⟩)) false ty).run Tryz.prog (W.alloc (.mapIter none 0 #[] 0)) = _ := fun ty => run_next_nilMap _ ty 0 0 #[]
  gi_wp2
  refine wpIn_loop_rounds 1 ?_
  rw [roundsIn_succ]
  gi_wp2
  go_end0
  exact ⟨⟨_, rfl⟩, .inl ⟨[], rfl, hJ [] W _ none h0 (World.grownBy_alloc W _ none) (fun r e => by cases e)⟩⟩

theorem keysK_fn (o : Option Nat) (w : World) : Calls Tryz.prog 93 #[.map o] w fun e w' =>
    e = .returned (.func (.func 102) #[] #[.pointer (some ⟨w.heap.size, 0, none⟩)]) ∧ w' = w.alloc (.cells #[.map o] 69) := by
  go_enter Tryz.func93, Tryz.ntmps93
  go_wp2
  go_ret
  exact ⟨rfl, rfl⟩

/-! ### they are collected -/
def clK (x : Ky) : List Value := [.int .u32 x.a, .int .i64 x.n, .int .u32 x.id]
theorem infoK : (Tryz.prog.info? 90).map (fun i => (i.zero, i.size, i.bytes)) = some (some (.agg #[.int .u32 0, .int .i64 0, .int .u32 0]), 3, 24) := by kernel_rfl

/-- what is collected: a row of the call's own -/
def GotK (n₀ : Nat) (v : Value) (xs : List Ky) (W : World) : Prop := W.ownsRow n₀ 90 3 v xs.length (xs.flatMap clK) ∧ (v = .slice none 0 0 ↔ xs = [])

set_option maxRecDepth 100000 in
set_option maxHeartbeats 2000000 in
theorem appendSeqK {g : Nat} {lb : Array Value} (eg : ∀ args w, (callFunc g args).run Tryz.prog w = .ok (.enter g args) w) {S Sp : List Ky → Prop} {N : Nat} (hN : N ≤ 100000) {w : World}
    (hseq : SeqStopsK Fence.wide 8 Tryz.prog g lb (fun x : Ky => #[.agg #[.int .u32 x.a, .int .i64 x.n, .int .u32 x.id]]) KeepsWalks S Sp N w) :
    Calls Tryz.prog 108 #[.slice none 0 0, .func (.func g) #[] lb] w fun e w' => ∃ v xs, e = .returned v ∧ S xs ∧ GotK w.heap.size v xs w' ∧ Below w.heap.size w w' := by
  obtain ⟨i0, hi, hz0, hz1, hz2⟩ := info_parts infoK
  refine (callsIn_wide (n := 9)).1 ?_
  refine callsIn_of_wp_marks Tryz.func108 rfl trivial ?_ rfl
  simp only [Tryz.ntmps108, List.size_toArray, List.length_cons, List.length_nil, Nat.reduceAdd, Nat.reduceSub, Array.replicate_succ, Array.replicate_zero, List.push_toArray, List.append_toArray, List.nil_append, List.cons_append]
  gi_wp2
  refine wpIn_rangeFunc_ownH rfl (by omega) (gf := g) (lb := lb) rfl trivial eg hseq walksK_t walksK_b (below_new _ _) (fun _ => rfl)
    (fun pre W => (∃ v, Boxed W w.heap.size 141 v ∧ W.ownsRow w.heap.size 90 3 v pre.length (pre.flatMap clK) ∧ (v = .slice none 0 0 ↔ pre = [])) ∧ Below w.heap.size w W)
    (fun _ _ _ => False)
    (OwnFrom.and (Own.from (holdsRow_own w.heap.size w.heap.size 141 90 3 (fun pre => pre.length) (fun pre => pre.flatMap clK) (fun pre v => (v = .slice none 0 0 ↔ pre = []))) _) (ownFrom_below (Nat.le_refl _) (by simp)))
    (fun _ _ _ _ _ h _ _ => h) ?_
    (fun x a' W => ∃ Bx, Blk 90 W Bx #[.int .u32 x.a, .int .i64 x.n, .int .u32 x.id] ∧ a' = { tmps := #[.slice none 0 0, .func (.func g) #[] lb, .pointer (some ⟨w.heap.size, 0, none⟩), undef, .slice none 0 0, .pointer (some ⟨Bx, 0, none⟩), .func (.func g) #[] lb, .agg #[.int .u32 x.a, .int .i64 x.n, .int .u32 x.id], undef, undef, undef, undef, undef], defers := [] })
    ?_ ?assign ?body ?done ?stop
  · exact ⟨⟨_, Boxed.new _ _ _, World.ownsRow_nil _ _ _ _, by simp⟩, below_new _ _⟩
  · rintro x a' s W W' row ⟨Bx, hX, rfl⟩ hg hr
    exact ⟨Bx, hX.grown hg hr, rfl⟩
  case assign =>
    rintro l pre x W K ⟨⟨v, hv, hrow, hnil⟩, hB⟩ hK
    gi_wp2
    exact hK _ _ ((KeepsOthers.alloc _ _).from _) (KeepsWalks.alloc _ _) ⟨⟨v, hv.alloc _, hrow.alloc _, hnil⟩, hB.alloc hB.size _⟩ ⟨_, Blk.new _ _ _, rfl⟩
  case body =>
    rintro l pre ⟨xa, xn, xi⟩ a' W hl hr ⟨⟨v, hv, hrow, hnil⟩, hB⟩ ⟨Bx, hX, rfl⟩ hlt
    have cB := hv.cell
    have x0 := hX.at_ 0
    have x1 := hX.at_ 1
    have x2 := hX.at_ 2
    have hle := hB.size
    gi_wp2_with (first
      | (gi_at_builtin; refine wpListIn_append_own _ rfl _ _ 141 rfl w.heap.size 90 i0 (.agg #[.int .u32 0, .int .i64 0, .int .u32 0]) 3 24 Tryz.underlying141 hi hz0 hz1 hz2 rfl (by decide) _ _ _ rfl (hrow.alloc _) ⟨W.heap.size, 0, none⟩ 1 1 [.int .u32 xa, .int .i64 xn, .int .u32 xi] rfl rfl (fun j u hj => (new_at _ _ _ j).trans (by simpa using hj)) (by simp [Value.oneCell']) (by unfold maxLen; omega) (by omega) (by simp; omega) ?_
         intro v' w1 hown' hgrow _
         obtain ⟨g', cap', rfl⟩ := ownsRow_succ hown'
         obtain ⟨hv1, hv2, hr2, hk2, hb2⟩ := hv.appended (by decide) hrow hB.size (Nat.le_refl _) hown' hgrow
         have hc1 := hv1.cell
         have hf1 := hv1.frozen)
      | gi_in)
    refine ⟨hk2.from _, hk2.walks, ⟨_, hv2, by simpa [clK] using hr2, by simp⟩, ?_⟩
    exact hB.trans hb2
  case done =>
    rintro D xs W hD hS ⟨⟨v, hv, hrow, hnil⟩, hB⟩ hK
    have cB := hv.cell
    have hD' : w.heap.size ≤ D := by simp at hD; omega
    gi_wp2
    refine ⟨by simp, .inl ⟨_, _, rfl, run_takeDeferred hK, ?_⟩⟩
    exact ⟨_, results_tmp rfl _ _ _, v, xs, rfl, hS, ⟨ownsRow_putObj hrow _ hK rfl, hnil⟩, hB.grown (grownBy_putObj' _ _ _) hB.size (fun k e => by cases e; exact hD')⟩
  case stop =>
    rintro D c pre W _ _ h _
    exact h.elim
end Go.Proofs.YtpgcnjoodoabhaaGreat

namespace Go.Proofs.YtpgcnjoodoabhaaGreat
open Go.RowKit Go.Maps Go.Sort

instance : Inhabited Ky := ⟨⟨0, 0, 0⟩⟩
theorem clK_length (x : Ky) : (clK x).length = 3 := rfl
theorem clK_one (x : Ky) : ∀ v ∈ clK x, v.oneCell' = true := by
  intro v hv
  simp [clK] at hv
  rcases hv with rfl | rfl | rfl <;> rfl
theorem enter_cmpK : ∀ args w, (callFunc 57 args).run Tryz.prog w = .ok (.enter 57 args) w := enters_of Tryz.func57 (by kernel_rfl) rfl
theorem cmpK_lays (blk off size : Nat) (w : World) : CmpLays Tryz.prog 57 #[] clK 3 cfK blk off size w := fun _ _ _ _ x y =>
  cmpK_gr x.a x.n x.id y.a y.n y.id _

set_option maxHeartbeats 1000000 in
theorem collectK {g : Nat} {lb : Array Value} (eg : ∀ args w, (callFunc g args).run Tryz.prog w = .ok (.enter g args) w) {S Sp : List Ky → Prop} {N : Nat} (hN : N ≤ 100000) {w : World}
    (hseq : SeqStopsK Fence.wide 8 Tryz.prog g lb (fun x : Ky => #[.agg #[.int .u32 x.a, .int .i64 x.n, .int .u32 x.id]]) KeepsWalks S Sp N w) :
    Calls Tryz.prog 100 #[.func (.func g) #[] lb] w fun e w' => ∃ v xs, e = .returned v ∧ S xs ∧ GotK w.heap.size v xs w' ∧ Below w.heap.size w w' := by
  have hC := appendSeqK eg hN hseq
  clear hseq
  go_enter Tryz.func100, Tryz.ntmps100
  go_wp2_with (go_at_call 108; refine hC.mono ?_; rintro e w' ⟨v, xs, rfl, hS, hG, hB⟩)
  go_ret
  exact ⟨v, xs, rfl, hS, hG, hB⟩

set_option maxHeartbeats 1000000 in
theorem sortFuncK {n₀ : Nat} {v : Value} {xs : List Ky} {W : World} (hlen : xs.length ≤ 100000) (h : GotK n₀ v xs W) :
    Calls Tryz.prog 101 #[v, .func (.func 57) #[] #[]] W fun e w' => e = .returned (.tuple #[]) ∧ ∃ ys, ys.Perm xs ∧ ys.Pairwise (fun x y => ltOf cfK y x = false) ∧ Row clK 3 w' v ys ∧ (v = .slice none 0 0 ↔ ys = []) ∧ (∀ b, v.ownBlock = some b → n₀ ≤ b ∧ b < w'.heap.size) ∧ W.grownBy w' v.ownBlock := by
  obtain ⟨hrow, hnil⟩ := h
  rcases hrow.2 with ⟨rfl, h0⟩ | ⟨g, cap, cur, rfl, hg0, hb, h1, h2, h3, h4⟩
  · have : xs = [] := List.eq_nil_of_length_eq_zero h0
    subst this
    refine (AnyF.slices_SortFunc_none Tryz.sortK none 0 _ W).mono ?_
    rintro e w' ⟨rfl, rfl⟩
    exact ⟨rfl, [], List.Perm.refl _, List.Pairwise.nil, .inl ⟨rfl, rfl⟩, by simp, (fun b hb => by cases hb), ⟨rfl, rfl, rfl, Nat.le_refl _, fun _ _ _ => rfl⟩⟩
  · have hH : HoldsK clK 3 W g 0 xs.toArray := holdsK_of_owns clK_length hb h4
    have hgl : g < W.heap.size := (Array.getElem?_eq_some_iff.1 hb).1
    refine (AnyQ.slices_SortFunc Tryz.sortK 3 Tryz.isAgg90 Tryz.sizeOf90 clK clK_length clK_one cfK swoK 57 #[] g 0 cap xs.toArray W enter_cmpK (cmpK_lays _ _ _ _) hH hgl (by simp; omega)).mono ?_
    rintro e w' ⟨rfl, d', n, os, hp, hs, rfl⟩
    have hsz : d'.size = xs.length := hp.1.trans (by simp)
    have hH' := holdsK_sortWorldK_c clK 3 W g 0 xs.toArray d' n os hH hgl hp.1
    have hR := Row.of_holds clK_length hH' (show d'.size ≤ cap by omega) h2
    rw [hsz] at hR
    refine ⟨rfl, d'.toList, (perm_lists hp).trans (by simp), sorted_pairs (by rw [hp.1]; exact hs), hR, ?_, ?_, grownBy_sortK _⟩
    · constructor
      · intro h; cases h
      · intro h
        have : d'.size = 0 := by rw [← Array.length_toList, h]; rfl
        have hx := hnil.2 (List.eq_nil_of_length_eq_zero (by omega))
        cases hx
    · intro b hb'
      cases hb'
      exact ⟨hg0, Nat.lt_of_lt_of_le hgl (size_sortWorldK_c _ _ _ _ _ _ _ _)⟩

set_option maxHeartbeats 1000000 in
theorem sortedFuncK {g : Nat} {lb : Array Value} (eg : ∀ args w, (callFunc g args).run Tryz.prog w = .ok (.enter g args) w) {S Sp : List Ky → Prop} {N : Nat} (hN : N ≤ 100000) (hS : ∀ xs, S xs → xs.length ≤ 100000) {w : World}
    (hseq : SeqStopsK Fence.wide 8 Tryz.prog g lb (fun x : Ky => #[.agg #[.int .u32 x.a, .int .i64 x.n, .int .u32 x.id]]) KeepsWalks S Sp N w) :
    Calls Tryz.prog 92 #[.func (.func g) #[] lb, .func (.func 57) #[] #[]] w fun e w' => ∃ v xs ys, e = .returned v ∧ S xs ∧ ys.Perm xs ∧ ys.Pairwise (fun x y => ltOf cfK y x = false) ∧ Row clK 3 w' v ys ∧ (v = .slice none 0 0 ↔ ys = []) ∧ (∀ b, v.ownBlock = some b → w.heap.size ≤ b ∧ b < w'.heap.size) ∧ Below w.heap.size w w' := by
  have hC := collectK eg hN hseq
  clear hseq
  go_enter Tryz.func92, Tryz.ntmps92
  go_wp2_with (first
    | (go_at_call 100; refine hC.mono ?_; rintro e w' ⟨v, xs, rfl, hSx, hG, hB⟩; have hF := sortFuncK (hS _ hSx) hG)
    | (go_at_call 101; refine hF.mono ?_; rintro e w2 ⟨rfl, ys, hp, hs, hR, hn, hb, hg⟩))
  go_ret
  exact ⟨v, xs, ys, rfl, hSx, hp, hs, hR, hn, hb, hB.grown hg hB.size (fun k e => (hb k e).1)⟩
end Go.Proofs.YtpgcnjoodoabhaaGreat

namespace Go.Proofs.YtpgcnjoodoabhaaGreat
open Go.RowKit Go.Maps Go.Sort

/-- the iterator over a map in order: its two variables lie in B1 and B2; the keys are xs -/
structure ItK (W : World) (B1 B2 : Nat) (v : Value) (o : Option Nat) (n : Nat) (f : Ky → Option (Nat × Nat)) (xs : List Ky) : Prop where
  b1 : Blk 141 W B1 #[v]
  b2 : Blk 69 W B2 #[.map o]
  row : Row clK 3 W v xs
  map : Mo kyE W o n (fun x => (f x).map dV)
  mem : ∀ x, x ∈ xs ↔ x.ok ∧ (f x).isSome = true
  srt : xs.Pairwise ltK
  len : xs.length ≤ 100000
  lt : ∀ b, b ∈ itL B1 B2 v o → b < W.heap.size

theorem ItK.keep {W W' : World} {B1 B2 n : Nat} {v : Value} {o : Option Nat} {f : Ky → Option (Nat × Nat)} {xs : List Ky} (h : ItK W B1 B2 v o n f xs) (k : Keep (itL B1 B2 v o) W W') (hs : W.heap.size ≤ W'.heap.size) : ItK W' B1 B2 v o n f xs :=
  ⟨(k _ (mem_itL.2 (.inl rfl))).trans h.b1, (k _ (mem_itL.2 (.inr (.inl rfl)))).trans h.b2, h.row.keep k (fun _ hb => mem_itL.2 (.inr (.inr (.inl hb)))), h.map.of_block (fun b hb => k b (mem_itL.2 (.inr (.inr (.inr hb))))), h.mem, h.srt, h.len, fun b hb => Nat.lt_of_lt_of_le (h.lt b hb) hs⟩
theorem ItK.held {W W' : World} {B1 B2 n : Nat} {v : Value} {o : Option Nat} {f : Ky → Option (Nat × Nat)} {xs : List Ky} (h : ItK W B1 B2 v o n f xs) (k : Below W.heap.size W W') : ItK W' B1 B2 v o n f xs := h.keep (.of_below h.lt k) k.size

theorem strictK {xs ys : List Ky} (hnd : xs.Nodup) (hp : ys.Perm xs) (hs : ys.Pairwise (fun x y => ltOf cfK y x = false)) : ys.Pairwise ltK := by
  have hnd' : ys.Nodup := hp.nodup_iff.2 hnd
  refine (hs.and hnd').imp ?_
  rintro x y ⟨h1, h2⟩
  rw [cfK_no] at h1
  unfold ltK ltP at h1 ⊢
  obtain ⟨xa, xn, xi⟩ := x
  obtain ⟨ya, yn, yi⟩ := y
  dsimp only at h1 ⊢
  have h3 : ¬ (xa = ya ∧ xn = yn ∧ xi = yi) := fun h => h2 (by rw [h.1, h.2.1, h.2.2])
  omega

set_option maxHeartbeats 1000000 in
theorem sortedKeysK {w : World} {o : Option Nat} {n : Nat} {f : Ky → Option (Nat × Nat)} (h : Mo kyE w o n (fun x => (f x).map dV)) (hn : n ≤ 100000) :
    Calls Tryz.prog 78 #[.map o, .func (.func 57) #[] #[]] w fun e w' => ∃ v ys, e = .returned v ∧ (∀ x, x ∈ ys ↔ x.ok ∧ (f x).isSome = true) ∧ ys.Pairwise ltK ∧ ys.length ≤ 100000 ∧ Row clK 3 w' v ys ∧ (∀ b, v.ownBlock = some b → w.heap.size ≤ b ∧ b < w'.heap.size) ∧ Below w.heap.size w w' := by
  have hsome : ∀ x, ((f x).map dV).isSome = (f x).isSome := fun x => by cases f x <;> rfl
  have cB : (w.alloc (.cells #[.map o] 69)).cell? ⟨w.heap.size, 0, none⟩ = some (.map o) := (new_cell w #[.map o] 69 0).trans rfl
  have hb0 := below_new w (.cells #[.map o] 69)
  have hz := size_new w (.cells #[.map o] 69)
  have hF : Calls Tryz.prog 92 #[.func (.func 102) #[] #[.pointer (some ⟨w.heap.size, 0, none⟩)], .func (.func 57) #[] #[]] (w.alloc (.cells #[.map o] 69)) fun e w' => ∃ v ys, e = .returned v ∧ (∀ x, x ∈ ys ↔ x.ok ∧ (f x).isSome = true) ∧ ys.Pairwise ltK ∧ ys.length ≤ 100000 ∧ Row clK 3 w' v ys ∧ (∀ b, v.ownBlock = some b → w.heap.size ≤ b ∧ b < w'.heap.size) ∧ Below w.heap.size w w' := by
    cases o with
    | none =>
      refine (sortedFuncK enter_keysK (N := 0) (by omega) (fun xs hx => by subst hx; simp) (keysK_stops_nil 8 _ _ cB)).mono ?_
      rintro e w' ⟨v, xs, ys, rfl, rfl, hp, hs, hR, hnl, hb, hB⟩
      have : ys = [] := hp.eq_nil
      subst this
      refine ⟨v, [], rfl, fun x => ?_, List.Pairwise.nil, by simp, hR, fun b hb' => ?_, next hb0 hB⟩
      · have : (f x).map dV = none := h.2 x
        rw [← hsome x, this]
        simp
      · have := hb b hb'
        omega
    | some r =>
      have h : Mk kyE w r n (fun x => (f x).map dV) := h
      refine (sortedFuncK enter_keysK hn (fun xs hx => ?_) (keysK_stops 8 _ r n _ _ cB (h.held hb0))).mono ?_
      · rw [h.card hx.1 hx.2]; exact hn
      rintro e w' ⟨v, xs, ys, rfl, hx, hp, hs, hR, hnl, hb, hB⟩
      refine ⟨v, ys, rfl, fun x => ?_, strictK hx.1 hp hs, ?_, hR, fun b hb' => ?_, next hb0 hB⟩
      · rw [hp.mem_iff, hx.2 x, hsome x]
      · rw [hp.length_eq, h.card hx.1 hx.2]; exact hn
      · have := hb b hb'
        omega
  clear h
  have HF := Lib.hid hF
  clear hF cB hsome
  go_enter Tryz.func78, Tryz.ntmps78
  go_wp2_with (first
    | (go_at_call 93; refine (keysK_fn o _).mono ?_; rintro e w' ⟨rfl, rfl⟩)
    | (go_at_call 92; refine HF.out.mono ?_; rintro e w2 ⟨v, ys, rfl, hm, hs, hl, hR, hb, hB⟩))
  go_ret
  exact ⟨v, ys, rfl, hm, hs, hl, hR, hb, hB⟩

theorem cloneK {w : World} {o : Option Nat} {n : Nat} {f : Ky → Option Value} (h : Mo kyE w o n f) :
    Calls Tryz.prog 77 #[.map o] w fun e w' => ∃ o', e = .returned (.map o') ∧ Mo kyE w' o' n f ∧ (∀ b, o' = some b → w.heap.size ≤ b ∧ b < w'.heap.size) ∧ Below w.heap.size w w' := by
  cases o with
  | none =>
    refine (AnyW.maps_Clone_nil Tryz.cloneK w).mono ?_
    rintro e w' ⟨rfl, rfl⟩
    exact ⟨none, rfl, h, (fun b hb => by cases hb), Below.refl _ _⟩
  | some r =>
    obtain ⟨D, hown, hn, S⟩ := h
    refine (AnyW.maps_Clone_owns Tryz.cloneK _ _ r _ D w hown).mono ?_
    rintro e w' ⟨rfl, h1, -, hB⟩
    exact ⟨some w.heap.size, rfl, ⟨D, h1, hn, S⟩, (fun b hb => by cases hb; exact ⟨Nat.le_refl _, h1.lt⟩), hB⟩

set_option maxHeartbeats 1000000 in
theorem inOrderK {w : World} {o : Option Nat} {n : Nat} {f : Ky → Option (Nat × Nat)} (h : Mo kyE w o n (fun x => (f x).map dV)) (hn : n ≤ 100000) :
    Calls Tryz.prog 56 #[.map o, .func (.func 57) #[] #[]] w fun e w' => ∃ B1 B2 v o' xs, e = .returned (.func (.func 79) #[] #[.pointer (some ⟨B1, 0, none⟩), .pointer (some ⟨B2, 0, none⟩)]) ∧ ItK w' B1 B2 v o' n f xs ∧ (∀ b, b ∈ itL B1 B2 v o' → w.heap.size ≤ b) ∧ Below w.heap.size w w' := by
  have HC := Lib.hid (cloneK h)
  clear h
  go_enter Tryz.func56, Tryz.ntmps56
  go_wp2_with (first
    | (go_at_call 77; refine HC.out.mono ?_; rintro e w1 ⟨o', rfl, hM, ho, hB1⟩; have HS := sortedKeysK (hM.of_block fun b hb => (below_new w1 (.cells #[.map o'] 69)).block b (ho b hb).2) hn; have HM := Lib.hid hM; have HO := Lib.hid ho; have HB1 := Lib.hid hB1; replace HS := Lib.hid HS; clear hM ho hB1)
    | (go_at_call 78; refine HS.out.mono ?_; rintro e w3 ⟨v, ys, rfl, hm, hs, hl, hR, hb, hB3⟩; obtain ⟨vp, vl, vc, rfl⟩ := hR.slice; have HY := Lib.hid (And.intro hm (And.intro hs (And.intro hl (And.intro hR (And.intro hb hB3))))); clear hm hs hl hR hb hB3))
  go_ret
  obtain ⟨hm, hs, hl, hR, hb, hB3⟩ := HY.out
  clear HY HC HS
  generalize Value.slice vp vl vc = v at *
  have hB1 := HB1.out
  have hb2 := below_new w1 (.cells #[.map o'] 69)
  have hb4 := below_new w3 (.cells #[v] 141)
  have hz1 := size_new w1 (.cells #[.map o'] 69)
  have hz3 := size_new w3 (.cells #[v] 141)
  have s1 := hB1.size
  have s3 := hB3.size
  have hlt : ∀ b, b ∈ itL w3.heap.size w1.heap.size v o' → w.heap.size ≤ b ∧ b < w3.heap.size + 1 := fun b hb' => by
    rcases mem_itL.1 hb' with rfl | rfl | h | h
    · omega
    · omega
    · have := hb b h; omega
    · have := HO.out b h; omega
  refine ⟨w3.heap.size, w1.heap.size, v, o', ys, rfl, ⟨Blk.new _ _ _, ((Blk.new w1 _ _).held hB3).held hb4, ?_, ?_, hm, hs, hl, fun b hb' => by rw [hz3]; exact (hlt b hb').2⟩, fun b hb' => (hlt b hb').1, next hB1 (next hb2 (next hB3 hb4))⟩
  · exact hR.keep (L := v.ownBlock.toList) (.of_below (fun b hb' => (hb b (by simpa using hb')).2) hb4) (fun b hb' => by simpa using hb')
  · exact HM.out.of_block fun b hb' => (next hb2 (next hB3 hb4)).block b (HO.out b hb').2
end Go.Proofs.YtpgcnjoodoabhaaGreat

namespace Go.Proofs.YtpgcnjoodoabhaaGreat
open Go.RowKit Rm
variable {tS : TypeId} {XS : List Value}

set_option maxHeartbeats 400000 in
theorem less2_any (a n b m : Int) (w : World) :
    Calls Tryz.prog 41 #[.agg #[.int .u32 a, .int .i64 n], .agg #[.int .u32 b, .int .i64 m]] w fun e w' => e = .returned (.bool (Om.less a n b m)) ∧ Below w.heap.size w w' := by
  go_enter Tryz.func41, Tryz.ntmps41
  go_wp2
  all_goals
    go_ret
    exact ⟨ret_bool (by first | (unfold Om.less; rw [decide_eq_decide]; omega) | (unfold Om.less; symm; rw [decide_eq_true_eq]; omega)), next (below_new _ _) (below_new _ _)⟩

set_option maxHeartbeats 1000000 in
theorem floor_any {w : World} {d : Nat} {o fl : Option Nat} {id lease n m : Nat} {own : Pk → Option Bool} {floor : Ky → Option (Nat × Nat)} (h : St tS XS w d o fl id lease n m own floor) {ka : Nat} {kn : Int} {kid : Nat} (hk : Ky.ok ⟨ka, kn, kid⟩) {s x : Nat} {ok : Bool}
    (hv : ((floor ⟨ka, kn, kid⟩).map dV).getD (.agg #[.int .u32 0, .int .u16 0]) = .agg #[.int .u32 s, .int .u16 x]) (ho : (floor ⟨ka, kn, kid⟩).isSome = ok) :
    Calls Tryz.prog 43 #[.pointer (some ⟨d, 0, none⟩), .agg #[.int .u32 ka, .int .i64 kn, .int .u32 kid]] w fun e w' => e = .returned (.tuple #[.agg #[.int .u32 s, .int .u16 x], .bool ok]) ∧ Below w.heap.size w w' := by
  have hlook : ∀ w', Below w.heap.size w w' → (Instr.lookup 69 (.map fl) (.agg #[.int .u32 ka, .int .i64 kn, .int .u32 kid]) true).run Tryz.prog w' = .ok (.tuple #[.agg #[.int .u32 s, .int .u16 x], .bool ok]) w' := fun w' hb => by
    have h2 := (h.held hb).floors.look_ok (t := 69) (e := 39) (by kernel_rfl) zero_dist (i := ⟨ka, kn, kid⟩) hk
    rw [show ((floor ⟨ka, kn, kid⟩).map dV).isSome = (floor ⟨ka, kn, kid⟩).isSome by cases floor ⟨ka, kn, kid⟩ <;> rfl, hv, ho] at h2
    exact h2
  have c3 : w.cell? ⟨d, 3, none⟩ = some (.map fl) := h.head.at_ 3
  have dl : d < w.heap.size := h.head.lt
  clear h hv ho
  go_enter Tryz.func43, Tryz.ntmps43
  go_wp2_with fail
  have KB := (Blk.new w 90 #[.int .u32 ka, .int .i64 kn, .int .u32 kid]).more (.cells #[.int .u32 0, .int .u16 0] 39)
  have RB := Blk.new (w.alloc (.cells #[.int .u32 ka, .int .i64 kn, .int .u32 kid] 90)) 39 #[.int .u32 0, .int .u16 0]
  have hb2 := next (below_new w (.cells #[.int .u32 ka, .int .i64 kn, .int .u32 kid] 90)) (below_new _ (.cells #[.int .u32 0, .int .u16 0] 39))
  have hz : ((w.alloc (.cells #[.int .u32 ka, .int .i64 kn, .int .u32 kid] 90)).alloc (.cells #[.int .u32 0, .int .u16 0] 39)).heap.size = w.heap.size + 2 := by rw [size_new, size_new]
  rw [size_new] at RB
  generalize (w.alloc (.cells #[.int .u32 ka, .int .i64 kn, .int .u32 kid] 90)).alloc (.cells #[.int .u32 0, .int .u16 0] 39) = W at *
  have fc := held hb2 c3
  have k0 := KB.at_ 0
  have k1 := KB.at_ 1
  have k2 := KB.at_ 2
  have dW : d < W.heap.size := by omega
  have kW : w.heap.size < W.heap.size := by omega
  have fc3 := held (below_new W (.cells #[.int .u32 0, .int .u16 0] 39)) fc
  have k03 := held (below_new W (.cells #[.int .u32 0, .int .u16 0] 39)) k0
  have k13 := held (below_new W (.cells #[.int .u32 0, .int .u16 0] 39)) k1
  have k23 := held (below_new W (.cells #[.int .u32 0, .int .u16 0] 39)) k2
  have q1 := hlook _ hb2.drew
  have q2 := hlook _ (next hb2 (below_new W (.cells #[.int .u32 0, .int .u16 0] 39))).drew
  have HR := Lib.hid RB
  clear hlook c3 RB
  go_region
  all_goals
    have hb4 := next hb2 (below_new W (.cells #[.int .u32 s, .int .u16 x] 39)).drew
    have R2 := (HR.out.more (.cells #[.int .u32 s, .int .u16 x] 39)).drew
    have N2 := (Blk.new W 39 #[.int .u32 s, .int .u16 x]).drew
    rw [hz] at N2
    have hsV : w.heap.size + 1 < (W.alloc (.cells #[.int .u32 s, .int .u16 x] 39)).drew.heap.size := R2.lt
    clear q1 q2 fc3 k03 k13 k23 fc k0 k1 k2 KB hb2
    generalize (W.alloc (.cells #[.int .u32 s, .int .u16 x] 39)).drew = V at *
    have r0 := R2.at_ 0
    have r1 := R2.at_ 1
    have g0 := R2.free 0
    have g1 := R2.free 1
    have n0 := N2.at_ 0
    have n1 := N2.at_ 1
    go_wp2_with fail
    have R4 := (R2.store 0 (.int .u32 s)).store 1 (.int .u16 x)
    have q0 : ((V.setCell ⟨w.heap.size + 1, 0, none⟩ (.int .u32 s)).setCell ⟨w.heap.size + 1, 1, none⟩ (.int .u16 x)).cell? ⟨w.heap.size + 1, 0, none⟩ = some (.int .u32 s) := R4.at_ 0
    have q1 : ((V.setCell ⟨w.heap.size + 1, 0, none⟩ (.int .u32 s)).setCell ⟨w.heap.size + 1, 1, none⟩ (.int .u16 x)).cell? ⟨w.heap.size + 1, 1, none⟩ = some (.int .u16 x) := R4.at_ 1
    refine bodyPost_ret (v := .tuple #[.agg #[.int .u32 s, .int .u16 x], .bool ok]) ?_ rfl ⟨rfl, ?_⟩
    · generalize (V.setCell ⟨w.heap.size + 1, 0, none⟩ (.int .u32 s)).setCell ⟨w.heap.size + 1, 1, none⟩ (.int .u16 x) = Z at *
      clear hsV R2 N2 R4 r0 r1 g0 g1 n0 n1 hb4
      simp [results, Tryz.results43, go_sem, q0, q1]
    · exact (hb4.setCell (p := ⟨w.heap.size + 1, 0, none⟩) (by show w.heap.size ≤ w.heap.size + 1; omega) _).setCell (p := ⟨w.heap.size + 1, 1, none⟩) (by show w.heap.size ≤ w.heap.size + 1; omega) _

set_option maxHeartbeats 1000000 in
theorem owns_any {w : World} {d : Nat} {o fl : Option Nat} {id lease n m : Nat} {own : Pk → Option Bool} {floor : Ky → Option (Nat × Nat)} (h : St tS XS w d o fl id lease n m own floor) :
    Calls Tryz.prog 30 #[.pointer (some ⟨d, 0, none⟩)] w fun e w' => ∃ B1 B2 B3 v o' xs, e = .returned (.func (.func 55) #[] #[.pointer (some ⟨B3, 0, none⟩)]) ∧ ItP w' B1 B2 v o' n own xs ∧
      Blk 114 w' B3 #[.func (.func 73) #[] #[.pointer (some ⟨B1, 0, none⟩), .pointer (some ⟨B2, 0, none⟩)]] ∧ (∀ b, b ∈ itL B1 B2 v o' → w.heap.size ≤ b) ∧ w.heap.size ≤ B3 ∧ Below w.heap.size w w' := by
  have c2 : w.cell? ⟨d, 2, none⟩ = some (.map o) := h.head.at_ 2
  have HI := Lib.hid (inOrderP h.owns (by have := h.counts; omega))
  clear h
  go_enter Tryz.func30, Tryz.ntmps30
  go_wp2_with (go_at_call 53; refine HI.out.mono ?_; rintro e w2 ⟨B1, B2, v, o', xs, rfl, hI, hf, hB⟩)
  go_ret
  have hb := below_new w2 (.cells #[.func (.func 73) #[] #[.pointer (some ⟨B1, 0, none⟩), .pointer (some ⟨B2, 0, none⟩)]] 114)
  exact ⟨B1, B2, w2.heap.size, v, o', xs, rfl, hI.held hb, Blk.new _ _ _, hf, hB.size, next hB hb⟩

set_option maxHeartbeats 1000000 in
theorem floors_any {w : World} {d : Nat} {o fl : Option Nat} {id lease n m : Nat} {own : Pk → Option Bool} {floor : Ky → Option (Nat × Nat)} (h : St tS XS w d o fl id lease n m own floor) :
    Calls Tryz.prog 31 #[.pointer (some ⟨d, 0, none⟩)] w fun e w' => ∃ B1 B2 v o' xs, e = .returned (.func (.func 79) #[] #[.pointer (some ⟨B1, 0, none⟩), .pointer (some ⟨B2, 0, none⟩)]) ∧ ItK w' B1 B2 v o' m floor xs ∧
      (∀ b, b ∈ itL B1 B2 v o' → w.heap.size ≤ b) ∧ Below w.heap.size w w' := by
  have c3 : w.cell? ⟨d, 3, none⟩ = some (.map fl) := h.head.at_ 3
  have HI := Lib.hid (inOrderK h.floors (by have := h.counts; omega))
  clear h
  go_enter Tryz.func31, Tryz.ntmps31
  go_wp2_with (go_at_call 56; refine HI.out.mono ?_; rintro e w2 ⟨B1, B2, v, o', xs, rfl, hI, hf, hB⟩)
  go_ret
  exact ⟨B1, B2, v, o', xs, rfl, hI, hf, hB⟩
end Go.Proofs.YtpgcnjoodoabhaaGreat

namespace Go.Proofs.YtpgcnjoodoabhaaGreat
open Go.RowKit Go.Maps Go.Sort
attribute [local go_sem] Oper.semAt_some

def fitP (y : Bool) : Prop :=
  y = y
/-- an entry of f -/
structure ElP (f : Pk → Option (Bool)) where
  key : Pk
  val : Bool
  ok : key.ok
  fit : fitP val
  has : f key = some val
def EsP (f : Pk → Option (Bool)) (xs : List Pk) (es : List (ElP f)) : Prop := es.map (·.key) = xs
theorem esP_ex {f : Pk → Option (Bool)} (hf : ∀ x y, f x = some y → fitP y) : ∀ xs : List Pk, (∀ x ∈ xs, x.ok ∧ (f x).isSome = true) → ∃ es, EsP f xs es
  | [], _ => ⟨[], rfl⟩
  | x :: r, h => by
    obtain ⟨es, h1⟩ := esP_ex hf r fun y hy => h y (by simp [hy])
    obtain ⟨h3, h4⟩ := h x (by simp)
    obtain ⟨y, hy⟩ := Option.isSome_iff_exists.1 h4
    exact ⟨⟨x, y, h3, hf x y hy, hy⟩ :: es, by show x :: es.map (·.key) = _; rw [h1]⟩
/-- what a caller's function is handed -/
def arP {f : Pk → Option (Bool)} (x : ElP f) : Array Value := #[.agg (clP x.key).toArray, ownV x.val]
/-- what it comes to: it goes on, or it does not -/
def goP {f : Pk → Option (Bool)} (L : List Nat) (J Jx : List (ElP f) → World → Prop) (pre : List (ElP f)) (x : ElP f) (W1 : World) (e : Ending) (W' : World) : Prop :=
  ∃ b : Bool, e = .returned (.bool b) ∧ (if b then J (pre ++ [x]) W' ∧ Keep L W1 W' ∧ W1.heap.size ≤ W'.heap.size else Jx (pre ++ [x]) W')

theorem zeroP (w : World) : (zeroValue 117).run Tryz.prog w = .ok (.agg #[.bool false]) w := by kernel_rfl

set_option maxRecDepth 100000 in
set_option maxHeartbeats 2000000 in
theorem inOrd1P {W : World} {B1 B2 n : Nat} {v : Value} {o : Option Nat} {f : Pk → Option (Bool)} {xs : List Pk} {es : List (ElP f)} (h : ItP W B1 B2 v o n f xs) (hE : EsP f xs es) (fv : Fv) (J Jx : List (ElP f) → World → Prop) (hJ : AbidesFrom W.heap.size J)
    (hY : ∀ pre x rest W1, es = pre ++ x :: rest → J pre W1 → fv.At Tryz.prog (arP x) W1 (goP (itL B1 B2 v o) J Jx pre x W1)) (h0 : J [] W) (m : Nat) :
    CallsIn Fence.wide m Tryz.prog 73 #[fv.val, .pointer (some ⟨B1, 0, none⟩), .pointer (some ⟨B2, 0, none⟩)] W fun e W' => (∃ v, e = .returned v) ∧ (J es W' ∨ ∃ pre, pre <+: es ∧ Jx pre W') := by
  have c1 := h.b1.at_ 0
  have hlen : es.length = xs.length := by rw [← show es.map (·.key) = xs from hE]; simp
  have hl5 := h.len
  rcases h.row with ⟨rfl, rfl⟩ | ⟨g, cap, rfl, hr1, hr2, hr3⟩
  · have he : es = [] := List.eq_nil_of_length_eq_zero hlen
    subst he
    clear h hY hE
    cases fv with
    | fn gg lb =>
      refine callsIn_of_wp Tryz.func73 rfl trivial ?_ rfl
      simp only [Fv.val, Tryz.ntmps73, List.size_toArray, List.length_cons, List.length_nil, Nat.reduceAdd, Nat.reduceSub, Array.replicate_succ, Array.replicate_zero, List.push_toArray, List.append_toArray, List.nil_append, List.cons_append]
      gi_wp2
      refine wpIn_loop_rounds 1 ?_
      rw [roundsIn_succ]
      gi_wp2
      go_end0
      exact ⟨⟨_, rfl⟩, .inl h0⟩
    | loop l =>
      refine callsIn_of_wp Tryz.func73 rfl trivial ?_ rfl
      simp only [Fv.val, Tryz.ntmps73, List.size_toArray, List.length_cons, List.length_nil, Nat.reduceAdd, Nat.reduceSub, Array.replicate_succ, Array.replicate_zero, List.push_toArray, List.append_toArray, List.nil_append, List.cons_append]
      gi_wp2
      refine wpIn_loop_rounds 1 ?_
      rw [roundsIn_succ]
      gi_wp2
      go_end0
      exact ⟨⟨_, rfl⟩, .inl h0⟩
  · cases fv with
    | fn gg lb =>
      refine callsIn_of_wp Tryz.func73 rfl trivial ?_ rfl
      simp only [Fv.val, Tryz.ntmps73, List.size_toArray, List.length_cons, List.length_nil, Nat.reduceAdd, Nat.reduceSub, Array.replicate_succ, Array.replicate_zero, List.push_toArray, List.append_toArray, List.nil_append, List.cons_append]
      gi_wp2
      gi_loopw [8] (fun i wr => ∃ k : Nat, k ≤ xs.length ∧ i = .int .i64 k ∧ J (es.take k) wr ∧ Keep (itL B1 B2 (.slice (some ⟨g, 0, none⟩) xs.length cap) o) W wr ∧ W.heap.size ≤ wr.heap.size) (fun i _ => xs.length - (intOf i).toNat)
      case atStart => exact ⟨0, by omega, rfl, h0, Keep.refl _ _, Nat.le_refl _⟩
      case round =>
        obtain ⟨k, hk, rfl, hJs, hKp, hsz⟩ := hrel
        have hmx : xs.length ≤ 9223372036854775807 := by omega
        by_cases hlt : k < xs.length
        · have hke : k < es.length := by omega
          have hIr := h.keep hKp hsz
          have hcut : es = es.take k ++ es[k] :: es.drop (k + 1) := by rw [List.getElem_cons_drop, List.take_append_drop]
          have hxk : xs[k] = es[k].key := by simp [← show es.map (·.key) = xs from hE]
          have hnext : es.take (k + 1) = es.take k ++ [es[k]] := List.take_succ_eq_append_getElem hke
          have hpre : es.take k ++ [es[k]] <+: es := by rw [← hnext]; exact List.take_prefix _ _
          have hrow : ∀ j, j < 2 → wr.cell? ⟨g, k * 2 + j, none⟩ = (clP xs[k])[j]? := fun j hj => (World.cell?_of_block (hKp g (mem_itL.2 (.inr (.inr (.inl rfl)))))).trans (hr3 k hlt j hj)
          rw [hxk] at hrow
          generalize es[k] = x at *
          obtain ⟨⟨xa, xn⟩, y, hok, hfit, hval⟩ := x
          have r0 := hrow 0 (by omega)
          have r1 := hrow 1 (by omega)
          replace r0 : wr.cell? ⟨g, k * 2, none⟩ = some (.int .u32 xa) := r0
          replace r1 : wr.cell? ⟨g, k * 2 + 1, none⟩ = some (.int .i64 xn) := r1
          obtain ⟨rr, rfl⟩ : ∃ rr, o = some rr := by
            cases o with
            | none => have hn : (f ⟨xa, xn⟩).map ownV = none := h.map.2 ⟨xa, xn⟩; rw [hval] at hn; cases hn
            | some rr => exact ⟨rr, rfl⟩
          have hb2 := hIr.b2.at_ 0
          have hmap : Mk pkE wr rr n (fun x => (f x).map ownV) := hIr.map
          have hlt1 := hIr.b1.lt
          have hlt2 := hIr.b2.lt
          have LK := (hmap.held (below_new wr (.cells #[.int .u32 xa, .int .i64 xn] 36))).look (t := 68) (e := 117) (by kernel_rfl) (zeroP _) (i := ⟨xa, xn⟩) hok
          rw [show ((fun x => (f x).map ownV) ⟨xa, xn⟩).getD (.agg #[.bool false]) = ownV y from by show ((f ⟨xa, xn⟩).map ownV).getD _ = _; rw [hval]; rfl] at LK
          have LK2 : (Instr.lookup 68 (.map (some rr)) (.agg #[.int .u32 xa, .int .i64 xn]) false).run Tryz.prog (wr.alloc (.cells #[.int .u32 xa, .int .i64 xn] 36)).drew = .ok (ownV y) (wr.alloc (.cells #[.int .u32 xa, .int .i64 xn] 36)).drew := by
            have := (Mk.of_block (w' := (wr.alloc (.cells #[.int .u32 xa, .int .i64 xn] 36)).drew) (hmap.held (below_new wr (.cells #[.int .u32 xa, .int .i64 xn] 36))) rfl).look (t := 68) (e := 117) (by kernel_rfl) (zeroP _) (i := ⟨xa, xn⟩) hok
            rw [show ((fun x => (f x).map ownV) ⟨xa, xn⟩).getD (.agg #[.bool false]) = ownV y from by show ((f ⟨xa, xn⟩).map ownV).getD _ = _; rw [hval]; rfl] at this
            exact this
          clear LK
          have hJ2 : J (es.take k) (wr.alloc (.cells #[.int .u32 xa, .int .i64 xn] 36)).drew := hJ _ _ _ none (hJ _ _ _ none hJs (World.grownBy_alloc wr _ none) (fun r e => by cases e)) ⟨rfl, rfl, rfl, Nat.le_refl _, fun _ _ _ => rfl⟩ (fun r e => by cases e)
          have hYk := hY _ _ _ _ hcut hJ2
          have hbelow := (below_new wr (.cells #[.int .u32 xa, .int .i64 xn] 36)).drew
          have kk0 := (Blk.new wr 36 #[.int .u32 xa, .int .i64 xn]).drew.at_ 0
          have kk1 := (Blk.new wr 36 #[.int .u32 xa, .int .i64 xn]).drew.at_ 1
          have b22 : (wr.alloc (.cells #[.int .u32 xa, .int .i64 xn] 36)).drew.cell? ⟨B2, 0, none⟩ = some (.map (some rr)) := held hbelow hb2
          have REST := Lib.hid (And.intro hKp (And.intro hsz (And.intro hIr (And.intro hbelow (And.intro hnext hpre)))))
          clear hKp hsz hIr hbelow hnext hpre hmap hrow hcut hxk hJ2 hJs hY hJ hE
          have eg := hYk.1
          gi_wp2
          gi_region_with (refine ⟨trivial, fun h => (by cases h), (callsIn_any hYk.2).mono ?_⟩; rintro e W3 ⟨b, rfl, hb⟩)
          all_goals
            cases b with
            | true =>
              simp only [if_true] at hb
              gi_wp2
              go_roundw
              case rel =>
                obtain ⟨hb1, hb2', hb3⟩ := hb
                obtain ⟨g1, g2, g3, g4, g5, g6⟩ := REST.out
                refine ⟨k + 1, by omega, by go_num, by rw [g5]; exact hb1, (g1.trans (.of_below g3.lt g4)).trans hb2', ?_⟩
                have := g4.size
                omega
              case measure => simp [intOf]; omega
            | false =>
              gi_wp2
              refine bodyPost_ret (results_none rfl _ _ _) rfl ?_
              exact ⟨⟨_, rfl⟩, .inr ⟨_, REST.out.2.2.2.2.2, hb⟩⟩
        · obtain rfl : k = xs.length := by omega
          have hall : es.take xs.length = es := List.take_of_length_le (by omega)
          rw [hall] at hJs
          clear hY hE
          gi_wp2
          go_end0
          exact ⟨⟨_, rfl⟩, .inl hJs⟩
    | loop l =>
      refine callsIn_of_wp Tryz.func73 rfl trivial ?_ rfl
      simp only [Fv.val, Tryz.ntmps73, List.size_toArray, List.length_cons, List.length_nil, Nat.reduceAdd, Nat.reduceSub, Array.replicate_succ, Array.replicate_zero, List.push_toArray, List.append_toArray, List.nil_append, List.cons_append]
      gi_wp2
      gi_loopw [8] (fun i wr => ∃ k : Nat, k ≤ xs.length ∧ i = .int .i64 k ∧ J (es.take k) wr ∧ Keep (itL B1 B2 (.slice (some ⟨g, 0, none⟩) xs.length cap) o) W wr ∧ W.heap.size ≤ wr.heap.size) (fun i _ => xs.length - (intOf i).toNat)
      case atStart => exact ⟨0, by omega, rfl, h0, Keep.refl _ _, Nat.le_refl _⟩
      case round =>
        obtain ⟨k, hk, rfl, hJs, hKp, hsz⟩ := hrel
        have hmx : xs.length ≤ 9223372036854775807 := by omega
        by_cases hlt : k < xs.length
        · have hke : k < es.length := by omega
          have hIr := h.keep hKp hsz
          have hcut : es = es.take k ++ es[k] :: es.drop (k + 1) := by rw [List.getElem_cons_drop, List.take_append_drop]
          have hxk : xs[k] = es[k].key := by simp [← show es.map (·.key) = xs from hE]
          have hnext : es.take (k + 1) = es.take k ++ [es[k]] := List.take_succ_eq_append_getElem hke
          have hpre : es.take k ++ [es[k]] <+: es := by rw [← hnext]; exact List.take_prefix _ _
          have hrow : ∀ j, j < 2 → wr.cell? ⟨g, k * 2 + j, none⟩ = (clP xs[k])[j]? := fun j hj => (World.cell?_of_block (hKp g (mem_itL.2 (.inr (.inr (.inl rfl)))))).trans (hr3 k hlt j hj)
          rw [hxk] at hrow
          generalize es[k] = x at *
          obtain ⟨⟨xa, xn⟩, y, hok, hfit, hval⟩ := x
          have r0 := hrow 0 (by omega)
          have r1 := hrow 1 (by omega)
          replace r0 : wr.cell? ⟨g, k * 2, none⟩ = some (.int .u32 xa) := r0
          replace r1 : wr.cell? ⟨g, k * 2 + 1, none⟩ = some (.int .i64 xn) := r1
          obtain ⟨rr, rfl⟩ : ∃ rr, o = some rr := by
            cases o with
            | none => have hn : (f ⟨xa, xn⟩).map ownV = none := h.map.2 ⟨xa, xn⟩; rw [hval] at hn; cases hn
            | some rr => exact ⟨rr, rfl⟩
          have hb2 := hIr.b2.at_ 0
          have hmap : Mk pkE wr rr n (fun x => (f x).map ownV) := hIr.map
          have hlt1 := hIr.b1.lt
          have hlt2 := hIr.b2.lt
          have LK := (hmap.held (below_new wr (.cells #[.int .u32 xa, .int .i64 xn] 36))).look (t := 68) (e := 117) (by kernel_rfl) (zeroP _) (i := ⟨xa, xn⟩) hok
          rw [show ((fun x => (f x).map ownV) ⟨xa, xn⟩).getD (.agg #[.bool false]) = ownV y from by show ((f ⟨xa, xn⟩).map ownV).getD _ = _; rw [hval]; rfl] at LK
          have LK2 : (Instr.lookup 68 (.map (some rr)) (.agg #[.int .u32 xa, .int .i64 xn]) false).run Tryz.prog (wr.alloc (.cells #[.int .u32 xa, .int .i64 xn] 36)).drew = .ok (ownV y) (wr.alloc (.cells #[.int .u32 xa, .int .i64 xn] 36)).drew := by
            have := (Mk.of_block (w' := (wr.alloc (.cells #[.int .u32 xa, .int .i64 xn] 36)).drew) (hmap.held (below_new wr (.cells #[.int .u32 xa, .int .i64 xn] 36))) rfl).look (t := 68) (e := 117) (by kernel_rfl) (zeroP _) (i := ⟨xa, xn⟩) hok
            rw [show ((fun x => (f x).map ownV) ⟨xa, xn⟩).getD (.agg #[.bool false]) = ownV y from by show ((f ⟨xa, xn⟩).map ownV).getD _ = _; rw [hval]; rfl] at this
            exact this
          clear LK
          have hJ2 : J (es.take k) (wr.alloc (.cells #[.int .u32 xa, .int .i64 xn] 36)).drew := hJ _ _ _ none (hJ _ _ _ none hJs (World.grownBy_alloc wr _ none) (fun r e => by cases e)) ⟨rfl, rfl, rfl, Nat.le_refl _, fun _ _ _ => rfl⟩ (fun r e => by cases e)
          have hYk := hY _ _ _ _ hcut hJ2
          have hbelow := (below_new wr (.cells #[.int .u32 xa, .int .i64 xn] 36)).drew
          have kk0 := (Blk.new wr 36 #[.int .u32 xa, .int .i64 xn]).drew.at_ 0
          have kk1 := (Blk.new wr 36 #[.int .u32 xa, .int .i64 xn]).drew.at_ 1
          have b22 : (wr.alloc (.cells #[.int .u32 xa, .int .i64 xn] 36)).drew.cell? ⟨B2, 0, none⟩ = some (.map (some rr)) := held hbelow hb2
          have REST := Lib.hid (And.intro hKp (And.intro hsz (And.intro hIr (And.intro hbelow (And.intro hnext hpre)))))
          clear hKp hsz hIr hbelow hnext hpre hmap hrow hcut hxk hJ2 hJs hY hJ hE
          obtain ⟨fn, tmps, assign, body, hy, hR⟩ := hYk
          simp only [arP, clP] at hy
          gi_wp2
          gi_region_with (refine ⟨fun h => (by cases h), (roundIn_any hR).mono ?_⟩; rintro e W3 ⟨b, rfl, hb⟩)
          all_goals
            cases b with
            | true =>
              simp only [if_true] at hb
              gi_wp2
              go_roundw
              case rel =>
                obtain ⟨hb1, hb2', hb3⟩ := hb
                obtain ⟨g1, g2, g3, g4, g5, g6⟩ := REST.out
                refine ⟨k + 1, by omega, by go_num, by rw [g5]; exact hb1, (g1.trans (.of_below g3.lt g4)).trans hb2', ?_⟩
                have := g4.size
                omega
              case measure => simp [intOf]; omega
            | false =>
              gi_wp2
              refine bodyPost_ret (results_none rfl _ _ _) rfl ?_
              exact ⟨⟨_, rfl⟩, .inr ⟨_, REST.out.2.2.2.2.2, hb⟩⟩
        · obtain rfl : k = xs.length := by omega
          have hall : es.take xs.length = es := List.take_of_length_le (by omega)
          rw [hall] at hJs
          clear hY hE
          gi_wp2
          go_end0
          exact ⟨⟨_, rfl⟩, .inl hJs⟩

/-- .. for a loop -/
theorem inOrdP_stops {w : World} {B1 B2 n : Nat} {v : Value} {o : Option Nat} {f : Pk → Option (Bool)} {xs : List Pk} {es : List (ElP f)} (h : ItP w B1 B2 v o n f xs) (hE : EsP f xs es) (m : Nat) :
    SeqStopsK Fence.wide m Tryz.prog 73 #[.pointer (some ⟨B1, 0, none⟩), .pointer (some ⟨B2, 0, none⟩)] arP (KeepS (itL B1 B2 v o)) (fun ys => ys = es) (fun _ => True) es.length w := fun l J Jx W hW hJ _ hY h0 => by
  refine (inOrd1P (h.held hW) hE (.loop l) J Jx hJ (fun pre x rest W1 hc hj => ?_) h0 m).mono ?_
  · refine Fv.At.mono (R := _) (yieldAt_any (hY pre x W1 hj (by rw [hc]; simp))) ?_
    rintro e W' (⟨rfl, h1, h2, h3⟩ | ⟨rfl, h1⟩)
    · exact ⟨true, rfl, h1, h2, h3⟩
    · exact ⟨false, rfl, h1⟩
  · rintro e W' ⟨h1, h2 | ⟨pre, -, h2⟩⟩
    · exact ⟨h1, .inl ⟨es, rfl, h2⟩⟩
    · exact ⟨h1, .inr ⟨pre, trivial, h2⟩⟩
end Go.Proofs.YtpgcnjoodoabhaaGreat

