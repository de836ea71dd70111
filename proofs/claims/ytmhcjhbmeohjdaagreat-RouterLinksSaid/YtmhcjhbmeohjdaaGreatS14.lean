/-
  A map in order (state.Key): sortedKeys, Clone, inOrder.
  Package state: Floor, Owns and Floors; the statement's own Less.
  The iterator over a map in order (addr.Prefix), gone through.
  Owns: the iterator over what is noted of prefixes, gone through.
  The iterator over a map in order (state.Key), gone through.
-/
import Derived.Test.YtmhcjhbmeohjdaaGreatS13
import Derived.Test.YtmhcjhbmeohjdaaGreatS07
import Derived.Laws.EntriesVeiled
namespace Go.Proofs.YtmhcjhbmeohjdaaGreat
open Go.RowKit Go.Maps Go.Sort

/-- the iterator over a map in order: its two variables lie in B1 and B2; the keys are xs -/
structure ItK (W : World) (B1 B2 : Nat) (v : Value) (o : Option Nat) (n : Nat) (f : Ky → Option (Nat × Nat)) (xs : List Ky) : Prop where
  b1 : Blk 208 W B1 #[v]
  b2 : Blk 74 W B2 #[.map o]
  row : Row clK 3 W v xs
  map : Mo kyE W o n (fun x => (f x).map dV)
  mem : ∀ x, x ∈ xs ↔ x.ok ∧ (f x).isSome = true
  srt : xs.Pairwise ltK
  len : xs.length ≤ 100000
  lt : ∀ b, b ∈ itL B1 B2 v o → b < W.heap.size

theorem ItK.keep {W W' : World} {B1 B2 n : Nat} {v : Value} {o : Option Nat} {f : Ky → Option (Nat × Nat)} {xs : List Ky} (h : ItK W B1 B2 v o n f xs) (k : Keep (itL B1 B2 v o) W W') (hs : W.heap.size ≤ W'.heap.size) : ItK W' B1 B2 v o n f xs :=
  ⟨(k _ (mem_itL.2 (.inl rfl))).trans h.b1, (k _ (mem_itL.2 (.inr (.inl rfl)))).trans h.b2, h.row.keep k (fun _ hb => mem_itL.2 (.inr (.inr (.inl hb)))), h.map.of_block (fun b hb => k b (mem_itL.2 (.inr (.inr (.inr hb))))), h.mem, h.srt, h.len, fun b hb => Nat.lt_of_lt_of_le (h.lt b hb) hs⟩
theorem ItK.held {W W' : World} {B1 B2 n : Nat} {v : Value} {o : Option Nat} {f : Ky → Option (Nat × Nat)} {xs : List Ky} (h : ItK W B1 B2 v o n f xs) (k : Below W.heap.size W W') : ItK W' B1 B2 v o n f xs := h.keep (.of_below h.lt k) k.size

theorem strictK {xs ys : List Ky} (hnd : xs.Nodup) (hp : ys.Perm xs) (hs : ys.Pairwise (fun x y => ltOf cfK y x = false)) : ys.Pairwise ltK := by
  have hnd' : ys.Nodup := hp.nodup_iff.2 hnd
  refine (hs.and hnd').imp ?_
  rintro x y ⟨h1, h2⟩
  rw [cfK_no] at h1
  unfold ltK ltP at h1 ⊢
  obtain ⟨xa, xn, xi⟩ := x
  obtain ⟨ya, yn, yi⟩ := y
  dsimp only at h1 ⊢
  have h3 : ¬ (xa = ya ∧ xn = yn ∧ xi = yi) := fun h => h2 (by rw [h.1, h.2.1, h.2.2])
  omega

set_option maxHeartbeats 1000000 in
theorem sortedKeysK {w : World} {o : Option Nat} {n : Nat} {f : Ky → Option (Nat × Nat)} (h : Mo kyE w o n (fun x => (f x).map dV)) (hn : n ≤ 100000) :
    Calls Tryz.prog 120 #[.map o, .func (.func 93) #[] #[]] w fun e w' => ∃ v ys, e = .returned v ∧ (∀ x, x ∈ ys ↔ x.ok ∧ (f x).isSome = true) ∧ ys.Pairwise ltK ∧ ys.length ≤ 100000 ∧ Row clK 3 w' v ys ∧ (∀ b, v.ownBlock = some b → w.heap.size ≤ b ∧ b < w'.heap.size) ∧ Below w.heap.size w w' := by
  have hsome : ∀ x, ((f x).map dV).isSome = (f x).isSome := fun x => by cases f x <;> rfl
  have cB : (w.alloc (.cells #[.map o] 74)).cell? ⟨w.heap.size, 0, none⟩ = some (.map o) := (new_cell w #[.map o] 74 0).trans rfl
  have hb0 := below_new w (.cells #[.map o] 74)
  have hz := size_new w (.cells #[.map o] 74)
  have hF : Calls Tryz.prog 137 #[.func (.func 156) #[] #[.pointer (some ⟨w.heap.size, 0, none⟩)], .func (.func 93) #[] #[]] (w.alloc (.cells #[.map o] 74)) fun e w' => ∃ v ys, e = .returned v ∧ (∀ x, x ∈ ys ↔ x.ok ∧ (f x).isSome = true) ∧ ys.Pairwise ltK ∧ ys.length ≤ 100000 ∧ Row clK 3 w' v ys ∧ (∀ b, v.ownBlock = some b → w.heap.size ≤ b ∧ b < w'.heap.size) ∧ Below w.heap.size w w' := by
    cases o with
    | none =>
      refine (sortedFuncK enter_keysK (N := 0) (by omega) (fun xs hx => by subst hx; simp) (keysK_stops_nil 8 _ _ cB)).mono ?_
      rintro e w' ⟨v, xs, ys, rfl, rfl, hp, hs, hR, hnl, hb, hB⟩
      have : ys = [] := hp.eq_nil
      subst this
      refine ⟨v, [], rfl, fun x => ?_, List.Pairwise.nil, by simp, hR, fun b hb' => ?_, next hb0 hB⟩
      · have : (f x).map dV = none := h.2 x
        rw [← hsome x, this]
        simp
      · have := hb b hb'
        omega
    | some r =>
      have h : Mk kyE w r n (fun x => (f x).map dV) := h
      refine (sortedFuncK enter_keysK hn (fun xs hx => ?_) (keysK_stops 8 _ r n _ _ cB (h.held hb0))).mono ?_
      · rw [h.card hx.1 hx.2]; exact hn
      rintro e w' ⟨v, xs, ys, rfl, hx, hp, hs, hR, hnl, hb, hB⟩
      refine ⟨v, ys, rfl, fun x => ?_, strictK hx.1 hp hs, ?_, hR, fun b hb' => ?_, next hb0 hB⟩
      · rw [hp.mem_iff, hx.2 x, hsome x]
      · rw [hp.length_eq, h.card hx.1 hx.2]; exact hn
      · have := hb b hb'
        omega
  clear h
  have HF := Lib.hid hF
  clear hF cB hsome
  go_enter Tryz.func120, Tryz.ntmps120
  go_wp2_with (first
    | (go_at_call 138; refine (keysK_fn o _).mono ?_; rintro e w' ⟨rfl, rfl⟩)
    | (go_at_call 137; refine HF.out.mono ?_; rintro e w2 ⟨v, ys, rfl, hm, hs, hl, hR, hb, hB⟩))
  go_ret
  exact ⟨v, ys, rfl, hm, hs, hl, hR, hb, hB⟩

theorem cloneK {w : World} {o : Option Nat} {n : Nat} {f : Ky → Option Value} (h : Mo kyE w o n f) :
    Calls Tryz.prog 119 #[.map o] w fun e w' => ∃ o', e = .returned (.map o') ∧ Mo kyE w' o' n f ∧ (∀ b, o' = some b → w.heap.size ≤ b ∧ b < w'.heap.size) ∧ Below w.heap.size w w' := by
  cases o with
  | none =>
    refine (AnyW.maps_Clone_nil Tryz.cloneK w).mono ?_
    rintro e w' ⟨rfl, rfl⟩
    exact ⟨none, rfl, h, (fun b hb => by cases hb), Below.refl _ _⟩
  | some r =>
    obtain ⟨D, hown, hn, S⟩ := h
    refine (AnyW.maps_Clone_owns Tryz.cloneK _ _ r _ D w hown).mono ?_
    rintro e w' ⟨rfl, h1, -, hB⟩
    exact ⟨some w.heap.size, rfl, ⟨D, h1, hn, S⟩, (fun b hb => by cases hb; exact ⟨Nat.le_refl _, h1.lt⟩), hB⟩

set_option maxHeartbeats 1000000 in
theorem inOrderK {w : World} {o : Option Nat} {n : Nat} {f : Ky → Option (Nat × Nat)} (h : Mo kyE w o n (fun x => (f x).map dV)) (hn : n ≤ 100000) :
    Calls Tryz.prog 92 #[.map o, .func (.func 93) #[] #[]] w fun e w' => ∃ B1 B2 v o' xs, e = .returned (.func (.func 121) #[] #[.pointer (some ⟨B1, 0, none⟩), .pointer (some ⟨B2, 0, none⟩)]) ∧ ItK w' B1 B2 v o' n f xs ∧ (∀ b, b ∈ itL B1 B2 v o' → w.heap.size ≤ b) ∧ Below w.heap.size w w' := by
  have HC := Lib.hid (cloneK h)
  clear h
  go_enter Tryz.func92, Tryz.ntmps92
  go_wp2_with (first
    | (go_at_call 119; refine HC.out.mono ?_; rintro e w1 ⟨o', rfl, hM, ho, hB1⟩; have HS := sortedKeysK (hM.of_block fun b hb => (below_new w1 (.cells #[.map o'] 74)).block b (ho b hb).2) hn; have HM := Lib.hid hM; have HO := Lib.hid ho; have HB1 := Lib.hid hB1; replace HS := Lib.hid HS; clear hM ho hB1)
    | (go_at_call 120; refine HS.out.mono ?_; rintro e w3 ⟨v, ys, rfl, hm, hs, hl, hR, hb, hB3⟩; obtain ⟨vp, vl, vc, rfl⟩ := hR.slice; have HY := Lib.hid (And.intro hm (And.intro hs (And.intro hl (And.intro hR (And.intro hb hB3))))); clear hm hs hl hR hb hB3))
  go_ret
  obtain ⟨hm, hs, hl, hR, hb, hB3⟩ := HY.out
  clear HY HC HS
  generalize Value.slice vp vl vc = v at *
  have hB1 := HB1.out
  have hb2 := below_new w1 (.cells #[.map o'] 74)
  have hb4 := below_new w3 (.cells #[v] 208)
  have hz1 := size_new w1 (.cells #[.map o'] 74)
  have hz3 := size_new w3 (.cells #[v] 208)
  have s1 := hB1.size
  have s3 := hB3.size
  have hlt : ∀ b, b ∈ itL w3.heap.size w1.heap.size v o' → w.heap.size ≤ b ∧ b < w3.heap.size + 1 := fun b hb' => by
    rcases mem_itL.1 hb' with rfl | rfl | h | h
    · omega
    · omega
    · have := hb b h; omega
    · have := HO.out b h; omega
  refine ⟨w3.heap.size, w1.heap.size, v, o', ys, rfl, ⟨Blk.new _ _ _, ((Blk.new w1 _ _).held hB3).held hb4, ?_, ?_, hm, hs, hl, fun b hb' => by rw [hz3]; exact (hlt b hb').2⟩, fun b hb' => (hlt b hb').1, next hB1 (next hb2 (next hB3 hb4))⟩
  · exact hR.keep (L := v.ownBlock.toList) (.of_below (fun b hb' => (hb b (by simpa using hb')).2) hb4) (fun b hb' => by simpa using hb')
  · exact HM.out.of_block fun b hb' => (next hb2 (next hB3 hb4)).block b (HO.out b hb').2
end Go.Proofs.YtmhcjhbmeohjdaaGreat

namespace Go.Proofs.YtmhcjhbmeohjdaaGreat
open Go.RowKit Rm
variable {tS : TypeId} {XS : List Value}

set_option maxHeartbeats 1000000 in
theorem owns_any {w : World} {d : Nat} {o fl : Option Nat} {id lease n m : Nat} {own : Pk → Option Bool} {floor : Ky → Option (Nat × Nat)} (h : St tS XS w d o fl id lease n m own floor) :
    Calls Tryz.prog 62 #[.pointer (some ⟨d, 0, none⟩)] w fun e w' => ∃ B1 B2 B3 v o' xs, e = .returned (.func (.func 90) #[] #[.pointer (some ⟨B3, 0, none⟩)]) ∧ ItP w' B1 B2 v o' n own xs ∧
      Blk 174 w' B3 #[.func (.func 117) #[] #[.pointer (some ⟨B1, 0, none⟩), .pointer (some ⟨B2, 0, none⟩)]] ∧ (∀ b, b ∈ itL B1 B2 v o' → w.heap.size ≤ b) ∧ w.heap.size ≤ B3 ∧ Below w.heap.size w w' := by
  have c2 : w.cell? ⟨d, 2, none⟩ = some (.map o) := h.head.at_ 2
  have HI := Lib.hid (inOrderP h.owns (by have := h.counts; omega))
  clear h
  go_enter Tryz.func62, Tryz.ntmps62
  go_wp2_with (go_at_call 89; refine HI.out.mono ?_; rintro e w2 ⟨B1, B2, v, o', xs, rfl, hI, hf, hB⟩)
  go_ret
  have hb := below_new w2 (.cells #[.func (.func 117) #[] #[.pointer (some ⟨B1, 0, none⟩), .pointer (some ⟨B2, 0, none⟩)]] 174)
  exact ⟨B1, B2, w2.heap.size, v, o', xs, rfl, hI.held hb, Blk.new _ _ _, hf, hB.size, next hB hb⟩

set_option maxHeartbeats 1000000 in
theorem floors_any {w : World} {d : Nat} {o fl : Option Nat} {id lease n m : Nat} {own : Pk → Option Bool} {floor : Ky → Option (Nat × Nat)} (h : St tS XS w d o fl id lease n m own floor) :
    Calls Tryz.prog 66 #[.pointer (some ⟨d, 0, none⟩)] w fun e w' => ∃ B1 B2 v o' xs, e = .returned (.func (.func 121) #[] #[.pointer (some ⟨B1, 0, none⟩), .pointer (some ⟨B2, 0, none⟩)]) ∧ ItK w' B1 B2 v o' m floor xs ∧
      (∀ b, b ∈ itL B1 B2 v o' → w.heap.size ≤ b) ∧ Below w.heap.size w w' := by
  have c3 : w.cell? ⟨d, 3, none⟩ = some (.map fl) := h.head.at_ 3
  have HI := Lib.hid (inOrderK h.floors (by have := h.counts; omega))
  clear h
  go_enter Tryz.func66, Tryz.ntmps66
  go_wp2_with (go_at_call 92; refine HI.out.mono ?_; rintro e w2 ⟨B1, B2, v, o', xs, rfl, hI, hf, hB⟩)
  go_ret
  exact ⟨B1, B2, v, o', xs, rfl, hI, hf, hB⟩
end Go.Proofs.YtmhcjhbmeohjdaaGreat

namespace Go.Proofs.YtmhcjhbmeohjdaaGreat
open Go.RowKit Go.Maps Go.Sort
attribute [local go_sem] Oper.semAt_some

def fitP (y : Bool) : Prop :=
  y = y
/-- an entry of f -/
structure ElP (f : Pk → Option (Bool)) where
  key : Pk
  val : Bool
  ok : key.ok
  fit : fitP val
  has : f key = some val
def EsP (f : Pk → Option (Bool)) (xs : List Pk) (es : List (ElP f)) : Prop := es.map (·.key) = xs
theorem esP_ex {f : Pk → Option (Bool)} (hf : ∀ x y, f x = some y → fitP y) : ∀ xs : List Pk, (∀ x ∈ xs, x.ok ∧ (f x).isSome = true) → ∃ es, EsP f xs es
  | [], _ => ⟨[], rfl⟩
  | x :: r, h => by
    obtain ⟨es, h1⟩ := esP_ex hf r fun y hy => h y (by simp [hy])
    obtain ⟨h3, h4⟩ := h x (by simp)
    obtain ⟨y, hy⟩ := Option.isSome_iff_exists.1 h4
    exact ⟨⟨x, y, h3, hf x y hy, hy⟩ :: es, by show x :: es.map (·.key) = _; rw [h1]⟩
/-- what a caller's function is handed -/
def arP {f : Pk → Option (Bool)} (x : ElP f) : Array Value := #[.agg (clP x.key).toArray, ownV x.val]
/-- what it comes to: it goes on, or it does not -/
def goP {f : Pk → Option (Bool)} (L : List Nat) (J Jx : List (ElP f) → World → Prop) (pre : List (ElP f)) (x : ElP f) (W1 : World) (e : Ending) (W' : World) : Prop :=
  ∃ b : Bool, e = .returned (.bool b) ∧ (if b then J (pre ++ [x]) W' ∧ Keep L W1 W' ∧ W1.heap.size ≤ W'.heap.size else Jx (pre ++ [x]) W')

theorem zeroP (w : World) : (zeroValue 161).run Tryz.prog w = .ok (.agg #[.bool false]) w := by kernel_rfl

set_option maxRecDepth 100000 in
set_option maxHeartbeats 2000000 in
theorem inOrd1P {W : World} {B1 B2 n : Nat} {v : Value} {o : Option Nat} {f : Pk → Option (Bool)} {xs : List Pk} {es : List (ElP f)} (h : ItP W B1 B2 v o n f xs) (hE : EsP f xs es) (fv : Fv) (J Jx : List (ElP f) → World → Prop) (hJ : AbidesFrom W.heap.size J)
    (hY : ∀ pre x rest W1, es = pre ++ x :: rest → J pre W1 → fv.At Tryz.prog (arP x) W1 (goP (itL B1 B2 v o) J Jx pre x W1)) (h0 : J [] W) (m : Nat) :
    CallsIn Fence.wide m Tryz.prog 117 #[fv.val, .pointer (some ⟨B1, 0, none⟩), .pointer (some ⟨B2, 0, none⟩)] W fun e W' => (∃ v, e = .returned v) ∧ (J es W' ∨ ∃ pre, pre <+: es ∧ Jx pre W') := by
  have c1 := h.b1.at_ 0
  have hlen : es.length = xs.length := by rw [← show es.map (·.key) = xs from hE]; simp
  have hl5 := h.len
  rcases h.row with ⟨rfl, rfl⟩ | ⟨g, cap, rfl, hr1, hr2, hr3⟩
  · have he : es = [] := List.eq_nil_of_length_eq_zero hlen
    subst he
    clear h hY hE
    cases fv with
    | fn gg lb =>
      refine callsIn_of_wp Tryz.func117 rfl trivial ?_ rfl
      simp only [Fv.val, Tryz.ntmps117, List.size_toArray, List.length_cons, List.length_nil, Nat.reduceAdd, Nat.reduceSub, Array.replicate_succ, Array.replicate_zero, List.push_toArray, List.append_toArray, List.nil_append, List.cons_append]
      gi_wp2
      refine wpIn_loop_rounds 1 ?_
      rw [roundsIn_succ]
      gi_wp2
      go_end0
      exact ⟨⟨_, rfl⟩, .inl h0⟩
    | loop l =>
      refine callsIn_of_wp Tryz.func117 rfl trivial ?_ rfl
      simp only [Fv.val, Tryz.ntmps117, List.size_toArray, List.length_cons, List.length_nil, Nat.reduceAdd, Nat.reduceSub, Array.replicate_succ, Array.replicate_zero, List.push_toArray, List.append_toArray, List.nil_append, List.cons_append]
      gi_wp2
      refine wpIn_loop_rounds 1 ?_
      rw [roundsIn_succ]
      gi_wp2
      go_end0
      exact ⟨⟨_, rfl⟩, .inl h0⟩
  · cases fv with
    | fn gg lb =>
      refine callsIn_of_wp Tryz.func117 rfl trivial ?_ rfl
      simp only [Fv.val, Tryz.ntmps117, List.size_toArray, List.length_cons, List.length_nil, Nat.reduceAdd, Nat.reduceSub, Array.replicate_succ, Array.replicate_zero, List.push_toArray, List.append_toArray, List.nil_append, List.cons_append]
      gi_wp2
      gi_loopw [8] (fun i wr => ∃ k : Nat, k ≤ xs.length ∧ i = .int .i64 k ∧ J (es.take k) wr ∧ Keep (itL B1 B2 (.slice (some ⟨g, 0, none⟩) xs.length cap) o) W wr ∧ W.heap.size ≤ wr.heap.size) (fun i _ => xs.length - (intOf i).toNat)
      case atStart => exact ⟨0, by omega, rfl, h0, Keep.refl _ _, Nat.le_refl _⟩
      case round =>
        obtain ⟨k, hk, rfl, hJs, hKp, hsz⟩ := hrel
        have hmx : xs.length ≤ 9223372036854775807 := by omega
        by_cases hlt : k < xs.length
        · have hke : k < es.length := by omega
          have hIr := h.keep hKp hsz
          have hcut : es = es.take k ++ es[k] :: es.drop (k + 1) := by rw [List.getElem_cons_drop, List.take_append_drop]
          have hxk : xs[k] = es[k].key := by simp [← show es.map (·.key) = xs from hE]
          have hnext : es.take (k + 1) = es.take k ++ [es[k]] := List.take_succ_eq_append_getElem hke
          have hpre : es.take k ++ [es[k]] <+: es := by rw [← hnext]; exact List.take_prefix _ _
          have hrow : ∀ j, j < 2 → wr.cell? ⟨g, k * 2 + j, none⟩ = (clP xs[k])[j]? := fun j hj => (World.cell?_of_block (hKp g (mem_itL.2 (.inr (.inr (.inl rfl)))))).trans (hr3 k hlt j hj)
          rw [hxk] at hrow
          generalize es[k] = x at *
          obtain ⟨⟨xa, xn⟩, y, hok, hfit, hval⟩ := x
          have r0 := hrow 0 (by omega)
          have r1 := hrow 1 (by omega)
          replace r0 : wr.cell? ⟨g, k * 2, none⟩ = some (.int .u32 xa) := r0
          replace r1 : wr.cell? ⟨g, k * 2 + 1, none⟩ = some (.int .i64 xn) := r1
          obtain ⟨rr, rfl⟩ : ∃ rr, o = some rr := by
            cases o with
            | none => have hn : (f ⟨xa, xn⟩).map ownV = none := h.map.2 ⟨xa, xn⟩; rw [hval] at hn; cases hn
            | some rr => exact ⟨rr, rfl⟩
          have hb2 := hIr.b2.at_ 0
          have hmap : Mk pkE wr rr n (fun x => (f x).map ownV) := hIr.map
          have hlt1 := hIr.b1.lt
          have hlt2 := hIr.b2.lt
          have LK := (hmap.held (below_new wr (.cells #[.int .u32 xa, .int .i64 xn] 36))).look (t := 73) (e := 161) (by kernel_rfl) (zeroP _) (i := ⟨xa, xn⟩) hok
          rw [show ((fun x => (f x).map ownV) ⟨xa, xn⟩).getD (.agg #[.bool false]) = ownV y from by show ((f ⟨xa, xn⟩).map ownV).getD _ = _; rw [hval]; rfl] at LK
          have LK2 : (Instr.lookup 73 (.map (some rr)) (.agg #[.int .u32 xa, .int .i64 xn]) false).run Tryz.prog (wr.alloc (.cells #[.int .u32 xa, .int .i64 xn] 36)).drew = .ok (ownV y) (wr.alloc (.cells #[.int .u32 xa, .int .i64 xn] 36)).drew := by
            have := (Mk.of_block (w' := (wr.alloc (.cells #[.int .u32 xa, .int .i64 xn] 36)).drew) (hmap.held (below_new wr (.cells #[.int .u32 xa, .int .i64 xn] 36))) rfl).look (t := 73) (e := 161) (by kernel_rfl) (zeroP _) (i := ⟨xa, xn⟩) hok
            rw [show ((fun x => (f x).map ownV) ⟨xa, xn⟩).getD (.agg #[.bool false]) = ownV y from by show ((f ⟨xa, xn⟩).map ownV).getD _ = _; rw [hval]; rfl] at this
            exact this
          clear LK
          have hJ2 : J (es.take k) (wr.alloc (.cells #[.int .u32 xa, .int .i64 xn] 36)).drew := hJ _ _ _ none (hJ _ _ _ none hJs (World.grownBy_alloc wr _ none) (fun r e => by cases e)) ⟨rfl, rfl, rfl, Nat.le_refl _, fun _ _ _ => rfl⟩ (fun r e => by cases e)
          have hYk := hY _ _ _ _ hcut hJ2
          have hbelow := (below_new wr (.cells #[.int .u32 xa, .int .i64 xn] 36)).drew
          have kk0 := (Blk.new wr 36 #[.int .u32 xa, .int .i64 xn]).drew.at_ 0
          have kk1 := (Blk.new wr 36 #[.int .u32 xa, .int .i64 xn]).drew.at_ 1
          have b22 : (wr.alloc (.cells #[.int .u32 xa, .int .i64 xn] 36)).drew.cell? ⟨B2, 0, none⟩ = some (.map (some rr)) := held hbelow hb2
          have REST := Lib.hid (And.intro hKp (And.intro hsz (And.intro hIr (And.intro hbelow (And.intro hnext hpre)))))
          clear hKp hsz hIr hbelow hnext hpre hmap hrow hcut hxk hJ2 hJs hY hJ hE
          have eg := hYk.1
          gi_wp2
          gi_region_with (refine ⟨trivial, fun h => (by cases h), (callsIn_any hYk.2).mono ?_⟩; rintro e W3 ⟨b, rfl, hb⟩)
          all_goals
            cases b with
            | true =>
              simp only [if_true] at hb
              gi_wp2
              go_roundw
              case rel =>
                obtain ⟨hb1, hb2', hb3⟩ := hb
                obtain ⟨g1, g2, g3, g4, g5, g6⟩ := REST.out
                refine ⟨k + 1, by omega, by go_num, by rw [g5]; exact hb1, (g1.trans (.of_below g3.lt g4)).trans hb2', ?_⟩
                have := g4.size
                omega
              case measure => simp [intOf]; omega
            | false =>
              gi_wp2
              refine bodyPost_ret (results_none rfl _ _ _) rfl ?_
              exact ⟨⟨_, rfl⟩, .inr ⟨_, REST.out.2.2.2.2.2, hb⟩⟩
        · obtain rfl : k = xs.length := by omega
          have hall : es.take xs.length = es := List.take_of_length_le (by omega)
          rw [hall] at hJs
          clear hY hE
          gi_wp2
          go_end0
          exact ⟨⟨_, rfl⟩, .inl hJs⟩
    | loop l =>
      refine callsIn_of_wp Tryz.func117 rfl trivial ?_ rfl
      simp only [Fv.val, Tryz.ntmps117, List.size_toArray, List.length_cons, List.length_nil, Nat.reduceAdd, Nat.reduceSub, Array.replicate_succ, Array.replicate_zero, List.push_toArray, List.append_toArray, List.nil_append, List.cons_append]
      gi_wp2
      gi_loopw [8] (fun i wr => ∃ k : Nat, k ≤ xs.length ∧ i = .int .i64 k ∧ J (es.take k) wr ∧ Keep (itL B1 B2 (.slice (some ⟨g, 0, none⟩) xs.length cap) o) W wr ∧ W.heap.size ≤ wr.heap.size) (fun i _ => xs.length - (intOf i).toNat)
      case atStart => exact ⟨0, by omega, rfl, h0, Keep.refl _ _, Nat.le_refl _⟩
      case round =>
        obtain ⟨k, hk, rfl, hJs, hKp, hsz⟩ := hrel
        have hmx : xs.length ≤ 9223372036854775807 := by omega
        by_cases hlt : k < xs.length
        · have hke : k < es.length := by omega
          have hIr := h.keep hKp hsz
          have hcut : es = es.take k ++ es[k] :: es.drop (k + 1) := by rw [List.getElem_cons_drop, List.take_append_drop]
          have hxk : xs[k] = es[k].key := by simp [← show es.map (·.key) = xs from hE]
          have hnext : es.take (k + 1) = es.take k ++ [es[k]] := List.take_succ_eq_append_getElem hke
          have hpre : es.take k ++ [es[k]] <+: es := by rw [← hnext]; exact List.take_prefix _ _
          have hrow : ∀ j, j < 2 → wr.cell? ⟨g, k * 2 + j, none⟩ = (clP xs[k])[j]? := fun j hj => (World.cell?_of_block (hKp g (mem_itL.2 (.inr (.inr (.inl rfl)))))).trans (hr3 k hlt j hj)
          rw [hxk] at hrow
          generalize es[k] = x at *
          obtain ⟨⟨xa, xn⟩, y, hok, hfit, hval⟩ := x
          have r0 := hrow 0 (by omega)
          have r1 := hrow 1 (by omega)
          replace r0 : wr.cell? ⟨g, k * 2, none⟩ = some (.int .u32 xa) := r0
          replace r1 : wr.cell? ⟨g, k * 2 + 1, none⟩ = some (.int .i64 xn) := r1
          obtain ⟨rr, rfl⟩ : ∃ rr, o = some rr := by
            cases o with
            | none => have hn : (f ⟨xa, xn⟩).map ownV = none := h.map.2 ⟨xa, xn⟩; rw [hval] at hn; cases hn
            | some rr => exact ⟨rr, rfl⟩
          have hb2 := hIr.b2.at_ 0
          have hmap : Mk pkE wr rr n (fun x => (f x).map ownV) := hIr.map
          have hlt1 := hIr.b1.lt
          have hlt2 := hIr.b2.lt
          have LK := (hmap.held (below_new wr (.cells #[.int .u32 xa, .int .i64 xn] 36))).look (t := 73) (e := 161) (by kernel_rfl) (zeroP _) (i := ⟨xa, xn⟩) hok
          rw [show ((fun x => (f x).map ownV) ⟨xa, xn⟩).getD (.agg #[.bool false]) = ownV y from by show ((f ⟨xa, xn⟩).map ownV).getD _ = _; rw [hval]; rfl] at LK
          have LK2 : (Instr.lookup 73 (.map (some rr)) (.agg #[.int .u32 xa, .int .i64 xn]) false).run Tryz.prog (wr.alloc (.cells #[.int .u32 xa, .int .i64 xn] 36)).drew = .ok (ownV y) (wr.alloc (.cells #[.int .u32 xa, .int .i64 xn] 36)).drew := by
            have := (Mk.of_block (w' := (wr.alloc (.cells #[.int .u32 xa, .int .i64 xn] 36)).drew) (hmap.held (below_new wr (.cells #[.int .u32 xa, .int .i64 xn] 36))) rfl).look (t := 73) (e := 161) (by kernel_rfl) (zeroP _) (i := ⟨xa, xn⟩) hok
            rw [show ((fun x => (f x).map ownV) ⟨xa, xn⟩).getD (.agg #[.bool false]) = ownV y from by show ((f ⟨xa, xn⟩).map ownV).getD _ = _; rw [hval]; rfl] at this
            exact this
          clear LK
          have hJ2 : J (es.take k) (wr.alloc (.cells #[.int .u32 xa, .int .i64 xn] 36)).drew := hJ _ _ _ none (hJ _ _ _ none hJs (World.grownBy_alloc wr _ none) (fun r e => by cases e)) ⟨rfl, rfl, rfl, Nat.le_refl _, fun _ _ _ => rfl⟩ (fun r e => by cases e)
          have hYk := hY _ _ _ _ hcut hJ2
          have hbelow := (below_new wr (.cells #[.int .u32 xa, .int .i64 xn] 36)).drew
          have kk0 := (Blk.new wr 36 #[.int .u32 xa, .int .i64 xn]).drew.at_ 0
          have kk1 := (Blk.new wr 36 #[.int .u32 xa, .int .i64 xn]).drew.at_ 1
          have b22 : (wr.alloc (.cells #[.int .u32 xa, .int .i64 xn] 36)).drew.cell? ⟨B2, 0, none⟩ = some (.map (some rr)) := held hbelow hb2
          have REST := Lib.hid (And.intro hKp (And.intro hsz (And.intro hIr (And.intro hbelow (And.intro hnext hpre)))))
          clear hKp hsz hIr hbelow hnext hpre hmap hrow hcut hxk hJ2 hJs hY hJ hE
          obtain ⟨fn, tmps, assign, body, hy, hR⟩ := hYk
          simp only [arP, clP] at hy
          gi_wp2
          gi_region_with (refine ⟨fun h => (by cases h), (roundIn_any hR).mono ?_⟩; rintro e W3 ⟨b, rfl, hb⟩)
          all_goals
            cases b with
            | true =>
              simp only [if_true] at hb
              gi_wp2
              go_roundw
              case rel =>
                obtain ⟨hb1, hb2', hb3⟩ := hb
                obtain ⟨g1, g2, g3, g4, g5, g6⟩ := REST.out
                refine ⟨k + 1, by omega, by go_num, by rw [g5]; exact hb1, (g1.trans (.of_below g3.lt g4)).trans hb2', ?_⟩
                have := g4.size
                omega
              case measure => simp [intOf]; omega
            | false =>
              gi_wp2
              refine bodyPost_ret (results_none rfl _ _ _) rfl ?_
              exact ⟨⟨_, rfl⟩, .inr ⟨_, REST.out.2.2.2.2.2, hb⟩⟩
        · obtain rfl : k = xs.length := by omega
          have hall : es.take xs.length = es := List.take_of_length_le (by omega)
          rw [hall] at hJs
          clear hY hE
          gi_wp2
          go_end0
          exact ⟨⟨_, rfl⟩, .inl hJs⟩

/-- .. for a loop -/
theorem inOrdP_stops {w : World} {B1 B2 n : Nat} {v : Value} {o : Option Nat} {f : Pk → Option (Bool)} {xs : List Pk} {es : List (ElP f)} (h : ItP w B1 B2 v o n f xs) (hE : EsP f xs es) (m : Nat) :
    SeqStopsK Fence.wide m Tryz.prog 117 #[.pointer (some ⟨B1, 0, none⟩), .pointer (some ⟨B2, 0, none⟩)] arP (KeepS (itL B1 B2 v o)) (fun ys => ys = es) (fun _ => True) es.length w := fun l J Jx W hW hJ _ hY h0 => by
  refine (inOrd1P (h.held hW) hE (.loop l) J Jx hJ (fun pre x rest W1 hc hj => ?_) h0 m).mono ?_
  · refine Fv.At.mono (R := _) (yieldAt_any (hY pre x W1 hj (by rw [hc]; simp))) ?_
    rintro e W' (⟨rfl, h1, h2, h3⟩ | ⟨rfl, h1⟩)
    · exact ⟨true, rfl, h1, h2, h3⟩
    · exact ⟨false, rfl, h1⟩
  · rintro e W' ⟨h1, h2 | ⟨pre, -, h2⟩⟩
    · exact ⟨h1, .inl ⟨es, rfl, h2⟩⟩
    · exact ⟨h1, .inr ⟨pre, trivial, h2⟩⟩
end Go.Proofs.YtmhcjhbmeohjdaaGreat

namespace Go.Proofs.YtmhcjhbmeohjdaaGreat
open Go.RowKit Go.Maps Go.Sort
attribute [local go_sem] Oper.semAt_some

/-- what a caller's function is handed -/
def arO {f : Pk → Option Bool} (x : ElP f) : Array Value := #[.agg (clP x.key).toArray, .bool x.val]
/-- each block of type t is as it was -/
def KeepT (t : TypeId) (W W' : World) : Prop := ∀ b C, Blk t W b C → Blk t W' b C
/-- what it comes to: it goes on, or it does not -/
def goO {f : Pk → Option Bool} (B : Nat) (L : List Nat) (J Jx : List (ElP f) → World → Prop) (pre : List (ElP f)) (x : ElP f) (W1 : World) (e : Ending) (W' : World) : Prop :=
  ∃ b : Bool, e = .returned (.bool b) ∧ KeepsFrom B W1 W' ∧ (if b then J (pre ++ [x]) W' ∧ KeepS L W1 W' ∧ KeepT 177 W1 W' else Jx (pre ++ [x]) W')
theorem enter_inOrdP : ∀ args w, (callFunc 117 args).run Tryz.prog w = .ok (.enter 117 args) w := enters_of Tryz.func117 (by kernel_rfl) rfl

set_option maxRecDepth 100000 in
set_option maxHeartbeats 2000000 in
theorem owns1 {W : World} {B1 B2 B3 n : Nat} {v : Value} {o : Option Nat} {f : Pk → Option Bool} {xs : List Pk} {es : List (ElP f)} (h : ItP W B1 B2 v o n f xs) (hE : EsP f xs es)
    (h3 : Blk 174 W B3 #[.func (.func 117) #[] #[.pointer (some ⟨B1, 0, none⟩), .pointer (some ⟨B2, 0, none⟩)]])
    (fv : Fv) (J Jx : List (ElP f) → World → Prop) (hJ : OwnFrom W.heap.size J) (hJx : OwnFrom W.heap.size Jx)
    (hY : ∀ pre x W1, J pre W1 → W.heap.size ≤ W1.heap.size → pre.length < es.length → fv.At Tryz.prog (arO x) W1 (goO W.heap.size (itL B1 B2 v o) J Jx pre x W1)) (h0 : J [] W) (m : Nat) :
    CallsIn Fence.wide m Tryz.prog 90 #[fv.val, .pointer (some ⟨B3, 0, none⟩)] W fun e W' => (∃ v, e = .returned v) ∧ (J es W' ∨ ∃ pre, Jx pre W') := by
  refine callsIn_any ((callsIn_wide (n := 9)).1 ?_)
  have c3 := h3.at_ 0
  have hl3 := h3.lt
  cases fv with
  | fn gg lb =>
    refine callsIn_of_wp_marks Tryz.func90 rfl trivial ?_ rfl
    simp only [Fv.val, Tryz.ntmps90, List.size_toArray, List.length_cons, List.length_nil, Nat.reduceAdd, Nat.reduceSub, Array.replicate_succ, Array.replicate_zero, List.push_toArray, List.append_toArray, List.nil_append, List.cons_append]
    have hbx := below_new W (.cells #[.func (.func gg) #[] lb] 177)
    have hzx := size_new W (.cells #[.func (.func gg) #[] lb] 177)
    have hF := Blk.new W 177 #[.func (.func gg) #[] lb]
    have hJ0 : J [] (W.alloc (.cells #[.func (.func gg) #[] lb] 177)) := hJ.alloc _ h0
    have c3' := held hbx c3
    gi_wp2
    generalize W.alloc (.cells #[.func (.func gg) #[] lb] 177) = w at *
    refine wpIn_rangeFunc_ownH rfl (by omega) (gf := 117) (lb := #[.pointer (some ⟨B1, 0, none⟩), .pointer (some ⟨B2, 0, none⟩)]) rfl trivial enter_inOrdP (inOrdP_stops (h.held hbx) hE 8) KeepS.trans (keepS_put (h.held hbx).lt) (Below.refl _ _) (fun _ => rfl)
      (fun pre W' => (J pre W' ∧ Blk 177 W' W.heap.size #[.func (.func gg) #[] lb]) ∧ W.heap.size ≤ W'.heap.size)
      (fun c pre W' => c = .ret ∧ Jx pre W')
      (OwnFrom.and (OwnFrom.and (OwnFrom.up hJ (by omega)) (fun _ _ _ _ hs hg hr => hs.grown hg hr)) (fun _ _ _ _ hs hg _ => Nat.le_trans hs hg.size))
      (fun c => OwnFrom.and (ownFrom_pure _ _) (OwnFrom.up hJx (by omega)))
      ⟨⟨hJ0, hF⟩, by omega⟩
      (fun x a' W' => ∃ Bp Bo, Blk 36 W' Bp #[.int .u32 x.key.a, .int .i64 x.key.n] ∧ Blk 161 W' Bo #[.bool x.val] ∧ a' = { tmps := #[.func (.func gg) #[] lb, .pointer (some ⟨B3, 0, none⟩), .pointer (some ⟨W.heap.size, 0, none⟩), .pointer (some ⟨Bp, 0, none⟩), .pointer (some ⟨Bo, 0, none⟩), .func (.func 117) #[] #[.pointer (some ⟨B1, 0, none⟩), .pointer (some ⟨B2, 0, none⟩)], .agg #[.int .u32 x.key.a, .int .i64 x.key.n], .agg #[.bool x.val], undef, undef, undef, undef, undef, undef], defers := [] })
      ?_ ?assign ?body ?done ?stop
    · rintro x a' s W1 W' row ⟨Bp, Bo, hp, ho, rfl⟩ hg hr
      exact ⟨Bp, Bo, hp.grown hg hr, ho.grown hg hr, rfl⟩
    case assign =>
      rintro l pre ⟨⟨xa, xn⟩, y, hok, hfit, hhas⟩ W1 K ⟨⟨hj, hf⟩, hz⟩ hK
      have hP := (Blk.new W1 36 #[.int .u32 xa, .int .i64 xn]).more (.cells #[.bool y] 161)
      have hO := Blk.new (W1.alloc (.cells #[.int .u32 xa, .int .i64 xn] 36)) 161 #[.bool y]
      rw [size_new] at hO
      have hbb := next (below_new W1 (.cells #[.int .u32 xa, .int .i64 xn] 36)) (below_new (W1.alloc (.cells #[.int .u32 xa, .int .i64 xn] 36)) (.cells #[.bool y] 161))
      have hJ2 := hJ.alloc (.cells #[.bool y] 161) (hJ.alloc (.cells #[.int .u32 xa, .int .i64 xn] 36) hj)
      have hf2 := hf.held hbb
      have hsz2 := hbb.size
      simp only [arP, clP, ownV]
      gi_wp2
      exact hK _ _ (keepsFrom_below _ hbb) (.of_below (fun b hb => Nat.lt_of_lt_of_le (h.lt b hb) hz) hbb) ⟨⟨hJ2, hf2⟩, by omega⟩ ⟨_, _, hP, hO, rfl⟩
    case body =>
      rintro l pre ⟨⟨xa, xn⟩, y, hok, hfit, hhas⟩ a' W1 hl hr ⟨⟨hj, hf⟩, hz⟩ ⟨Bp, Bo, hp, ho, rfl⟩ hlt
      have hy := hY pre ⟨⟨xa, xn⟩, y, hok, hfit, hhas⟩ W1 hj hz hlt
      have p0 := hp.at_ 0
      have p1 := hp.at_ 1
      have o0 := ho.at_ 0
      have f0 := hf.at_ 0
      clear hY hJ hJx hp ho
      have eg := hy.1
      gi_wp2
      refine ⟨trivial, (callsIn_round hy.2).mono ?_⟩
      rintro e W2 ⟨b, rfl, hkf, hb⟩
      have hs2 := hkf.size
      cases b with
      | true =>
        rw [if_pos rfl] at hb
        obtain ⟨hb1, hb2, hb3⟩ := hb
        gi_wp2
        exact ⟨KeepsFrom.mono hkf (by omega), hb2, ⟨hb1, hb3 _ _ hf⟩, by omega⟩
      | false =>
        rw [if_neg (by simp)] at hb
        gi_wp2
        exact ⟨KeepsFrom.mono hkf (by omega), rfl, hb⟩
    case done =>
      rintro D ys W1 hD rfl ⟨⟨hj, hf⟩, hz⟩ hK
      have hj2 := hJ.putObj (.deferred none) hj (Nat.le_trans (by omega) hD) hK rfl
      gi_wp2
      refine ⟨by simp, .inl ⟨_, _, rfl, run_takeDeferred hK, ?_⟩⟩
      exact ⟨_, results_none rfl _ _ _, ⟨_, rfl⟩, .inl hj2⟩
    case stop =>
      rintro D c pre W1 hD _ ⟨rfl, hj⟩ hK
      have hj2 := hJx.putObj (.deferred none) hj (Nat.le_trans (by omega) hD) hK rfl
      gi_wp2
      refine ⟨by simp, .inl ⟨_, _, rfl, run_takeDeferred hK, ?_⟩⟩
      exact ⟨_, results_none rfl _ _ _, ⟨_, rfl⟩, .inr ⟨pre, hj2⟩⟩
  | loop l0 =>
    refine callsIn_of_wp_marks Tryz.func90 rfl trivial ?_ rfl
    simp only [Fv.val, Tryz.ntmps90, List.size_toArray, List.length_cons, List.length_nil, Nat.reduceAdd, Nat.reduceSub, Array.replicate_succ, Array.replicate_zero, List.push_toArray, List.append_toArray, List.nil_append, List.cons_append]
    have hbx := below_new W (.cells #[.func (.yield l0) #[] #[]] 177)
    have hzx := size_new W (.cells #[.func (.yield l0) #[] #[]] 177)
    have hF := Blk.new W 177 #[.func (.yield l0) #[] #[]]
    have hJ0 : J [] (W.alloc (.cells #[.func (.yield l0) #[] #[]] 177)) := hJ.alloc _ h0
    have c3' := held hbx c3
    gi_wp2
    generalize W.alloc (.cells #[.func (.yield l0) #[] #[]] 177) = w at *
    refine wpIn_rangeFunc_ownH rfl (by omega) (gf := 117) (lb := #[.pointer (some ⟨B1, 0, none⟩), .pointer (some ⟨B2, 0, none⟩)]) rfl trivial enter_inOrdP (inOrdP_stops (h.held hbx) hE 8) KeepS.trans (keepS_put (h.held hbx).lt) (Below.refl _ _) (fun _ => rfl)
      (fun pre W' => (J pre W' ∧ Blk 177 W' W.heap.size #[.func (.yield l0) #[] #[]]) ∧ W.heap.size ≤ W'.heap.size)
      (fun c pre W' => c = .ret ∧ Jx pre W')
      (OwnFrom.and (OwnFrom.and (OwnFrom.up hJ (by omega)) (fun _ _ _ _ hs hg hr => hs.grown hg hr)) (fun _ _ _ _ hs hg _ => Nat.le_trans hs hg.size))
      (fun c => OwnFrom.and (ownFrom_pure _ _) (OwnFrom.up hJx (by omega)))
      ⟨⟨hJ0, hF⟩, by omega⟩
      (fun x a' W' => ∃ Bp Bo, Blk 36 W' Bp #[.int .u32 x.key.a, .int .i64 x.key.n] ∧ Blk 161 W' Bo #[.bool x.val] ∧ a' = { tmps := #[.func (.yield l0) #[] #[], .pointer (some ⟨B3, 0, none⟩), .pointer (some ⟨W.heap.size, 0, none⟩), .pointer (some ⟨Bp, 0, none⟩), .pointer (some ⟨Bo, 0, none⟩), .func (.func 117) #[] #[.pointer (some ⟨B1, 0, none⟩), .pointer (some ⟨B2, 0, none⟩)], .agg #[.int .u32 x.key.a, .int .i64 x.key.n], .agg #[.bool x.val], undef, undef, undef, undef, undef, undef], defers := [] })
      ?_ ?assign ?body ?done ?stop
    · rintro x a' s W1 W' row ⟨Bp, Bo, hp, ho, rfl⟩ hg hr
      exact ⟨Bp, Bo, hp.grown hg hr, ho.grown hg hr, rfl⟩
    case assign =>
      rintro l pre ⟨⟨xa, xn⟩, y, hok, hfit, hhas⟩ W1 K ⟨⟨hj, hf⟩, hz⟩ hK
      have hP := (Blk.new W1 36 #[.int .u32 xa, .int .i64 xn]).more (.cells #[.bool y] 161)
      have hO := Blk.new (W1.alloc (.cells #[.int .u32 xa, .int .i64 xn] 36)) 161 #[.bool y]
      rw [size_new] at hO
      have hbb := next (below_new W1 (.cells #[.int .u32 xa, .int .i64 xn] 36)) (below_new (W1.alloc (.cells #[.int .u32 xa, .int .i64 xn] 36)) (.cells #[.bool y] 161))
      have hJ2 := hJ.alloc (.cells #[.bool y] 161) (hJ.alloc (.cells #[.int .u32 xa, .int .i64 xn] 36) hj)
      have hf2 := hf.held hbb
      have hsz2 := hbb.size
      simp only [arP, clP, ownV]
      gi_wp2
      exact hK _ _ (keepsFrom_below _ hbb) (.of_below (fun b hb => Nat.lt_of_lt_of_le (h.lt b hb) hz) hbb) ⟨⟨hJ2, hf2⟩, by omega⟩ ⟨_, _, hP, hO, rfl⟩
    case body =>
      rintro l pre ⟨⟨xa, xn⟩, y, hok, hfit, hhas⟩ a' W1 hl hr ⟨⟨hj, hf⟩, hz⟩ ⟨Bp, Bo, hp, ho, rfl⟩ hlt
      have hy := hY pre ⟨⟨xa, xn⟩, y, hok, hfit, hhas⟩ W1 hj hz hlt
      have p0 := hp.at_ 0
      have p1 := hp.at_ 1
      have o0 := ho.at_ 0
      have f0 := hf.at_ 0
      clear hY hJ hJx hp ho
      obtain ⟨fn, tmps, assign, body, hy, hR⟩ := hy
      simp only [arO, clP] at hy
      gi_wp2
      refine (roundIn_in hR).mono ?_
      rintro e W2 ⟨b, rfl, hkf, hb⟩
      have hs2 := hkf.size
      cases b with
      | true =>
        rw [if_pos rfl] at hb
        obtain ⟨hb1, hb2, hb3⟩ := hb
        gi_wp2
        exact ⟨KeepsFrom.mono hkf (by omega), hb2, ⟨hb1, hb3 _ _ hf⟩, by omega⟩
      | false =>
        rw [if_neg (by simp)] at hb
        gi_wp2
        exact ⟨KeepsFrom.mono hkf (by omega), rfl, hb⟩
    case done =>
      rintro D ys W1 hD rfl ⟨⟨hj, hf⟩, hz⟩ hK
      have hj2 := hJ.putObj (.deferred none) hj (Nat.le_trans (by omega) hD) hK rfl
      gi_wp2
      refine ⟨by simp, .inl ⟨_, _, rfl, run_takeDeferred hK, ?_⟩⟩
      exact ⟨_, results_none rfl _ _ _, ⟨_, rfl⟩, .inl hj2⟩
    case stop =>
      rintro D c pre W1 hD _ ⟨rfl, hj⟩ hK
      have hj2 := hJx.putObj (.deferred none) hj (Nat.le_trans (by omega) hD) hK rfl
      gi_wp2
      refine ⟨by simp, .inl ⟨_, _, rfl, run_takeDeferred hK, ?_⟩⟩
      exact ⟨_, results_none rfl _ _ _, ⟨_, rfl⟩, .inr ⟨pre, hj2⟩⟩
end Go.Proofs.YtmhcjhbmeohjdaaGreat

namespace Go.Proofs.YtmhcjhbmeohjdaaGreat
open Go.RowKit Go.Maps Go.Sort
attribute [local go_sem] Oper.semAt_some

def fitK (y : Nat × Nat) : Prop :=
  y.1 < 4294967296 ∧ y.2 < 65536
/-- an entry of f -/
structure ElK (f : Ky → Option (Nat × Nat)) where
  key : Ky
  val : Nat × Nat
  ok : key.ok
  fit : fitK val
  has : f key = some val
def EsK (f : Ky → Option (Nat × Nat)) (xs : List Ky) (es : List (ElK f)) : Prop := es.map (·.key) = xs
theorem esK_ex {f : Ky → Option (Nat × Nat)} (hf : ∀ x y, f x = some y → fitK y) : ∀ xs : List Ky, (∀ x ∈ xs, x.ok ∧ (f x).isSome = true) → ∃ es, EsK f xs es
  | [], _ => ⟨[], rfl⟩
  | x :: r, h => by
    obtain ⟨es, h1⟩ := esK_ex hf r fun y hy => h y (by simp [hy])
    obtain ⟨h3, h4⟩ := h x (by simp)
    obtain ⟨y, hy⟩ := Option.isSome_iff_exists.1 h4
    exact ⟨⟨x, y, h3, hf x y hy, hy⟩ :: es, by show x :: es.map (·.key) = _; rw [h1]⟩
/-- what a caller's function is handed -/
def arK {f : Ky → Option (Nat × Nat)} (x : ElK f) : Array Value := #[.agg (clK x.key).toArray, dV x.val]
/-- what it comes to: it goes on, or it does not -/
def goK {f : Ky → Option (Nat × Nat)} (L : List Nat) (J Jx : List (ElK f) → World → Prop) (pre : List (ElK f)) (x : ElK f) (W1 : World) (e : Ending) (W' : World) : Prop :=
  ∃ b : Bool, e = .returned (.bool b) ∧ (if b then J (pre ++ [x]) W' ∧ Keep L W1 W' ∧ W1.heap.size ≤ W'.heap.size else Jx (pre ++ [x]) W')

theorem zeroK (w : World) : (zeroValue 39).run Tryz.prog w = .ok (.agg #[.int .u32 0, .int .u16 0]) w := by kernel_rfl

set_option maxRecDepth 100000 in
set_option maxHeartbeats 2000000 in
theorem inOrd1K {W : World} {B1 B2 n : Nat} {v : Value} {o : Option Nat} {f : Ky → Option (Nat × Nat)} {xs : List Ky} {es : List (ElK f)} (h : ItK W B1 B2 v o n f xs) (hE : EsK f xs es) (fv : Fv) (J Jx : List (ElK f) → World → Prop) (hJ : AbidesFrom W.heap.size J)
    (hY : ∀ pre x rest W1, es = pre ++ x :: rest → J pre W1 → fv.At Tryz.prog (arK x) W1 (goK (itL B1 B2 v o) J Jx pre x W1)) (h0 : J [] W) (m : Nat) :
    CallsIn Fence.wide m Tryz.prog 121 #[fv.val, .pointer (some ⟨B1, 0, none⟩), .pointer (some ⟨B2, 0, none⟩)] W fun e W' => (∃ v, e = .returned v) ∧ (J es W' ∨ ∃ pre, pre <+: es ∧ Jx pre W') := by
  have c1 := h.b1.at_ 0
  have hlen : es.length = xs.length := by rw [← show es.map (·.key) = xs from hE]; simp
  have hl5 := h.len
  rcases h.row with ⟨rfl, rfl⟩ | ⟨g, cap, rfl, hr1, hr2, hr3⟩
  · have he : es = [] := List.eq_nil_of_length_eq_zero hlen
    subst he
    clear h hY hE
    cases fv with
    | fn gg lb =>
      refine callsIn_of_wp Tryz.func121 rfl trivial ?_ rfl
      simp only [Fv.val, Tryz.ntmps121, List.size_toArray, List.length_cons, List.length_nil, Nat.reduceAdd, Nat.reduceSub, Array.replicate_succ, Array.replicate_zero, List.push_toArray, List.append_toArray, List.nil_append, List.cons_append]
      gi_wp2
      refine wpIn_loop_rounds 1 ?_
      rw [roundsIn_succ]
      gi_wp2
      go_end0
      exact ⟨⟨_, rfl⟩, .inl h0⟩
    | loop l =>
      refine callsIn_of_wp Tryz.func121 rfl trivial ?_ rfl
      simp only [Fv.val, Tryz.ntmps121, List.size_toArray, List.length_cons, List.length_nil, Nat.reduceAdd, Nat.reduceSub, Array.replicate_succ, Array.replicate_zero, List.push_toArray, List.append_toArray, List.nil_append, List.cons_append]
      gi_wp2
      refine wpIn_loop_rounds 1 ?_
      rw [roundsIn_succ]
      gi_wp2
      go_end0
      exact ⟨⟨_, rfl⟩, .inl h0⟩
  · cases fv with
    | fn gg lb =>
      refine callsIn_of_wp Tryz.func121 rfl trivial ?_ rfl
      simp only [Fv.val, Tryz.ntmps121, List.size_toArray, List.length_cons, List.length_nil, Nat.reduceAdd, Nat.reduceSub, Array.replicate_succ, Array.replicate_zero, List.push_toArray, List.append_toArray, List.nil_append, List.cons_append]
      gi_wp2
      gi_loopw [8] (fun i wr => ∃ k : Nat, k ≤ xs.length ∧ i = .int .i64 k ∧ J (es.take k) wr ∧ Keep (itL B1 B2 (.slice (some ⟨g, 0, none⟩) xs.length cap) o) W wr ∧ W.heap.size ≤ wr.heap.size) (fun i _ => xs.length - (intOf i).toNat)
      case atStart => exact ⟨0, by omega, rfl, h0, Keep.refl _ _, Nat.le_refl _⟩
      case round =>
        obtain ⟨k, hk, rfl, hJs, hKp, hsz⟩ := hrel
        have hmx : xs.length ≤ 9223372036854775807 := by omega
        by_cases hlt : k < xs.length
        · have hke : k < es.length := by omega
          have hIr := h.keep hKp hsz
          have hcut : es = es.take k ++ es[k] :: es.drop (k + 1) := by rw [List.getElem_cons_drop, List.take_append_drop]
          have hxk : xs[k] = es[k].key := by simp [← show es.map (·.key) = xs from hE]
          have hnext : es.take (k + 1) = es.take k ++ [es[k]] := List.take_succ_eq_append_getElem hke
          have hpre : es.take k ++ [es[k]] <+: es := by rw [← hnext]; exact List.take_prefix _ _
          have hrow : ∀ j, j < 3 → wr.cell? ⟨g, k * 3 + j, none⟩ = (clK xs[k])[j]? := fun j hj => (World.cell?_of_block (hKp g (mem_itL.2 (.inr (.inr (.inl rfl)))))).trans (hr3 k hlt j hj)
          rw [hxk] at hrow
          generalize es[k] = x at *
          obtain ⟨⟨xa, xn, xi⟩, y, hok, hfit, hval⟩ := x
          have r0 := hrow 0 (by omega)
          have r1 := hrow 1 (by omega)
          have r2 := hrow 2 (by omega)
          replace r0 : wr.cell? ⟨g, k * 3, none⟩ = some (.int .u32 xa) := r0
          replace r1 : wr.cell? ⟨g, k * 3 + 1, none⟩ = some (.int .i64 xn) := r1
          replace r2 : wr.cell? ⟨g, k * 3 + 2, none⟩ = some (.int .u32 xi) := r2
          obtain ⟨rr, rfl⟩ : ∃ rr, o = some rr := by
            cases o with
            | none => have hn : (f ⟨xa, xn, xi⟩).map dV = none := h.map.2 ⟨xa, xn, xi⟩; rw [hval] at hn; cases hn
            | some rr => exact ⟨rr, rfl⟩
          have hb2 := hIr.b2.at_ 0
          have hmap : Mk kyE wr rr n (fun x => (f x).map dV) := hIr.map
          have hlt1 := hIr.b1.lt
          have hlt2 := hIr.b2.lt
          have LK := (hmap.held (below_new wr (.cells #[.int .u32 xa, .int .i64 xn, .int .u32 xi] 147))).look (t := 74) (e := 39) (by kernel_rfl) (zeroK _) (i := ⟨xa, xn, xi⟩) hok
          rw [show ((fun x => (f x).map dV) ⟨xa, xn, xi⟩).getD (.agg #[.int .u32 0, .int .u16 0]) = dV y from by show ((f ⟨xa, xn, xi⟩).map dV).getD _ = _; rw [hval]; rfl] at LK
          have LK2 : (Instr.lookup 74 (.map (some rr)) (.agg #[.int .u32 xa, .int .i64 xn, .int .u32 xi]) false).run Tryz.prog (wr.alloc (.cells #[.int .u32 xa, .int .i64 xn, .int .u32 xi] 147)).drew = .ok (dV y) (wr.alloc (.cells #[.int .u32 xa, .int .i64 xn, .int .u32 xi] 147)).drew := by
            have := (Mk.of_block (w' := (wr.alloc (.cells #[.int .u32 xa, .int .i64 xn, .int .u32 xi] 147)).drew) (hmap.held (below_new wr (.cells #[.int .u32 xa, .int .i64 xn, .int .u32 xi] 147))) rfl).look (t := 74) (e := 39) (by kernel_rfl) (zeroK _) (i := ⟨xa, xn, xi⟩) hok
            rw [show ((fun x => (f x).map dV) ⟨xa, xn, xi⟩).getD (.agg #[.int .u32 0, .int .u16 0]) = dV y from by show ((f ⟨xa, xn, xi⟩).map dV).getD _ = _; rw [hval]; rfl] at this
            exact this
          clear LK
          have hJ2 : J (es.take k) (wr.alloc (.cells #[.int .u32 xa, .int .i64 xn, .int .u32 xi] 147)).drew := hJ _ _ _ none (hJ _ _ _ none hJs (World.grownBy_alloc wr _ none) (fun r e => by cases e)) ⟨rfl, rfl, rfl, Nat.le_refl _, fun _ _ _ => rfl⟩ (fun r e => by cases e)
          have hYk := hY _ _ _ _ hcut hJ2
          have hbelow := (below_new wr (.cells #[.int .u32 xa, .int .i64 xn, .int .u32 xi] 147)).drew
          have kk0 := (Blk.new wr 147 #[.int .u32 xa, .int .i64 xn, .int .u32 xi]).drew.at_ 0
          have kk1 := (Blk.new wr 147 #[.int .u32 xa, .int .i64 xn, .int .u32 xi]).drew.at_ 1
          have kk2 := (Blk.new wr 147 #[.int .u32 xa, .int .i64 xn, .int .u32 xi]).drew.at_ 2
          have b22 : (wr.alloc (.cells #[.int .u32 xa, .int .i64 xn, .int .u32 xi] 147)).drew.cell? ⟨B2, 0, none⟩ = some (.map (some rr)) := held hbelow hb2
          have REST := Lib.hid (And.intro hKp (And.intro hsz (And.intro hIr (And.intro hbelow (And.intro hnext hpre)))))
          clear hKp hsz hIr hbelow hnext hpre hmap hrow hcut hxk hJ2 hJs hY hJ hE
          have eg := hYk.1
          gi_wp2
          gi_region_with (refine ⟨trivial, fun h => (by cases h), (callsIn_any hYk.2).mono ?_⟩; rintro e W3 ⟨b, rfl, hb⟩)
          all_goals
            cases b with
            | true =>
              simp only [if_true] at hb
              gi_wp2
              go_roundw
              case rel =>
                obtain ⟨hb1, hb2', hb3⟩ := hb
                obtain ⟨g1, g2, g3, g4, g5, g6⟩ := REST.out
                refine ⟨k + 1, by omega, by go_num, by rw [g5]; exact hb1, (g1.trans (.of_below g3.lt g4)).trans hb2', ?_⟩
                have := g4.size
                omega
              case measure => simp [intOf]; omega
            | false =>
              gi_wp2
              refine bodyPost_ret (results_none rfl _ _ _) rfl ?_
              exact ⟨⟨_, rfl⟩, .inr ⟨_, REST.out.2.2.2.2.2, hb⟩⟩
        · obtain rfl : k = xs.length := by omega
          have hall : es.take xs.length = es := List.take_of_length_le (by omega)
          rw [hall] at hJs
          clear hY hE
          gi_wp2
          go_end0
          exact ⟨⟨_, rfl⟩, .inl hJs⟩
    | loop l =>
      refine callsIn_of_wp Tryz.func121 rfl trivial ?_ rfl
      simp only [Fv.val, Tryz.ntmps121, List.size_toArray, List.length_cons, List.length_nil, Nat.reduceAdd, Nat.reduceSub, Array.replicate_succ, Array.replicate_zero, List.push_toArray, List.append_toArray, List.nil_append, List.cons_append]
      gi_wp2
      gi_loopw [8] (fun i wr => ∃ k : Nat, k ≤ xs.length ∧ i = .int .i64 k ∧ J (es.take k) wr ∧ Keep (itL B1 B2 (.slice (some ⟨g, 0, none⟩) xs.length cap) o) W wr ∧ W.heap.size ≤ wr.heap.size) (fun i _ => xs.length - (intOf i).toNat)
      case atStart => exact ⟨0, by omega, rfl, h0, Keep.refl _ _, Nat.le_refl _⟩
      case round =>
        obtain ⟨k, hk, rfl, hJs, hKp, hsz⟩ := hrel
        have hmx : xs.length ≤ 9223372036854775807 := by omega
        by_cases hlt : k < xs.length
        · have hke : k < es.length := by omega
          have hIr := h.keep hKp hsz
          have hcut : es = es.take k ++ es[k] :: es.drop (k + 1) := by rw [List.getElem_cons_drop, List.take_append_drop]
          have hxk : xs[k] = es[k].key := by simp [← show es.map (·.key) = xs from hE]
          have hnext : es.take (k + 1) = es.take k ++ [es[k]] := List.take_succ_eq_append_getElem hke
          have hpre : es.take k ++ [es[k]] <+: es := by rw [← hnext]; exact List.take_prefix _ _
          have hrow : ∀ j, j < 3 → wr.cell? ⟨g, k * 3 + j, none⟩ = (clK xs[k])[j]? := fun j hj => (World.cell?_of_block (hKp g (mem_itL.2 (.inr (.inr (.inl rfl)))))).trans (hr3 k hlt j hj)
          rw [hxk] at hrow
          generalize es[k] = x at *
          obtain ⟨⟨xa, xn, xi⟩, y, hok, hfit, hval⟩ := x
          have r0 := hrow 0 (by omega)
          have r1 := hrow 1 (by omega)
          have r2 := hrow 2 (by omega)
          replace r0 : wr.cell? ⟨g, k * 3, none⟩ = some (.int .u32 xa) := r0
          replace r1 : wr.cell? ⟨g, k * 3 + 1, none⟩ = some (.int .i64 xn) := r1
          replace r2 : wr.cell? ⟨g, k * 3 + 2, none⟩ = some (.int .u32 xi) := r2
          obtain ⟨rr, rfl⟩ : ∃ rr, o = some rr := by
            cases o with
            | none => have hn : (f ⟨xa, xn, xi⟩).map dV = none := h.map.2 ⟨xa, xn, xi⟩; rw [hval] at hn; cases hn
            | some rr => exact ⟨rr, rfl⟩
          have hb2 := hIr.b2.at_ 0
          have hmap : Mk kyE wr rr n (fun x => (f x).map dV) := hIr.map
          have hlt1 := hIr.b1.lt
          have hlt2 := hIr.b2.lt
          have LK := (hmap.held (below_new wr (.cells #[.int .u32 xa, .int .i64 xn, .int .u32 xi] 147))).look (t := 74) (e := 39) (by kernel_rfl) (zeroK _) (i := ⟨xa, xn, xi⟩) hok
          rw [show ((fun x => (f x).map dV) ⟨xa, xn, xi⟩).getD (.agg #[.int .u32 0, .int .u16 0]) = dV y from by show ((f ⟨xa, xn, xi⟩).map dV).getD _ = _; rw [hval]; rfl] at LK
          have LK2 : (Instr.lookup 74 (.map (some rr)) (.agg #[.int .u32 xa, .int .i64 xn, .int .u32 xi]) false).run Tryz.prog (wr.alloc (.cells #[.int .u32 xa, .int .i64 xn, .int .u32 xi] 147)).drew = .ok (dV y) (wr.alloc (.cells #[.int .u32 xa, .int .i64 xn, .int .u32 xi] 147)).drew := by
            have := (Mk.of_block (w' := (wr.alloc (.cells #[.int .u32 xa, .int .i64 xn, .int .u32 xi] 147)).drew) (hmap.held (below_new wr (.cells #[.int .u32 xa, .int .i64 xn, .int .u32 xi] 147))) rfl).look (t := 74) (e := 39) (by kernel_rfl) (zeroK _) (i := ⟨xa, xn, xi⟩) hok
            rw [show ((fun x => (f x).map dV) ⟨xa, xn, xi⟩).getD (.agg #[.int .u32 0, .int .u16 0]) = dV y from by show ((f ⟨xa, xn, xi⟩).map dV).getD _ = _; rw [hval]; rfl] at this
            exact this
          clear LK
          have hJ2 : J (es.take k) (wr.alloc (.cells #[.int .u32 xa, .int .i64 xn, .int .u32 xi] 147)).drew := hJ _ _ _ none (hJ _ _ _ none hJs (World.grownBy_alloc wr _ none) (fun r e => by cases e)) ⟨rfl, rfl, rfl, Nat.le_refl _, fun _ _ _ => rfl⟩ (fun r e => by cases e)
          have hYk := hY _ _ _ _ hcut hJ2
          have hbelow := (below_new wr (.cells #[.int .u32 xa, .int .i64 xn, .int .u32 xi] 147)).drew
          have kk0 := (Blk.new wr 147 #[.int .u32 xa, .int .i64 xn, .int .u32 xi]).drew.at_ 0
          have kk1 := (Blk.new wr 147 #[.int .u32 xa, .int .i64 xn, .int .u32 xi]).drew.at_ 1
          have kk2 := (Blk.new wr 147 #[.int .u32 xa, .int .i64 xn, .int .u32 xi]).drew.at_ 2
          have b22 : (wr.alloc (.cells #[.int .u32 xa, .int .i64 xn, .int .u32 xi] 147)).drew.cell? ⟨B2, 0, none⟩ = some (.map (some rr)) := held hbelow hb2
          have REST := Lib.hid (And.intro hKp (And.intro hsz (And.intro hIr (And.intro hbelow (And.intro hnext hpre)))))
          clear hKp hsz hIr hbelow hnext hpre hmap hrow hcut hxk hJ2 hJs hY hJ hE
          obtain ⟨fn, tmps, assign, body, hy, hR⟩ := hYk
          simp only [arK, clK] at hy
          gi_wp2
          gi_region_with (refine ⟨fun h => (by cases h), (roundIn_any hR).mono ?_⟩; rintro e W3 ⟨b, rfl, hb⟩)
          all_goals
            cases b with
            | true =>
              simp only [if_true] at hb
              gi_wp2
              go_roundw
              case rel =>
                obtain ⟨hb1, hb2', hb3⟩ := hb
                obtain ⟨g1, g2, g3, g4, g5, g6⟩ := REST.out
                refine ⟨k + 1, by omega, by go_num, by rw [g5]; exact hb1, (g1.trans (.of_below g3.lt g4)).trans hb2', ?_⟩
                have := g4.size
                omega
              case measure => simp [intOf]; omega
            | false =>
              gi_wp2
              refine bodyPost_ret (results_none rfl _ _ _) rfl ?_
              exact ⟨⟨_, rfl⟩, .inr ⟨_, REST.out.2.2.2.2.2, hb⟩⟩
        · obtain rfl : k = xs.length := by omega
          have hall : es.take xs.length = es := List.take_of_length_le (by omega)
          rw [hall] at hJs
          clear hY hE
          gi_wp2
          go_end0
          exact ⟨⟨_, rfl⟩, .inl hJs⟩

/-- .. for a loop -/
theorem inOrdK_stops {w : World} {B1 B2 n : Nat} {v : Value} {o : Option Nat} {f : Ky → Option (Nat × Nat)} {xs : List Ky} {es : List (ElK f)} (h : ItK w B1 B2 v o n f xs) (hE : EsK f xs es) (m : Nat) :
    SeqStopsK Fence.wide m Tryz.prog 121 #[.pointer (some ⟨B1, 0, none⟩), .pointer (some ⟨B2, 0, none⟩)] arK (KeepS (itL B1 B2 v o)) (fun ys => ys = es) (fun _ => True) es.length w := fun l J Jx W hW hJ _ hY h0 => by
  refine (inOrd1K (h.held hW) hE (.loop l) J Jx hJ (fun pre x rest W1 hc hj => ?_) h0 m).mono ?_
  · refine Fv.At.mono (R := _) (yieldAt_any (hY pre x W1 hj (by rw [hc]; simp))) ?_
    rintro e W' (⟨rfl, h1, h2, h3⟩ | ⟨rfl, h1⟩)
    · exact ⟨true, rfl, h1, h2, h3⟩
    · exact ⟨false, rfl, h1⟩
  · rintro e W' ⟨h1, h2 | ⟨pre, -, h2⟩⟩
    · exact ⟨h1, .inl ⟨es, rfl, h2⟩⟩
    · exact ⟨h1, .inr ⟨pre, trivial, h2⟩⟩
end Go.Proofs.YtmhcjhbmeohjdaaGreat

