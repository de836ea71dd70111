/-
  The iterator over a map in order (state.Key), gone through.
-/
import Derived.Test.YtncliolkdkofhaaItnK
namespace Go.Proofs.Ytncliolkdkofhaa
open Go.RowKit Go.Maps Go.Sort
attribute [local go_sem] Oper.semAt_some

def fitK (y : Nat × Nat) : Prop :=
  y.1 < 4294967296 ∧ y.2 < 65536
/-- an entry of f -/
structure ElK (f : Ky → Option (Nat × Nat)) where
  key : Ky
  val : Nat × Nat
  ok : key.ok
  fit : fitK val
  has : f key = some val
def EsK (f : Ky → Option (Nat × Nat)) (xs : List Ky) (es : List (ElK f)) : Prop := es.map (·.key) = xs
theorem esK_ex {f : Ky → Option (Nat × Nat)} (hf : ∀ x y, f x = some y → fitK y) : ∀ xs : List Ky, (∀ x ∈ xs, x.ok ∧ (f x).isSome = true) → ∃ es, EsK f xs es
  | [], _ => ⟨[], rfl⟩
  | x :: r, h => by
    obtain ⟨es, h1⟩ := esK_ex hf r fun y hy => h y (by simp [hy])
    obtain ⟨h3, h4⟩ := h x (by simp)
    obtain ⟨y, hy⟩ := Option.isSome_iff_exists.1 h4
    exact ⟨⟨x, y, h3, hf x y hy, hy⟩ :: es, by show x :: es.map (·.key) = _; rw [h1]⟩
/-- what a caller's function is handed -/
def arK {f : Ky → Option (Nat × Nat)} (x : ElK f) : Array Value := #[.agg (clK x.key).toArray, dV x.val]
/-- what it comes to: it goes on, or it does not -/
def goK {f : Ky → Option (Nat × Nat)} (L : List Nat) (J Jx : List (ElK f) → World → Prop) (pre : List (ElK f)) (x : ElK f) (W1 : World) (e : Ending) (W' : World) : Prop :=
  ∃ b : Bool, e = .returned (.bool b) ∧ (if b then J (pre ++ [x]) W' ∧ Keep L W1 W' ∧ W1.heap.size ≤ W'.heap.size else Jx (pre ++ [x]) W')

theorem zeroK (w : World) : (zeroValue 35).run Try.prog w = .ok (.agg #[.int .u32 0, .int .u16 0]) w := by kernel_rfl

set_option maxRecDepth 100000 in
set_option maxHeartbeats 2000000 in
theorem inOrd1K {W : World} {B1 B2 n : Nat} {v : Value} {o : Option Nat} {f : Ky → Option (Nat × Nat)} {xs : List Ky} {es : List (ElK f)} (h : ItK W B1 B2 v o n f xs) (hE : EsK f xs es) (fv : Fv) (J Jx : List (ElK f) → World → Prop) (hJ : AbidesFrom W.heap.size J)
    (hY : ∀ pre x rest W1, es = pre ++ x :: rest → J pre W1 → fv.At Try.prog (arK x) W1 (goK (itL B1 B2 v o) J Jx pre x W1)) (h0 : J [] W) (m : Nat) :
    CallsIn Fence.wide m Try.prog 48 #[fv.val, .pointer (some ⟨B1, 0, none⟩), .pointer (some ⟨B2, 0, none⟩)] W fun e W' => (∃ v, e = .returned v) ∧ (J es W' ∨ ∃ pre, pre <+: es ∧ Jx pre W') := by
  have c1 := h.b1.at_ 0
  have hlen : es.length = xs.length := by rw [← show es.map (·.key) = xs from hE]; simp
  have hl5 := h.len
  rcases h.row with ⟨rfl, rfl⟩ | ⟨g, cap, rfl, hr1, hr2, hr3⟩
  · have he : es = [] := List.eq_nil_of_length_eq_zero hlen
    subst he
    clear h hY hE
    cases fv with
    | fn gg lb =>
      refine callsIn_of_wp Try.func48 rfl trivial ?_ rfl
      simp only [Fv.val, Try.ntmps48, List.size_toArray, List.length_cons, List.length_nil, Nat.reduceAdd, Nat.reduceSub, Array.replicate_succ, Array.replicate_zero, List.push_toArray, List.append_toArray, List.nil_append, List.cons_append]
      gi_wp2
      refine wpIn_loop_rounds 1 ?_
      rw [roundsIn_succ]
      gi_wp2
      go_end0
      exact ⟨⟨_, rfl⟩, .inl h0⟩
    | loop l =>
      refine callsIn_of_wp Try.func48 rfl trivial ?_ rfl
      simp only [Fv.val, Try.ntmps48, List.size_toArray, List.length_cons, List.length_nil, Nat.reduceAdd, Nat.reduceSub, Array.replicate_succ, Array.replicate_zero, List.push_toArray, List.append_toArray, List.nil_append, List.cons_append]
      gi_wp2
      refine wpIn_loop_rounds 1 ?_
      rw [roundsIn_succ]
      gi_wp2
      go_end0
      exact ⟨⟨_, rfl⟩, .inl h0⟩
  · cases fv with
    | fn gg lb =>
      refine callsIn_of_wp Try.func48 rfl trivial ?_ rfl
      simp only [Fv.val, Try.ntmps48, List.size_toArray, List.length_cons, List.length_nil, Nat.reduceAdd, Nat.reduceSub, Array.replicate_succ, Array.replicate_zero, List.push_toArray, List.append_toArray, List.nil_append, List.cons_append]
      gi_wp2
      gi_loopw [8] (fun i wr => ∃ k : Nat, k ≤ xs.length ∧ i = .int .i64 k ∧ J (es.take k) wr ∧ Keep (itL B1 B2 (.slice (some ⟨g, 0, none⟩) xs.length cap) o) W wr ∧ W.heap.size ≤ wr.heap.size) (fun i _ => xs.length - (intOf i).toNat)
      case atStart => exact ⟨0, by omega, rfl, h0, Keep.refl _ _, Nat.le_refl _⟩
      case round =>
        obtain ⟨k, hk, rfl, hJs, hKp, hsz⟩ := hrel
        have hmx : xs.length ≤ 9223372036854775807 := by omega
        by_cases hlt : k < xs.length
        · have hke : k < es.length := by omega
          have hIr := h.keep hKp hsz
          have hcut : es = es.take k ++ es[k] :: es.drop (k + 1) := by rw [List.getElem_cons_drop, List.take_append_drop]
          have hxk : xs[k] = es[k].key := by simp [← show es.map (·.key) = xs from hE]
          have hnext : es.take (k + 1) = es.take k ++ [es[k]] := List.take_succ_eq_append_getElem hke
          have hpre : es.take k ++ [es[k]] <+: es := by rw [← hnext]; exact List.take_prefix _ _
          have hrow : ∀ j, j < 3 → wr.cell? ⟨g, k * 3 + j, none⟩ = (clK xs[k])[j]? := fun j hj => (World.cell?_of_block (hKp g (mem_itL.2 (.inr (.inr (.inl rfl)))))).trans (hr3 k hlt j hj)
          rw [hxk] at hrow
          generalize es[k] = x at *
          obtain ⟨⟨xa, xn, xi⟩, y, hok, hfit, hval⟩ := x
          have r0 := hrow 0 (by omega)
          have r1 := hrow 1 (by omega)
          have r2 := hrow 2 (by omega)
          replace r0 : wr.cell? ⟨g, k * 3, none⟩ = some (.int .u32 xa) := r0
          replace r1 : wr.cell? ⟨g, k * 3 + 1, none⟩ = some (.int .i64 xn) := r1
          replace r2 : wr.cell? ⟨g, k * 3 + 2, none⟩ = some (.int .u32 xi) := r2
          obtain ⟨rr, rfl⟩ : ∃ rr, o = some rr := by
            cases o with
            | none => have hn : (f ⟨xa, xn, xi⟩).map dV = none := h.map.2 ⟨xa, xn, xi⟩; rw [hval] at hn; cases hn
            | some rr => exact ⟨rr, rfl⟩
          have hb2 := hIr.b2.at_ 0
          have hmap : Mk kyE wr rr n (fun x => (f x).map dV) := hIr.map
          have hlt1 := hIr.b1.lt
          have hlt2 := hIr.b2.lt
          have LK := (hmap.held (below_new wr (.cells #[.int .u32 xa, .int .i64 xn, .int .u32 xi] 45))).look (t := 49) (e := 35) (by kernel_rfl) (zeroK _) (i := ⟨xa, xn, xi⟩) hok
          rw [show ((fun x => (f x).map dV) ⟨xa, xn, xi⟩).getD (.agg #[.int .u32 0, .int .u16 0]) = dV y from by show ((f ⟨xa, xn, xi⟩).map dV).getD _ = _; rw [hval]; rfl] at LK
          have LK2 : (Instr.lookup 49 (.map (some rr)) (.agg #[.int .u32 xa, .int .i64 xn, .int .u32 xi]) false).run Try.prog (wr.alloc (.cells #[.int .u32 xa, .int .i64 xn, .int .u32 xi] 45)).drew = .ok (dV y) (wr.alloc (.cells #[.int .u32 xa, .int .i64 xn, .int .u32 xi] 45)).drew := by
            have := (Mk.of_block (w' := (wr.alloc (.cells #[.int .u32 xa, .int .i64 xn, .int .u32 xi] 45)).drew) (hmap.held (below_new wr (.cells #[.int .u32 xa, .int .i64 xn, .int .u32 xi] 45))) rfl).look (t := 49) (e := 35) (by kernel_rfl) (zeroK _) (i := ⟨xa, xn, xi⟩) hok
            rw [show ((fun x => (f x).map dV) ⟨xa, xn, xi⟩).getD (.agg #[.int .u32 0, .int .u16 0]) = dV y from by show ((f ⟨xa, xn, xi⟩).map dV).getD _ = _; rw [hval]; rfl] at this
            exact this
          clear LK
          have hJ2 : J (es.take k) (wr.alloc (.cells #[.int .u32 xa, .int .i64 xn, .int .u32 xi] 45)).drew := hJ _ _ _ none (hJ _ _ _ none hJs (World.grownBy_alloc wr _ none) (fun r e => by cases e)) ⟨rfl, rfl, rfl, Nat.le_refl _, fun _ _ _ => rfl⟩ (fun r e => by cases e)
          have hYk := hY _ _ _ _ hcut hJ2
          have hbelow := (below_new wr (.cells #[.int .u32 xa, .int .i64 xn, .int .u32 xi] 45)).drew
          have kk0 := (Blk.new wr 45 #[.int .u32 xa, .int .i64 xn, .int .u32 xi]).drew.at_ 0
          have kk1 := (Blk.new wr 45 #[.int .u32 xa, .int .i64 xn, .int .u32 xi]).drew.at_ 1
          have kk2 := (Blk.new wr 45 #[.int .u32 xa, .int .i64 xn, .int .u32 xi]).drew.at_ 2
          have b22 : (wr.alloc (.cells #[.int .u32 xa, .int .i64 xn, .int .u32 xi] 45)).drew.cell? ⟨B2, 0, none⟩ = some (.map (some rr)) := held hbelow hb2
          have REST := Lib.hid (And.intro hKp (And.intro hsz (And.intro hIr (And.intro hbelow (And.intro hnext hpre)))))
          clear hKp hsz hIr hbelow hnext hpre hmap hrow hcut hxk hJ2 hJs hY hJ hE
          have eg := hYk.1
          gi_wp2
          gi_region_with (refine ⟨trivial, fun h => (by cases h), (callsIn_any hYk.2).mono ?_⟩; rintro e W3 ⟨b, rfl, hb⟩)
          all_goals
            cases b with
            | true =>
              simp only [if_true] at hb
              gi_wp2
              go_roundw
              case rel =>
                obtain ⟨hb1, hb2', hb3⟩ := hb
                obtain ⟨g1, g2, g3, g4, g5, g6⟩ := REST.out
                refine ⟨k + 1, by omega, by go_num, by rw [g5]; exact hb1, (g1.trans (.of_below g3.lt g4)).trans hb2', ?_⟩
                have := g4.size
                omega
              case measure => simp [intOf]; omega
            | false =>
              gi_wp2
              refine bodyPost_ret (results_none rfl _ _ _) rfl ?_
              exact ⟨⟨_, rfl⟩, .inr ⟨_, REST.out.2.2.2.2.2, hb⟩⟩
        · obtain rfl : k = xs.length := by omega
          have hall : es.take xs.length = es := List.take_of_length_le (by omega)
          rw [hall] at hJs
          clear hY hE
          gi_wp2
          go_end0
          exact ⟨⟨_, rfl⟩, .inl hJs⟩
    | loop l =>
      refine callsIn_of_wp Try.func48 rfl trivial ?_ rfl
      simp only [Fv.val, Try.ntmps48, List.size_toArray, List.length_cons, List.length_nil, Nat.reduceAdd, Nat.reduceSub, Array.replicate_succ, Array.replicate_zero, List.push_toArray, List.append_toArray, List.nil_append, List.cons_append]
      gi_wp2
      gi_loopw [8] (fun i wr => ∃ k : Nat, k ≤ xs.length ∧ i = .int .i64 k ∧ J (es.take k) wr ∧ Keep (itL B1 B2 (.slice (some ⟨g, 0, none⟩) xs.length cap) o) W wr ∧ W.heap.size ≤ wr.heap.size) (fun i _ => xs.length - (intOf i).toNat)
      case atStart => exact ⟨0, by omega, rfl, h0, Keep.refl _ _, Nat.le_refl _⟩
      case round =>
        obtain ⟨k, hk, rfl, hJs, hKp, hsz⟩ := hrel
        have hmx : xs.length ≤ 9223372036854775807 := by omega
        by_cases hlt : k < xs.length
        · have hke : k < es.length := by omega
          have hIr := h.keep hKp hsz
          have hcut : es = es.take k ++ es[k] :: es.drop (k + 1) := by rw [List.getElem_cons_drop, List.take_append_drop]
          have hxk : xs[k] = es[k].key := by simp [← show es.map (·.key) = xs from hE]
          have hnext : es.take (k + 1) = es.take k ++ [es[k]] := List.take_succ_eq_append_getElem hke
          have hpre : es.take k ++ [es[k]] <+: es := by rw [← hnext]; exact List.take_prefix _ _
          have hrow : ∀ j, j < 3 → wr.cell? ⟨g, k * 3 + j, none⟩ = (clK xs[k])[j]? := fun j hj => (World.cell?_of_block (hKp g (mem_itL.2 (.inr (.inr (.inl rfl)))))).trans (hr3 k hlt j hj)
          rw [hxk] at hrow
          generalize es[k] = x at *
          obtain ⟨⟨xa, xn, xi⟩, y, hok, hfit, hval⟩ := x
          have r0 := hrow 0 (by omega)
          have r1 := hrow 1 (by omega)
          have r2 := hrow 2 (by omega)
          replace r0 : wr.cell? ⟨g, k * 3, none⟩ = some (.int .u32 xa) := r0
          replace r1 : wr.cell? ⟨g, k * 3 + 1, none⟩ = some (.int .i64 xn) := r1
          replace r2 : wr.cell? ⟨g, k * 3 + 2, none⟩ = some (.int .u32 xi) := r2
          obtain ⟨rr, rfl⟩ : ∃ rr, o = some rr := by
            cases o with
            | none => have hn : (f ⟨xa, xn, xi⟩).map dV = none := h.map.2 ⟨xa, xn, xi⟩; rw [hval] at hn; cases hn
            | some rr => exact ⟨rr, rfl⟩
          have hb2 := hIr.b2.at_ 0
          have hmap : Mk kyE wr rr n (fun x => (f x).map dV) := hIr.map
          have hlt1 := hIr.b1.lt
          have hlt2 := hIr.b2.lt
          have LK := (hmap.held (below_new wr (.cells #[.int .u32 xa, .int .i64 xn, .int .u32 xi] 45))).look (t := 49) (e := 35) (by kernel_rfl) (zeroK _) (i := ⟨xa, xn, xi⟩) hok
          rw [show ((fun x => (f x).map dV) ⟨xa, xn, xi⟩).getD (.agg #[.int .u32 0, .int .u16 0]) = dV y from by show ((f ⟨xa, xn, xi⟩).map dV).getD _ = _; rw [hval]; rfl] at LK
          have LK2 : (Instr.lookup 49 (.map (some rr)) (.agg #[.int .u32 xa, .int .i64 xn, .int .u32 xi]) false).run Try.prog (wr.alloc (.cells #[.int .u32 xa, .int .i64 xn, .int .u32 xi] 45)).drew = .ok (dV y) (wr.alloc (.cells #[.int .u32 xa, .int .i64 xn, .int .u32 xi] 45)).drew := by
            have := (Mk.of_block (w' := (wr.alloc (.cells #[.int .u32 xa, .int .i64 xn, .int .u32 xi] 45)).drew) (hmap.held (below_new wr (.cells #[.int .u32 xa, .int .i64 xn, .int .u32 xi] 45))) rfl).look (t := 49) (e := 35) (by kernel_rfl) (zeroK _) (i := ⟨xa, xn, xi⟩) hok
            rw [show ((fun x => (f x).map dV) ⟨xa, xn, xi⟩).getD (.agg #[.int .u32 0, .int .u16 0]) = dV y from by show ((f ⟨xa, xn, xi⟩).map dV).getD _ = _; rw [hval]; rfl] at this
            exact this
          clear LK
          have hJ2 : J (es.take k) (wr.alloc (.cells #[.int .u32 xa, .int .i64 xn, .int .u32 xi] 45)).drew := hJ _ _ _ none (hJ _ _ _ none hJs (World.grownBy_alloc wr _ none) (fun r e => by cases e)) ⟨rfl, rfl, rfl, Nat.le_refl _, fun _ _ _ => rfl⟩ (fun r e => by cases e)
          have hYk := hY _ _ _ _ hcut hJ2
          have hbelow := (below_new wr (.cells #[.int .u32 xa, .int .i64 xn, .int .u32 xi] 45)).drew
          have kk0 := (Blk.new wr 45 #[.int .u32 xa, .int .i64 xn, .int .u32 xi]).drew.at_ 0
          have kk1 := (Blk.new wr 45 #[.int .u32 xa, .int .i64 xn, .int .u32 xi]).drew.at_ 1
          have kk2 := (Blk.new wr 45 #[.int .u32 xa, .int .i64 xn, .int .u32 xi]).drew.at_ 2
          have b22 : (wr.alloc (.cells #[.int .u32 xa, .int .i64 xn, .int .u32 xi] 45)).drew.cell? ⟨B2, 0, none⟩ = some (.map (some rr)) := held hbelow hb2
          have REST := Lib.hid (And.intro hKp (And.intro hsz (And.intro hIr (And.intro hbelow (And.intro hnext hpre)))))
          clear hKp hsz hIr hbelow hnext hpre hmap hrow hcut hxk hJ2 hJs hY hJ hE
          obtain ⟨fn, tmps, assign, body, hy, hR⟩ := hYk
          simp only [arK, clK] at hy
          gi_wp2
          gi_region_with (refine ⟨fun h => (by cases h), (roundIn_any hR).mono ?_⟩; rintro e W3 ⟨b, rfl, hb⟩)
          all_goals
            cases b with
            | true =>
              simp only [if_true] at hb
              gi_wp2
              go_roundw
              case rel =>
                obtain ⟨hb1, hb2', hb3⟩ := hb
                obtain ⟨g1, g2, g3, g4, g5, g6⟩ := REST.out
                refine ⟨k + 1, by omega, by go_num, by rw [g5]; exact hb1, (g1.trans (.of_below g3.lt g4)).trans hb2', ?_⟩
                have := g4.size
                omega
              case measure => simp [intOf]; omega
            | false =>
              gi_wp2
              refine bodyPost_ret (results_none rfl _ _ _) rfl ?_
              exact ⟨⟨_, rfl⟩, .inr ⟨_, REST.out.2.2.2.2.2, hb⟩⟩
        · obtain rfl : k = xs.length := by omega
          have hall : es.take xs.length = es := List.take_of_length_le (by omega)
          rw [hall] at hJs
          clear hY hE
          gi_wp2
          go_end0
          exact ⟨⟨_, rfl⟩, .inl hJs⟩

/-- .. for a loop -/
theorem inOrdK_stops {w : World} {B1 B2 n : Nat} {v : Value} {o : Option Nat} {f : Ky → Option (Nat × Nat)} {xs : List Ky} {es : List (ElK f)} (h : ItK w B1 B2 v o n f xs) (hE : EsK f xs es) (m : Nat) :
    SeqStopsK Fence.wide m Try.prog 48 #[.pointer (some ⟨B1, 0, none⟩), .pointer (some ⟨B2, 0, none⟩)] arK (KeepS (itL B1 B2 v o)) (fun ys => ys = es) (fun _ => True) es.length w := fun l J Jx W hW hJ _ hY h0 => by
  refine (inOrd1K (h.held hW) hE (.loop l) J Jx hJ (fun pre x rest W1 hc hj => ?_) h0 m).mono ?_
  · refine Fv.At.mono (R := _) (yieldAt_any (hY pre x W1 hj (by rw [hc]; simp))) ?_
    rintro e W' (⟨rfl, h1, h2, h3⟩ | ⟨rfl, h1⟩)
    · exact ⟨true, rfl, h1, h2, h3⟩
    · exact ⟨false, rfl, h1⟩
  · rintro e W' ⟨h1, h2 | ⟨pre, -, h2⟩⟩
    · exact ⟨h1, .inl ⟨es, rfl, h2⟩⟩
    · exact ⟨h1, .inr ⟨pre, trivial, h2⟩⟩
end Go.Proofs.Ytncliolkdkofhaa
