/-
  Package state: Apply, as a function.
-/
import Derived.Test.YtncliolkdkofhaaStA
import Derived.Test.YtncliolkdkofhaaRecM
namespace Go.Proofs.Ytncliolkdkofhaa
open Go.RowKit Rm

/-- what is noted -/
structure Sm where
  lease : Nat
  own : Pk → Option Bool
  floor : Ky → Option (Nat × Nat)
def sm0 : Sm := ⟨0, fun _ => none, fun _ => none⟩
/-- what a record makes of it -/
def app (S : Sm) (r : Rc) : Sm :=
  if r.kind = 2 then ⟨S.lease, fun p => if p = ⟨r.a, r.len⟩ then some r.on else S.own p, S.floor⟩
  else if r.kind = 3 then ⟨max S.lease r.seq, S.own, S.floor⟩
  else if r.kind = 4 then (if bet (S.floor ⟨r.a, r.len, r.id⟩) r.seq r.met then ⟨S.lease, S.own, fun k => if k = ⟨r.a, r.len, r.id⟩ then some (r.seq, r.met) else S.floor k⟩ else S)
  else S
theorem upd_own (own : Pk → Option Bool) (p : Pk) (b : Bool) : upd (fun x => (own x).map ownV) p (.agg #[.bool b]) = fun x => ((fun z => if z = p then some b else own z) x).map ownV := by
  funext x
  unfold upd
  by_cases h : x = p
  · simp [h, ownV]
  · simp [h]
theorem upd_floor (fl : Ky → Option (Nat × Nat)) (k : Ky) (s x : Nat) : upd (fun x => (fl x).map dV) k (.agg #[.int .u32 s, .int .u16 x]) = fun z => ((fun z => if z = k then some (s, x) else fl z) z).map dV := by
  funext z
  unfold upd
  by_cases h : z = k
  · simp [h, dV]
  · simp [h]

/-- the state in block d notes S -/
def Notes (w : World) (d : Nat) (o fl : Option Nat) (id N : Nat) (S : Sm) : Prop := ∃ n m, n + m ≤ N ∧ St w d o fl id S.lease n m S.own S.floor

theorem St.setOwn {w W y : World} {d : Nat} {o fl : Option Nat} {id lease n m N b n' : Nat} {own : Pk → Option Bool} {floor : Ky → Option (Nat × Nat)} (hS : St W d o fl id lease n m own floor) (hb : Below w.heap.size w W) (hnm : n + m ≤ N) (hN : N < 100000) (p : Pk) (v : Bool)
    (hB : Blk 58 y d (#[.int .u32 id, .int .u32 lease, .map o, .map fl].setIfInBounds 2 (.map (some b)))) (hM : Mk pkE y b n' (upd (fun x => (own x).map ownV) p (.agg #[.bool v]))) (hn : n' ≤ n + 1) (t : Turn (d :: o.toList) W y) (ho : o = some b ∨ W.heap.size ≤ b) :
    ∃ o' fl', Notes y d o' fl' id (N + 1) ⟨lease, fun z => if z = p then some v else own z, floor⟩ ∧ Turn (fp d o fl) w y ∧ ∀ z, z ∈ fp d o' fl' → z ∈ fp d o fl ∨ w.heap.size ≤ z := by
  have hsz := hb.size
  refine ⟨some b, fl, ⟨n', m, by omega, hB, ?_, ?_, ?_, hS.small, hS.lease_lt, by omega⟩, (Turn.of_below _ hb).trans (t.mono fun i hi => ?_), fun z hz => ?_⟩
  · rw [upd_own] at hM
    exact hM
  · refine hS.floors.of_block fun b' hb' => t.block b' (hS.floors.lt hb') fun hi => ?_
    rcases List.mem_cons.1 hi with rfl | hi
    · exact hS.head_ne (.inr hb') rfl
    · exact hS.apart b' b' (by simpa using hi) hb' rfl
  · intro x z hx hz
    cases hx
    rcases ho with ho | ho
    · exact hS.apart _ _ ho hz
    · have := hS.floors.lt hz
      omega
  · rcases List.mem_cons.1 hi with rfl | hi
    · exact mem_fp.2 (.inl rfl)
    · exact mem_fp.2 (.inr (.inl (by simpa using hi)))
  · rcases mem_fp.1 hz with rfl | h1 | h1
    · exact .inl (mem_fp.2 (.inl rfl))
    · cases h1
      rcases ho with ho | ho
      · exact .inl (mem_fp.2 (.inr (.inl ho)))
      · exact .inr (by omega)
    · exact .inl (mem_fp.2 (.inr (.inr h1)))
theorem St.setFloor {w W y : World} {d : Nat} {o fl : Option Nat} {id lease n m N b n' : Nat} {own : Pk → Option Bool} {floor : Ky → Option (Nat × Nat)} (hS : St W d o fl id lease n m own floor) (hb : Below w.heap.size w W) (hnm : n + m ≤ N) (hN : N < 100000) (k : Ky) (s x : Nat) (hs : s < 4294967296) (hx : x < 65536)
    (hB : Blk 58 y d (#[.int .u32 id, .int .u32 lease, .map o, .map fl].setIfInBounds 3 (.map (some b)))) (hM : Mk kyE y b n' (upd (fun x => (floor x).map dV) k (.agg #[.int .u32 s, .int .u16 x]))) (hn : n' ≤ m + 1) (t : Turn (d :: fl.toList) W y) (ho : fl = some b ∨ W.heap.size ≤ b) :
    ∃ o' fl', Notes y d o' fl' id (N + 1) ⟨lease, own, fun z => if z = k then some (s, x) else floor z⟩ ∧ Turn (fp d o fl) w y ∧ ∀ z, z ∈ fp d o' fl' → z ∈ fp d o fl ∨ w.heap.size ≤ z := by
  have hsz := hb.size
  refine ⟨o, some b, ⟨n, n', by omega, hB, ?_, ?_, ?_, ?_, hS.lease_lt, by omega⟩, (Turn.of_below _ hb).trans (t.mono fun i hi => ?_), fun z hz => ?_⟩
  · refine hS.owns.of_block fun b' hb' => t.block b' (hS.owns.lt hb') fun hi => ?_
    rcases List.mem_cons.1 hi with rfl | hi
    · exact hS.head_ne (.inl hb') rfl
    · exact hS.apart b' b' hb' (by simpa using hi) rfl
  · rw [upd_floor] at hM
    exact hM
  · intro x z hx hz
    cases hz
    rcases ho with ho | ho
    · exact hS.apart _ _ hx ho
    · have := hS.owns.lt hx
      omega
  · intro z f hf
    have hf : (if z = k then some (s, x) else floor z) = some f := hf
    by_cases h : z = k
    · rw [if_pos h] at hf
      cases hf
      exact ⟨hs, hx⟩
    · rw [if_neg h] at hf
      exact hS.small z f hf
  · rcases List.mem_cons.1 hi with rfl | hi
    · exact mem_fp.2 (.inl rfl)
    · exact mem_fp.2 (.inr (.inr (by simpa using hi)))
  · rcases mem_fp.1 hz with rfl | h1 | h1
    · exact .inl (mem_fp.2 (.inl rfl))
    · exact .inl (mem_fp.2 (.inr (.inl h1)))
    · cases h1
      rcases ho with ho | ho
      · exact .inl (mem_fp.2 (.inr (.inr ho)))
      · exact .inr (by omega)

theorem St.setLease {w W : World} {d : Nat} {o fl : Option Nat} {id lease n m N q : Nat} {z : Int} {own : Pk → Option Bool} {floor : Ky → Option (Nat × Nat)} (hS : St W d o fl id lease n m own floor) (hb : Below w.heap.size w W) (hnm : n + m ≤ N) (hq : q < 4294967296) (hz : z = q) :
    ∃ o' fl', Notes (W.setCell ⟨d, 1, none⟩ (.int .u32 z)) d o' fl' id N ⟨q, own, floor⟩ ∧ Turn (fp d o fl) w (W.setCell ⟨d, 1, none⟩ (.int .u32 z)) ∧ ∀ y, y ∈ fp d o' fl' → y ∈ fp d o fl ∨ w.heap.size ≤ y := by
  subst hz
  refine ⟨o, fl, ⟨n, m, hnm, hS.head.store 1 _, hS.owns.of_block fun b hb' => ?_, hS.floors.of_block fun b hb' => ?_, hS.apart, hS.small, hq, hS.counts⟩, (Turn.of_below _ hb).trans (Turn.setCell _ (p := ⟨d, 1, none⟩) (mem_fp.2 (.inl rfl)) _), fun y hy => .inl hy⟩
  · exact Below.heap_setCell _ _ _ _ (Ne.symm (hS.head_ne (.inl hb')))
  · exact Below.heap_setCell _ _ _ _ (Ne.symm (hS.head_ne (.inr hb')))

set_option maxHeartbeats 1000000 in
theorem apply_own {w : World} {d : Nat} {o fl : Option Nat} {id N : Nat} {S : Sm} (h : Notes w d o fl id N S) (hN : N < 100000) (g l i a : Nat) (n : Int) (b : Bool) (s x : Nat) (hk : Pk.ok ⟨a, n⟩) :
    Calls Try.prog 9 #[.pointer (some ⟨d, 0, none⟩), .agg #[.int .i64 2, .int .u32 g, .int .u32 l, .int .u32 i, .int .u32 a, .int .i64 n, .bool b, .int .u32 s, .int .u16 x]] w fun e w' => e = .returned (.tuple #[]) ∧
      ∃ o' fl', Notes w' d o' fl' id (N + 1) (app S ⟨2, g, l, i, a, n, b, s, x⟩) ∧ Turn (fp d o fl) w w' ∧ ∀ y, y ∈ fp d o' fl' → y ∈ fp d o fl ∨ w.heap.size ≤ y := by
  obtain ⟨nn, m, hnm, hS⟩ := h
  go_enter Try.func9, Try.ntmps9
  go_wp2_with fail
  have RB := Blk.new w 37 #[.int .i64 2, .int .u32 g, .int .u32 l, .int .u32 i, .int .u32 a, .int .i64 n, .bool b, .int .u32 s, .int .u16 x]
  have hb := below_new w (.cells #[.int .i64 2, .int .u32 g, .int .u32 l, .int .u32 i, .int .u32 a, .int .i64 n, .bool b, .int .u32 s, .int .u16 x] 37)
  have hz := size_new w (.cells #[.int .i64 2, .int .u32 g, .int .u32 l, .int .u32 i, .int .u32 a, .int .i64 n, .bool b, .int .u32 s, .int .u16 x] 37)
  generalize w.alloc (.cells #[.int .i64 2, .int .u32 g, .int .u32 l, .int .u32 i, .int .u32 a, .int .i64 n, .bool b, .int .u32 s, .int .u16 x] 37) = W at *
  have hSW := (hS.held hb).drew
  have c4 := RB.at_ 4
  have c5 := RB.at_ 5
  have c6 := RB.at_ 6
  have hC : Calls Try.prog 19 #[.pointer (some ⟨d, 2, none⟩), .agg #[.int .u32 a, .int .i64 n], .agg #[.bool b]] W.drew _ := set_own hSW.head (j := 2) rfl hSW.owns (fun y hy => hSW.head_ne (.inl hy)) (by have := hSW.counts; unfold maxLen; omega) ⟨a, n⟩ hk b
  have E : app S ⟨2, g, l, i, a, n, b, s, x⟩ = ⟨S.lease, fun p => if p = ⟨a, n⟩ then some b else S.own p, S.floor⟩ := rfl
  have ST := Lib.hid (And.intro hSW (And.intro hb.drew E))
  clear hS hSW hb RB E
  go_region_with (go_at_call 19; refine hC.mono ?_; rintro e y ⟨rfl, hp⟩; have Y := Lib.hid hp; clear hp)
  all_goals
    go_wp2_with fail
    obtain ⟨b', n', h1, h2, h3, h4, h5⟩ := Y.out
    refine bodyPost_end (v := .tuple #[]) (results_none rfl _ _ _) rfl ⟨rfl, ?_⟩
    rw [ST.out.2.2]
    exact St.setOwn ST.out.1 ST.out.2.1 hnm hN _ _ h1 h2 h3 h4 h5

set_option maxHeartbeats 1000000 in
theorem apply_lease {w : World} {d : Nat} {o fl : Option Nat} {id N : Nat} {S : Sm} (h : Notes w d o fl id N S) (g l i a : Nat) (n : Int) (b : Bool) (s x : Nat) (hs : s < 4294967296) :
    Calls Try.prog 9 #[.pointer (some ⟨d, 0, none⟩), .agg #[.int .i64 3, .int .u32 g, .int .u32 l, .int .u32 i, .int .u32 a, .int .i64 n, .bool b, .int .u32 s, .int .u16 x]] w fun e w' => e = .returned (.tuple #[]) ∧
      ∃ o' fl', Notes w' d o' fl' id N (app S ⟨3, g, l, i, a, n, b, s, x⟩) ∧ Turn (fp d o fl) w w' ∧ ∀ y, y ∈ fp d o' fl' → y ∈ fp d o fl ∨ w.heap.size ≤ y := by
  obtain ⟨nn, m, hnm, hS⟩ := h
  go_enter Try.func9, Try.ntmps9
  go_wp2_with fail
  have RB := Blk.new w 37 #[.int .i64 3, .int .u32 g, .int .u32 l, .int .u32 i, .int .u32 a, .int .i64 n, .bool b, .int .u32 s, .int .u16 x]
  have hb := below_new w (.cells #[.int .i64 3, .int .u32 g, .int .u32 l, .int .u32 i, .int .u32 a, .int .i64 n, .bool b, .int .u32 s, .int .u16 x] 37)
  have hz := size_new w (.cells #[.int .i64 3, .int .u32 g, .int .u32 l, .int .u32 i, .int .u32 a, .int .i64 n, .bool b, .int .u32 s, .int .u16 x] 37)
  generalize w.alloc (.cells #[.int .i64 3, .int .u32 g, .int .u32 l, .int .u32 i, .int .u32 a, .int .i64 n, .bool b, .int .u32 s, .int .u16 x] 37) = W at *
  have hSW := (hS.held hb).drew
  have c7 := RB.at_ 7
  have l1 : W.cell? ⟨d, 1, none⟩ = some (.int .u32 S.lease) := hSW.head.at_ 1
  have f1 : W.frozen? ⟨d, 1, none⟩ = false := hSW.head.free 1
  have E : app S ⟨3, g, l, i, a, n, b, s, x⟩ = ⟨max S.lease s, S.own, S.floor⟩ := rfl
  have ST := Lib.hid (And.intro hSW (And.intro hb.drew E))
  clear hS hSW hb RB E
  go_region
  all_goals
    go_wp2_with fail
  all_goals
    refine bodyPost_end (v := .tuple #[]) (results_none rfl _ _ _) rfl ⟨rfl, ?_⟩
    rw [ST.out.2.2]
    exact St.setLease (W := W.drew) ST.out.1 ST.out.2.1 hnm (by have := ST.out.1.lease_lt; omega) (by rw [Nat.max_def]; split <;> omega)

/-- what the other kinds turn: nothing -/
theorem notes_same {w W : World} {d : Nat} {o fl : Option Nat} {id n m N : Nat} {S : Sm} (hS : St W d o fl id S.lease n m S.own S.floor) (hb : Below w.heap.size w W) (hnm : n + m ≤ N) :
    ∃ o' fl', Notes W d o' fl' id N S ∧ Turn (fp d o fl) w W ∧ ∀ y, y ∈ fp d o' fl' → y ∈ fp d o fl ∨ w.heap.size ≤ y :=
  ⟨o, fl, ⟨n, m, hnm, hS⟩, .of_below _ hb, fun _ h => .inl h⟩

set_option maxHeartbeats 1000000 in
theorem apply_other {w : World} {d : Nat} {o fl : Option Nat} {id N : Nat} {S : Sm} (h : Notes w d o fl id N S) (k : Int) (h2 : k ≠ 2) (h3 : k ≠ 3) (h4 : k ≠ 4) (g l i a : Nat) (n : Int) (b : Bool) (s x : Nat) :
    Calls Try.prog 9 #[.pointer (some ⟨d, 0, none⟩), .agg #[.int .i64 k, .int .u32 g, .int .u32 l, .int .u32 i, .int .u32 a, .int .i64 n, .bool b, .int .u32 s, .int .u16 x]] w fun e w' => e = .returned (.tuple #[]) ∧
      ∃ o' fl', Notes w' d o' fl' id N (app S ⟨k, g, l, i, a, n, b, s, x⟩) ∧ Turn (fp d o fl) w w' ∧ ∀ y, y ∈ fp d o' fl' → y ∈ fp d o fl ∨ w.heap.size ≤ y := by
  obtain ⟨nn, m, hnm, hS⟩ := h
  have E := Lib.hid (show app S ⟨k, g, l, i, a, n, b, s, x⟩ = S by unfold app; simp [h2, h3, h4])
  have d2 : (k == 2) = false := beq_eq_false_iff_ne.2 h2
  have d3 : (k == 3) = false := beq_eq_false_iff_ne.2 h3
  have d4 : (k == 4) = false := beq_eq_false_iff_ne.2 h4
  clear h2 h3 h4
  go_enter Try.func9, Try.ntmps9
  go_wp2_with fail
  refine bodyPost_end (v := .tuple #[]) (results_none rfl _ _ _) rfl ⟨rfl, ?_⟩
  rw [E.out]
  exact notes_same (hS.held (below_new _ _)) (below_new _ _) hnm

set_option maxHeartbeats 1000000 in
theorem apply_floor {w : World} {d : Nat} {o fl : Option Nat} {id N : Nat} {S : Sm} (h : Notes w d o fl id N S) (hN : N < 100000) (g l i a : Nat) (n : Int) (b : Bool) (s x : Nat) (hs : s < 4294967296) (hx : x < 65536) (hk : Ky.ok ⟨a, n, i⟩) :
    Calls Try.prog 9 #[.pointer (some ⟨d, 0, none⟩), .agg #[.int .i64 4, .int .u32 g, .int .u32 l, .int .u32 i, .int .u32 a, .int .i64 n, .bool b, .int .u32 s, .int .u16 x]] w fun e w' => e = .returned (.tuple #[]) ∧
      ∃ o' fl', Notes w' d o' fl' id (N + 1) (app S ⟨4, g, l, i, a, n, b, s, x⟩) ∧ Turn (fp d o fl) w w' ∧ ∀ y, y ∈ fp d o' fl' → y ∈ fp d o fl ∨ w.heap.size ≤ y := by
  obtain ⟨nn, m, hnm, hS⟩ := h
  have RB := Blk.new w 37 #[.int .i64 4, .int .u32 g, .int .u32 l, .int .u32 i, .int .u32 a, .int .i64 n, .bool b, .int .u32 s, .int .u16 x]
  have hb := below_new w (.cells #[.int .i64 4, .int .u32 g, .int .u32 l, .int .u32 i, .int .u32 a, .int .i64 n, .bool b, .int .u32 s, .int .u16 x] 37)
  have hz := size_new w (.cells #[.int .i64 4, .int .u32 g, .int .u32 l, .int .u32 i, .int .u32 a, .int .i64 n, .bool b, .int .u32 s, .int .u16 x] 37)
  cases hr : bet (S.floor ⟨a, n, i⟩) s x with
  | false =>
    have E := Lib.hid (show app S ⟨4, g, l, i, a, n, b, s, x⟩ = S by unfold app; simp [hr])
    go_enter Try.func9, Try.ntmps9
    go_wp2_with fail
    refine (betters_eq ((hS.held hb).held (below_new _ _)) ⟨a, n, i⟩ hk s x hr rfl).mono ?_
    rintro e w' ⟨rfl, hb'⟩
    have hb2 := next (next hb (below_new _ _)) hb'
    have hS2 := hS.held hb2
    clear hb' hb RB hS hz
    go_wp2_with fail
    refine bodyPost_end (v := .tuple #[]) (results_none rfl _ _ _) rfl ⟨rfl, ?_⟩
    rw [E.out]
    obtain ⟨o', fl', ⟨n1, n2, h1, h2⟩, h3⟩ := notes_same hS2 hb2 hnm
    exact ⟨o', fl', ⟨n1, n2, by omega, h2⟩, h3⟩
  | true =>
    have E := Lib.hid (show app S ⟨4, g, l, i, a, n, b, s, x⟩ = ⟨S.lease, S.own, fun k => if k = ⟨a, n, i⟩ then some (s, x) else S.floor k⟩ by unfold app; simp [hr])
    go_enter Try.func9, Try.ntmps9
    go_wp2_with fail
    have KB := Blk.new (w.alloc (.cells #[.int .i64 4, .int .u32 g, .int .u32 l, .int .u32 i, .int .u32 a, .int .i64 n, .bool b, .int .u32 s, .int .u16 x] 37)) 45 #[.int .u32 a, .int .i64 n, .int .u32 i]
    rw [size_new] at KB
    refine (betters_eq ((hS.held hb).held (below_new _ _)) ⟨a, n, i⟩ hk s x hr rfl).mono ?_
    rintro e w' ⟨rfl, hb'⟩
    have RB2 := (RB.more (.cells #[.int .u32 a, .int .i64 n, .int .u32 i] 45)).held hb'
    have KB2 := KB.held hb'
    have hb2 := next (next hb (below_new _ _)) hb'
    have hS2 := (hS.held hb2).drew
    clear hb' hb RB KB hS hz
    go_wp2_with fail
    have c7 := RB2.at_ 7
    have c8 := RB2.at_ 8
    have k0 := KB2.at_ 0
    have k1 := KB2.at_ 1
    have k2 := KB2.at_ 2
    have hC : Calls Try.prog 21 #[.pointer (some ⟨d, 3, none⟩), .agg #[.int .u32 a, .int .i64 n, .int .u32 i], .agg #[.int .u32 s, .int .u16 x]] w'.drew _ := set_floor hS2.head (j := 3) rfl hS2.floors (fun y hy => hS2.head_ne (.inr hy)) (by have := hS2.counts; unfold maxLen; omega) ⟨a, n, i⟩ hk s x
    have ST := Lib.hid (And.intro hS2 hb2.drew)
    clear hS2 hb2 RB2 KB2
    go_region_with (go_at_call 21; refine hC.mono ?_; rintro e y ⟨rfl, hp⟩; have Y := Lib.hid hp; clear hp)
    all_goals
      go_wp2_with fail
      obtain ⟨b', n', h1, h2, h3, h4, h5⟩ := Y.out
      refine bodyPost_end (v := .tuple #[]) (results_none rfl _ _ _) rfl ⟨rfl, ?_⟩
      rw [E.out]
      exact St.setFloor ST.out.1 ST.out.2 hnm hN _ _ _ hs hx h1 h2 h3 h4 h5

/-- Apply, whatever the record -/
theorem apply_any {w : World} {d : Nat} {o fl : Option Nat} {id N : Nat} {S : Sm} (h : Notes w d o fl id N S) (hN : N < 100000) (r : Rc) (hr : r.Fits) :
    Calls Try.prog 9 #[.pointer (some ⟨d, 0, none⟩), .agg #[.int .i64 r.kind, .int .u32 r.gen, .int .u32 r.lsn, .int .u32 r.id, .int .u32 r.a, .int .i64 r.len, .bool r.on, .int .u32 r.seq, .int .u16 r.met]] w fun e w' => e = .returned (.tuple #[]) ∧
      ∃ o' fl', Notes w' d o' fl' id (N + 1) (app S r) ∧ Turn (fp d o fl) w w' ∧ ∀ y, y ∈ fp d o' fl' → y ∈ fp d o fl ∨ w.heap.size ≤ y := by
  obtain ⟨k, g, l, i, a, n, b, s, x⟩ := r
  have hup : ∀ w', (∃ o' fl', Notes w' d o' fl' id N (app S ⟨k, g, l, i, a, n, b, s, x⟩) ∧ Turn (fp d o fl) w w' ∧ ∀ y, y ∈ fp d o' fl' → y ∈ fp d o fl ∨ w.heap.size ≤ y) → ∃ o' fl', Notes w' d o' fl' id (N + 1) (app S ⟨k, g, l, i, a, n, b, s, x⟩) ∧ Turn (fp d o fl) w w' ∧ ∀ y, y ∈ fp d o' fl' → y ∈ fp d o fl ∨ w.heap.size ≤ y :=
    fun _ ⟨o', fl', ⟨n1, n2, h1, h2⟩, h3⟩ => ⟨o', fl', ⟨n1, n2, by omega, h2⟩, h3⟩
  by_cases h2 : k = 2
  · subst h2
    exact apply_own h hN g l i a n b s x ⟨hr.a, hr.n1, hr.n2⟩
  by_cases h3 : k = 3
  · subst h3
    exact (apply_lease h g l i a n b s x hr.seq).mono fun _ _ h => ⟨h.1, hup _ h.2⟩
  by_cases h4 : k = 4
  · subst h4
    exact apply_floor h hN g l i a n b s x hr.seq hr.met ⟨hr.a, ⟨hr.n1, hr.n2⟩, hr.id⟩
  · exact (apply_other h k h2 h3 h4 g l i a n b s x).mono fun _ _ h => ⟨h.1, hup _ h.2⟩
end Go.Proofs.Ytncliolkdkofhaa
