/-
  The statement's model of a state: New and Apply.
-/
import Derived.Test.YtncliolkdkofhaaStB
namespace Go.Proofs.Ytncliolkdkofhaa
open Go.RowKit Rm

/-- the statement's model, in block d -/
structure Md (w : World) (d o fl : Nat) (id lease n m : Nat) (own : Pk → Option Bool) (floor : Ky → Option (Nat × Nat)) : Prop where
  head : Blk 51 w d #[.int .u32 id, .int .u32 lease, .map (some o), .map (some fl)]
  owns : Mk pkE w o n (fun x => (own x).map .bool)
  floors : Mk kyE w fl m (fun x => (floor x).map dV)
  apart : o ≠ fl
  small : ∀ k f, floor k = some f → f.1 < 4294967296 ∧ f.2 < 65536
  lease_lt : lease < 4294967296
  counts : n + m ≤ 100000
section
variable {w w' : World} {d o fl id lease n m : Nat} {own : Pk → Option Bool} {floor : Ky → Option (Nat × Nat)}
theorem Md.turn {L : List Nat} (h : Md w d o fl id lease n m own floor) (t : Turn L w w') (hd : d ∉ L) (ho : o ∉ L) (hf : fl ∉ L) : Md w' d o fl id lease n m own floor :=
  ⟨h.head.turn t hd, h.owns.of_block (t.block _ h.owns.lt ho), h.floors.of_block (t.block _ h.floors.lt hf), h.apart, h.small, h.lease_lt, h.counts⟩
theorem Md.held (h : Md w d o fl id lease n m own floor) (hb : Below w.heap.size w w') : Md w' d o fl id lease n m own floor := h.turn (L := []) (.of_below _ hb) (by simp) (by simp) (by simp)
theorem Md.drew (h : Md w d o fl id lease n m own floor) : Md w.drew d o fl id lease n m own floor := ⟨h.head, h.owns.of_block rfl, h.floors.of_block rfl, h.apart, h.small, h.lease_lt, h.counts⟩
theorem Md.head_ne (h : Md w d o fl id lease n m own floor) {b : Nat} (hb : o = b ∨ fl = b) : d ≠ b := by
  intro e
  have h1 := h.head
  unfold Blk at h1
  rcases hb with hb | hb
  · obtain ⟨es, c, h2⟩ := h.owns.isMap
    rw [e, ← hb, h2] at h1
    cases h1
  · obtain ⟨es, c, h2⟩ := h.floors.isMap
    rw [e, ← hb, h2] at h1
    cases h1
end
/-- the model in block d says S -/
def Says (w : World) (d o fl : Nat) (id N : Nat) (S : Sm) : Prop := ∃ n m, n + m ≤ N ∧ Md w d o fl id S.lease n m S.own S.floor

set_option maxHeartbeats 1000000 in
theorem model_new (id : Nat) (w : World) : Calls Try.prog 8 #[.int .u32 id] w fun e w' =>
    ∃ d o fl, e = .returned (.pointer (some ⟨d, 0, none⟩)) ∧ Says w' d o fl id 0 sm0 ∧ Below w.heap.size w w' ∧ w.heap.size ≤ d ∧ w.heap.size ≤ o ∧ w.heap.size ≤ fl := by
  have hmm := @run_makeMap Try.prog
  go_enter Try.func8, Try.ntmps8
  go_wp2_with fail
  go_ret
  have h0 := Mk.new pkE w
  have h1 := Mk.new kyE (w.alloc (.map #[] 0))
  rw [size_new] at h1
  have hB := Blk.new ((w.alloc (.map #[] 0)).alloc (.map #[] 0)) 51 #[.int .u32 id, .int .u32 0, .map (some w.heap.size), .map (some (w.heap.size + 1))]
  rw [size_new, size_new] at hB
  exact ⟨_, w.heap.size, w.heap.size + 1, rfl, ⟨0, 0, by omega, ⟨hB, h0.held (next (below_new _ _) (below_new _ _)), h1.held (below_new _ _), by omega, (fun _ _ h => by cases h), (by show 0 < 4294967296; omega), (by omega)⟩⟩,
    next (next (below_new _ _) (below_new _ _)) (below_new _ _), by omega, by omega, by omega⟩

theorem Says.drewN {w : World} {d o fl id N : Nat} {S : Sm} (h : Says w d o fl id N S) (q : Nat) : Says (w.drewN q) d o fl id N S := by
  obtain ⟨n, m, h1, h2⟩ := h
  exact ⟨n, m, h1, ⟨h2.head, h2.owns.of_block rfl, h2.floors.of_block rfl, h2.apart, h2.small, h2.lease_lt, h2.counts⟩⟩
theorem Md.drewN {w : World} {d o fl id lease n m : Nat} {own : Pk → Option Bool} {floor : Ky → Option (Nat × Nat)} (h2 : Md w d o fl id lease n m own floor) (q : Nat) : Md (w.drewN q) d o fl id lease n m own floor :=
  ⟨h2.head, h2.owns.of_block rfl, h2.floors.of_block rfl, h2.apart, h2.small, h2.lease_lt, h2.counts⟩
theorem turn_drewN {L : List Nat} {w w' : World} (h : Turn L w w') (q : Nat) : Turn L w (w'.drewN q) := ⟨h.os, h.tape, h.output, h.size, h.block⟩
theorem Says.up {w : World} {d o fl id N : Nat} {S : Sm} (h : Says w d o fl id N S) : Says w d o fl id (N + 1) S := by
  obtain ⟨n, m, h1, h2⟩ := h
  exact ⟨n, m, by omega, h2⟩
theorem upd_mown (own : Pk → Option Bool) (p : Pk) (b : Bool) : upd (fun x => (own x).map .bool) p (.bool b) = fun x => ((fun z => if z = p then some b else own z) x).map .bool := by
  funext x
  unfold upd
  by_cases h : x = p
  · simp [h]
  · simp [h]
theorem Md.setOwn {w W y : World} {d o fl id n m N n' : Nat} {S : Sm} (hW : Md W d o fl id S.lease n m S.own S.floor) (hb : Below w.heap.size w W) (hnm : n + m ≤ N) (hN : N < 100000) (p : Pk) (b : Bool)
    (hM : Mk pkE y o n' (upd (fun x => (S.own x).map .bool) p (.bool b))) (T4 : Turn [o] W y) (hn : n' ≤ n + 1 := by first | omega | (split <;> omega)) :
    Says y d o fl id (N + 1) ⟨S.lease, fun z => if z = p then some b else S.own z, S.floor⟩ ∧ Turn [d, o, fl] w y := by
  refine ⟨⟨n', m, by omega, hW.head.turn T4 (by simpa using hW.head_ne (.inl rfl)), ?_, hW.floors.of_block (T4.block _ hW.floors.lt (by simpa using Ne.symm hW.apart)), hW.apart, hW.small, hW.lease_lt, by omega⟩, (Turn.of_below _ hb).trans (T4.mono (by simp))⟩
  rw [upd_mown] at hM
  exact hM
theorem Md.setFloor {w W y : World} {d o fl id n m N n' : Nat} {S : Sm} (hW : Md W d o fl id S.lease n m S.own S.floor) (hb : Below w.heap.size w W) (hnm : n + m ≤ N) (hN : N < 100000) (k : Ky) (s x : Nat) (hs : s < 4294967296) (hx : x < 65536)
    (hM : Mk kyE y fl n' (upd (fun x => (S.floor x).map dV) k (.agg #[.int .u32 s, .int .u16 x]))) (T4 : Turn [fl] W y) (hn : n' ≤ m + 1 := by first | omega | (split <;> omega)) :
    Says y d o fl id (N + 1) ⟨S.lease, S.own, fun z => if z = k then some (s, x) else S.floor z⟩ ∧ Turn [d, o, fl] w y := by
  refine ⟨⟨n, n', by omega, hW.head.turn T4 (by simpa using hW.head_ne (.inr rfl)), hW.owns.of_block (T4.block _ hW.owns.lt (by simpa using hW.apart)), ?_, hW.apart, ?_, hW.lease_lt, by omega⟩, (Turn.of_below _ hb).trans (T4.mono (by simp))⟩
  · rw [upd_floor] at hM
    exact hM
  · intro z f hf
    have hf : (if z = k then some (s, x) else S.floor z) = some f := hf
    by_cases h : z = k
    · rw [if_pos h] at hf
      cases hf
      exact ⟨hs, hx⟩
    · rw [if_neg h] at hf
      exact hW.small z f hf
theorem Md.setLease {w W : World} {d o fl id n m N q : Nat} {S : Sm} (hW : Md W d o fl id S.lease n m S.own S.floor) (hb : Below w.heap.size w W) (hnm : n + m ≤ N) (hq : q < 4294967296) :
    Says (W.setCell ⟨d, 1, none⟩ (.int .u32 q)) d o fl id N ⟨q, S.own, S.floor⟩ ∧ Turn [d, o, fl] w (W.setCell ⟨d, 1, none⟩ (.int .u32 q)) :=
  ⟨⟨n, m, hnm, hW.head.store 1 _, hW.owns.of_block (Below.heap_setCell _ _ _ _ (Ne.symm (hW.head_ne (.inl rfl)))), hW.floors.of_block (Below.heap_setCell _ _ _ _ (Ne.symm (hW.head_ne (.inr rfl)))), hW.apart, hW.small, hq, hW.counts⟩,
    (Turn.of_below _ hb).trans (Turn.setCell _ (p := ⟨d, 1, none⟩) (by simp) _)⟩
theorem bet_some (f : Nat × Nat) (s x : Nat) : bet (some f) s x = better s x f.1 f.2 := by
  unfold bet
  show decide (0 < dcmp s x f.1 f.2) = _
  by_cases h : (f.1 : Int) < s ∨ (s : Int) = f.1 ∧ (x : Int) < f.2
  · rw [better_yes h, dcmp_pos h]; rfl
  · rw [better_no h]
    by_cases h' : (s : Int) < f.1 ∨ (s : Int) = f.1 ∧ (f.2 : Int) < x
    · rw [dcmp_neg h']; rfl
    · have e1 : (s : Int) = f.1 := by omega
      have e2 : (x : Int) = f.2 := by omega
      rw [e1, e2, dcmp_self]; rfl
set_option maxHeartbeats 1000000 in
theorem mapply_own {w : World} {d o fl id N : Nat} {S : Sm} (h : Says w d o fl id N S) (hN : N < 100000) (g l i a : Nat) (n : Int) (b : Bool) (s x : Nat) (hk : Pk.ok ⟨a, n⟩) :
    Calls Try.prog 10 #[.pointer (some ⟨d, 0, none⟩), .agg #[.int .i64 2, .int .u32 g, .int .u32 l, .int .u32 i, .int .u32 a, .int .i64 n, .bool b, .int .u32 s, .int .u16 x]] w fun e w' => e = .returned (.tuple #[]) ∧
      Says w' d o fl id (N + 1) (app S ⟨2, g, l, i, a, n, b, s, x⟩) ∧ Turn [d, o, fl] w w' := by
  obtain ⟨nn, m, hnm, hS⟩ := h
  have RB := Blk.new w 37 #[.int .i64 2, .int .u32 g, .int .u32 l, .int .u32 i, .int .u32 a, .int .i64 n, .bool b, .int .u32 s, .int .u16 x]
  have hb := below_new w (.cells #[.int .i64 2, .int .u32 g, .int .u32 l, .int .u32 i, .int .u32 a, .int .i64 n, .bool b, .int .u32 s, .int .u16 x] 37)
  have hz := size_new w (.cells #[.int .i64 2, .int .u32 g, .int .u32 l, .int .u32 i, .int .u32 a, .int .i64 n, .bool b, .int .u32 s, .int .u16 x] 37)
  go_enter Try.func10, Try.ntmps10
  go_wp2_with fail
  generalize w.alloc (.cells #[.int .i64 2, .int .u32 g, .int .u32 l, .int .u32 i, .int .u32 a, .int .i64 n, .bool b, .int .u32 s, .int .u16 x] 37) = W at *
  have hW := (hS.held hb).drew
  have olt := hS.owns.lt
  clear hS
  obtain ⟨w4, hu, hM4, hg4, -⟩ := hW.owns.store (t := 48) (e := 4) (by kernel_rfl) (by have := hW.counts; unfold maxLen; omega) (i := ⟨a, n⟩) hk (.bool b)
  have hu : (Instr.mapUpdate 48 (.map (some o)) (.agg #[.int .u32 a, .int .i64 n]) (.bool b)).run Try.prog W.drew = .ok () w4 := hu
  have T4 : Turn [o] W.drew w4 := Turn.of_grown hg4 (List.mem_singleton.2 rfl)
  have R4 : Blk 37 w4 w.heap.size _ := (RB.drew).turn T4 (by simp; omega)
  have c2 : W.cell? ⟨d, 2, none⟩ = some (.map (some o)) := hW.head.at_ 2
  have c4 := RB.at_ 4
  have c5 := RB.at_ 5
  have c6 := RB.at_ 6
  have e0 := R4.at_ 0
  have Z := Lib.hid (Md.setOwn (S := S) hW hb.drew hnm hN ⟨a, n⟩ b hM4 T4)
  clear hM4 hg4 T4 R4 RB hW hb
  go_region
  all_goals
    clear c2 c4 c5 c6 hu
    go_wp2_with fail
  all_goals
    go_quiet (fail)
    go_wp2_with fail
    refine bodyPost_end (v := .tuple #[]) (results_none rfl _ _ _) rfl ⟨rfl, ?_⟩
    exact ⟨Z.out.1.drewN _, turn_drewN Z.out.2 _⟩

set_option maxHeartbeats 1000000 in
theorem mapply_lease {w : World} {d o fl id N : Nat} {S : Sm} (h : Says w d o fl id N S) (g l i a : Nat) (n : Int) (b : Bool) (s x : Nat) (hs : s < 4294967296) :
    Calls Try.prog 10 #[.pointer (some ⟨d, 0, none⟩), .agg #[.int .i64 3, .int .u32 g, .int .u32 l, .int .u32 i, .int .u32 a, .int .i64 n, .bool b, .int .u32 s, .int .u16 x]] w fun e w' => e = .returned (.tuple #[]) ∧
      Says w' d o fl id (N + 1) (app S ⟨3, g, l, i, a, n, b, s, x⟩) ∧ Turn [d, o, fl] w w' := by
  obtain ⟨nn, m, hnm, hS⟩ := h
  have RB := Blk.new w 37 #[.int .i64 3, .int .u32 g, .int .u32 l, .int .u32 i, .int .u32 a, .int .i64 n, .bool b, .int .u32 s, .int .u16 x]
  have hb := below_new w (.cells #[.int .i64 3, .int .u32 g, .int .u32 l, .int .u32 i, .int .u32 a, .int .i64 n, .bool b, .int .u32 s, .int .u16 x] 37)
  have hz := size_new w (.cells #[.int .i64 3, .int .u32 g, .int .u32 l, .int .u32 i, .int .u32 a, .int .i64 n, .bool b, .int .u32 s, .int .u16 x] 37)
  have E := Lib.hid (show app S ⟨3, g, l, i, a, n, b, s, x⟩ = ⟨max S.lease s, S.own, S.floor⟩ from rfl)
  by_cases hlt : (S.lease : Int) < s
  · go_enter Try.func10, Try.ntmps10
    go_wp2_with fail
    generalize w.alloc (.cells #[.int .i64 3, .int .u32 g, .int .u32 l, .int .u32 i, .int .u32 a, .int .i64 n, .bool b, .int .u32 s, .int .u16 x] 37) = W at *
    have hW := hS.held hb
    have c0 := RB.at_ 0
    have c7 := RB.at_ 7
    have l1 : W.cell? ⟨d, 1, none⟩ = some (.int .u32 S.lease) := hW.head.at_ 1
    have f1 : W.frozen? ⟨d, 1, none⟩ = false := hW.head.free 1
    have dne : d ≠ w.heap.size := by have := hS.head.lt; omega
    have HH := Lib.hid (And.intro hW hb)
    clear hS hW hb RB
    go_quiet (fail)
    go_wp2_with fail
    refine bodyPost_end (v := .tuple #[]) (results_none rfl _ _ _) rfl ⟨rfl, ?_⟩
    rw [E.out, Nat.max_eq_right (by omega)]
    have hW := HH.out.1
    obtain ⟨z1, z2⟩ := Md.setLease (S := S) (W := W.drewN _) (hW.drewN _) (drewN_below HH.out.2 _) hnm hs
    exact ⟨z1.up, z2⟩
  · have dlt : decide ((S.lease : Int) < s) = false := decide_eq_false hlt
    go_enter Try.func10, Try.ntmps10
    go_wp2_with fail
    generalize w.alloc (.cells #[.int .i64 3, .int .u32 g, .int .u32 l, .int .u32 i, .int .u32 a, .int .i64 n, .bool b, .int .u32 s, .int .u16 x] 37) = W at *
    have hW := hS.held hb
    have c0 := RB.at_ 0
    have c7 := RB.at_ 7
    have l1 : W.cell? ⟨d, 1, none⟩ = some (.int .u32 S.lease) := hW.head.at_ 1
    have HH := Lib.hid (And.intro hW hb)
    clear hS hW hb RB
    go_quiet (fail)
    go_wp2_with fail
    refine bodyPost_end (v := .tuple #[]) (results_none rfl _ _ _) rfl ⟨rfl, ?_⟩
    rw [E.out, Nat.max_eq_left (by omega)]
    exact ⟨Says.up ⟨_, _, hnm, HH.out.1.drewN _⟩, .of_below _ (drewN_below HH.out.2 _)⟩

end Go.Proofs.Ytncliolkdkofhaa
