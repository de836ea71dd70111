/-
  The statement's model of a state: New and Apply.
  The statement's model of a state: Apply of a floor, and of whatever record.
  The contract of the statement's Right of a record (out of the texts AddrW and RecR).
  The statement's model: Apply, whatever the record; few; the example.
  What comes in: a list of records, a key, a distance.
-/
import Derived.Test.YtpgcnjoodoabhaaGreatS02
import Derived.Lib.QuietBelow
import Derived.BigRegion
import Derived.Test.YtpgcnjoodoabhaaGreatProg
import Derived.Test.YtpgcnjoodoabhaaGreatS01
import Derived.Laws.BitsAllLaws
import Derived.Maps.RangeWalk
import Derived.Lib.Hide
import Derived.Test.YtpgcnjoodoabhaaGreatRows
import Derived.Deep.Slices
import Derived.Deep.Fields
import Derived.ChangeSame
import Derived.Lib.SmallJoins
namespace Go.Proofs.YtpgcnjoodoabhaaGreat
open Go.RowKit Rm

/-- the statement's model, in block d -/
structure Md (w : World) (d o fl : Nat) (id lease n m : Nat) (own : Pk → Option Bool) (floor : Ky → Option (Nat × Nat)) : Prop where
  head : Blk 81 w d #[.int .u32 id, .int .u32 lease, .map (some o), .map (some fl)]
  owns : Mk pkE w o n (fun x => (own x).map .bool)
  floors : Mk kyE w fl m (fun x => (floor x).map dV)
  apart : o ≠ fl
  small : ∀ k f, floor k = some f → f.1 < 4294967296 ∧ f.2 < 65536
  lease_lt : lease < 4294967296
  counts : n + m ≤ 100000
section
variable {w w' : World} {d o fl id lease n m : Nat} {own : Pk → Option Bool} {floor : Ky → Option (Nat × Nat)}
theorem Md.turn {L : List Nat} (h : Md w d o fl id lease n m own floor) (t : Turn L w w') (hd : d ∉ L) (ho : o ∉ L) (hf : fl ∉ L) : Md w' d o fl id lease n m own floor :=
  ⟨h.head.turn t hd, h.owns.of_block (t.block _ h.owns.lt ho), h.floors.of_block (t.block _ h.floors.lt hf), h.apart, h.small, h.lease_lt, h.counts⟩
theorem Md.held (h : Md w d o fl id lease n m own floor) (hb : Below w.heap.size w w') : Md w' d o fl id lease n m own floor := h.turn (L := []) (.of_below _ hb) (by simp) (by simp) (by simp)
theorem Md.drew (h : Md w d o fl id lease n m own floor) : Md w.drew d o fl id lease n m own floor := ⟨h.head, h.owns.of_block rfl, h.floors.of_block rfl, h.apart, h.small, h.lease_lt, h.counts⟩
theorem Md.head_ne (h : Md w d o fl id lease n m own floor) {b : Nat} (hb : o = b ∨ fl = b) : d ≠ b := by
  intro e
  have h1 := h.head
  unfold Blk at h1
  rcases hb with hb | hb
  · obtain ⟨es, c, h2⟩ := h.owns.isMap
    rw [e, ← hb, h2] at h1
    cases h1
  · obtain ⟨es, c, h2⟩ := h.floors.isMap
    rw [e, ← hb, h2] at h1
    cases h1
end
/-- the model in block d says S -/
def Says (w : World) (d o fl : Nat) (id N : Nat) (S : Sm) : Prop := ∃ n m, n + m ≤ N ∧ Md w d o fl id S.lease n m S.own S.floor

set_option maxHeartbeats 1000000 in
theorem model_new (id : Nat) (w : World) : Calls Tryz.prog 8 #[.int .u32 id] w fun e w' =>
    ∃ d o fl, e = .returned (.pointer (some ⟨d, 0, none⟩)) ∧ Says w' d o fl id 0 sm0 ∧ Below w.heap.size w w' ∧ w.heap.size ≤ d ∧ w.heap.size ≤ o ∧ w.heap.size ≤ fl := by
  have hmm := @run_makeMap Tryz.prog
  go_enter Tryz.func8, Tryz.ntmps8
  go_wp2_with fail
  go_ret
  have h0 := Mk.new pkE w
  have h1 := Mk.new kyE (w.alloc (.map #[] 0))
  rw [size_new] at h1
  have hB := Blk.new ((w.alloc (.map #[] 0)).alloc (.map #[] 0)) 81 #[.int .u32 id, .int .u32 0, .map (some w.heap.size), .map (some (w.heap.size + 1))]
  rw [size_new, size_new] at hB
  exact ⟨_, w.heap.size, w.heap.size + 1, rfl, ⟨0, 0, by omega, ⟨hB, h0.held (next (below_new _ _) (below_new _ _)), h1.held (below_new _ _), by omega, (fun _ _ h => by cases h), (by show 0 < 4294967296; omega), (by omega)⟩⟩,
    next (next (below_new _ _) (below_new _ _)) (below_new _ _), by omega, by omega, by omega⟩

theorem Says.drewN {w : World} {d o fl id N : Nat} {S : Sm} (h : Says w d o fl id N S) (q : Nat) : Says (w.drewN q) d o fl id N S := by
  obtain ⟨n, m, h1, h2⟩ := h
  exact ⟨n, m, h1, ⟨h2.head, h2.owns.of_block rfl, h2.floors.of_block rfl, h2.apart, h2.small, h2.lease_lt, h2.counts⟩⟩
theorem Md.drewN {w : World} {d o fl id lease n m : Nat} {own : Pk → Option Bool} {floor : Ky → Option (Nat × Nat)} (h2 : Md w d o fl id lease n m own floor) (q : Nat) : Md (w.drewN q) d o fl id lease n m own floor :=
  ⟨h2.head, h2.owns.of_block rfl, h2.floors.of_block rfl, h2.apart, h2.small, h2.lease_lt, h2.counts⟩
theorem turn_drewN {L : List Nat} {w w' : World} (h : Turn L w w') (q : Nat) : Turn L w (w'.drewN q) := ⟨h.os, h.tape, h.output, h.size, h.block⟩
theorem Says.up {w : World} {d o fl id N : Nat} {S : Sm} (h : Says w d o fl id N S) : Says w d o fl id (N + 1) S := by
  obtain ⟨n, m, h1, h2⟩ := h
  exact ⟨n, m, by omega, h2⟩
theorem upd_mown (own : Pk → Option Bool) (p : Pk) (b : Bool) : upd (fun x => (own x).map .bool) p (.bool b) = fun x => ((fun z => if z = p then some b else own z) x).map .bool := by
  funext x
  unfold upd
  by_cases h : x = p
  · simp [h]
  · simp [h]
theorem Md.setOwn {w W y : World} {d o fl id n m N n' : Nat} {S : Sm} (hW : Md W d o fl id S.lease n m S.own S.floor) (hb : Below w.heap.size w W) (hnm : n + m ≤ N) (hN : N < 100000) (p : Pk) (b : Bool)
    (hM : Mk pkE y o n' (upd (fun x => (S.own x).map .bool) p (.bool b))) (T4 : Turn [o] W y) (hn : n' ≤ n + 1 := by first | omega | (split <;> omega)) :
    Says y d o fl id (N + 1) ⟨S.lease, fun z => if z = p then some b else S.own z, S.floor⟩ ∧ Turn [d, o, fl] w y := by
  refine ⟨⟨n', m, by omega, hW.head.turn T4 (by simpa using hW.head_ne (.inl rfl)), ?_, hW.floors.of_block (T4.block _ hW.floors.lt (by simpa using Ne.symm hW.apart)), hW.apart, hW.small, hW.lease_lt, by omega⟩, (Turn.of_below _ hb).trans (T4.mono (by simp))⟩
  rw [upd_mown] at hM
  exact hM
theorem Md.setFloor {w W y : World} {d o fl id n m N n' : Nat} {S : Sm} (hW : Md W d o fl id S.lease n m S.own S.floor) (hb : Below w.heap.size w W) (hnm : n + m ≤ N) (hN : N < 100000) (k : Ky) (s x : Nat) (hs : s < 4294967296) (hx : x < 65536)
    (hM : Mk kyE y fl n' (upd (fun x => (S.floor x).map dV) k (.agg #[.int .u32 s, .int .u16 x]))) (T4 : Turn [fl] W y) (hn : n' ≤ m + 1 := by first | omega | (split <;> omega)) :
    Says y d o fl id (N + 1) ⟨S.lease, S.own, fun z => if z = k then some (s, x) else S.floor z⟩ ∧ Turn [d, o, fl] w y := by
  refine ⟨⟨n, n', by omega, hW.head.turn T4 (by simpa using hW.head_ne (.inr rfl)), hW.owns.of_block (T4.block _ hW.owns.lt (by simpa using hW.apart)), ?_, hW.apart, ?_, hW.lease_lt, by omega⟩, (Turn.of_below _ hb).trans (T4.mono (by simp))⟩
  · rw [upd_floor] at hM
    exact hM
  · intro z f hf
    have hf : (if z = k then some (s, x) else S.floor z) = some f := hf
    by_cases h : z = k
    · rw [if_pos h] at hf
      cases hf
      exact ⟨hs, hx⟩
    · rw [if_neg h] at hf
      exact hW.small z f hf
theorem Md.setLease {w W : World} {d o fl id n m N q : Nat} {S : Sm} (hW : Md W d o fl id S.lease n m S.own S.floor) (hb : Below w.heap.size w W) (hnm : n + m ≤ N) (hq : q < 4294967296) :
    Says (W.setCell ⟨d, 1, none⟩ (.int .u32 q)) d o fl id N ⟨q, S.own, S.floor⟩ ∧ Turn [d, o, fl] w (W.setCell ⟨d, 1, none⟩ (.int .u32 q)) :=
  ⟨⟨n, m, hnm, hW.head.store 1 _, hW.owns.of_block (Below.heap_setCell _ _ _ _ (Ne.symm (hW.head_ne (.inl rfl)))), hW.floors.of_block (Below.heap_setCell _ _ _ _ (Ne.symm (hW.head_ne (.inr rfl)))), hW.apart, hW.small, hq, hW.counts⟩,
    (Turn.of_below _ hb).trans (Turn.setCell _ (p := ⟨d, 1, none⟩) (by simp) _)⟩
theorem bet_some (f : Nat × Nat) (s x : Nat) : bet (some f) s x = better s x f.1 f.2 := by
  unfold bet
  show decide (0 < dcmp s x f.1 f.2) = _
  by_cases h : (f.1 : Int) < s ∨ (s : Int) = f.1 ∧ (x : Int) < f.2
  · rw [better_yes h, dcmp_pos h]; rfl
  · rw [better_no h]
    by_cases h' : (s : Int) < f.1 ∨ (s : Int) = f.1 ∧ (f.2 : Int) < x
    · rw [dcmp_neg h']; rfl
    · have e1 : (s : Int) = f.1 := by omega
      have e2 : (x : Int) = f.2 := by omega
      rw [e1, e2, dcmp_self]; rfl
set_option maxHeartbeats 1000000 in
theorem mapply_own {w : World} {d o fl id N : Nat} {S : Sm} (h : Says w d o fl id N S) (hN : N < 100000) (g l i a : Nat) (n : Int) (b : Bool) (s x : Nat) (hk : Pk.ok ⟨a, n⟩) :
    Calls Tryz.prog 14 #[.pointer (some ⟨d, 0, none⟩), .agg #[.int .i64 2, .int .u32 g, .int .u32 l, .int .u32 i, .int .u32 a, .int .i64 n, .bool b, .int .u32 s, .int .u16 x]] w fun e w' => e = .returned (.tuple #[]) ∧
      Says w' d o fl id (N + 1) (app S ⟨2, g, l, i, a, n, b, s, x⟩) ∧ Turn [d, o, fl] w w' := by
  obtain ⟨nn, m, hnm, hS⟩ := h
  have RB := Blk.new w 41 #[.int .i64 2, .int .u32 g, .int .u32 l, .int .u32 i, .int .u32 a, .int .i64 n, .bool b, .int .u32 s, .int .u16 x]
  have hb := below_new w (.cells #[.int .i64 2, .int .u32 g, .int .u32 l, .int .u32 i, .int .u32 a, .int .i64 n, .bool b, .int .u32 s, .int .u16 x] 41)
  have hz := size_new w (.cells #[.int .i64 2, .int .u32 g, .int .u32 l, .int .u32 i, .int .u32 a, .int .i64 n, .bool b, .int .u32 s, .int .u16 x] 41)
  go_enter Tryz.func14, Tryz.ntmps14
  go_wp2_with fail
  generalize w.alloc (.cells #[.int .i64 2, .int .u32 g, .int .u32 l, .int .u32 i, .int .u32 a, .int .i64 n, .bool b, .int .u32 s, .int .u16 x] 41) = W at *
  have hW := (hS.held hb).drew
  have olt := hS.owns.lt
  clear hS
  obtain ⟨w4, hu, hM4, hg4, -⟩ := hW.owns.store (t := 79) (e := 4) (by kernel_rfl) (by have := hW.counts; unfold maxLen; omega) (i := ⟨a, n⟩) hk (.bool b)
  have hu : (Instr.mapUpdate 79 (.map (some o)) (.agg #[.int .u32 a, .int .i64 n]) (.bool b)).run Tryz.prog W.drew = .ok () w4 := hu
  have T4 : Turn [o] W.drew w4 := Turn.of_grown hg4 (List.mem_singleton.2 rfl)
  have R4 : Blk 41 w4 w.heap.size _ := (RB.drew).turn T4 (by simp; omega)
  have c2 : W.cell? ⟨d, 2, none⟩ = some (.map (some o)) := hW.head.at_ 2
  have c4 := RB.at_ 4
  have c5 := RB.at_ 5
  have c6 := RB.at_ 6
  have e0 := R4.at_ 0
  have Z := Lib.hid (Md.setOwn (S := S) hW hb.drew hnm hN ⟨a, n⟩ b hM4 T4)
  clear hM4 hg4 T4 R4 RB hW hb
  go_region
  all_goals
    clear c2 c4 c5 c6 hu
    go_wp2_with fail
  all_goals
    go_quiet (fail)
    go_wp2_with fail
    refine bodyPost_end (v := .tuple #[]) (results_none rfl _ _ _) rfl ⟨rfl, ?_⟩
    exact ⟨Z.out.1.drewN _, turn_drewN Z.out.2 _⟩

set_option maxHeartbeats 1000000 in
theorem mapply_lease {w : World} {d o fl id N : Nat} {S : Sm} (h : Says w d o fl id N S) (g l i a : Nat) (n : Int) (b : Bool) (s x : Nat) (hs : s < 4294967296) :
    Calls Tryz.prog 14 #[.pointer (some ⟨d, 0, none⟩), .agg #[.int .i64 3, .int .u32 g, .int .u32 l, .int .u32 i, .int .u32 a, .int .i64 n, .bool b, .int .u32 s, .int .u16 x]] w fun e w' => e = .returned (.tuple #[]) ∧
      Says w' d o fl id (N + 1) (app S ⟨3, g, l, i, a, n, b, s, x⟩) ∧ Turn [d, o, fl] w w' := by
  obtain ⟨nn, m, hnm, hS⟩ := h
  have RB := Blk.new w 41 #[.int .i64 3, .int .u32 g, .int .u32 l, .int .u32 i, .int .u32 a, .int .i64 n, .bool b, .int .u32 s, .int .u16 x]
  have hb := below_new w (.cells #[.int .i64 3, .int .u32 g, .int .u32 l, .int .u32 i, .int .u32 a, .int .i64 n, .bool b, .int .u32 s, .int .u16 x] 41)
  have hz := size_new w (.cells #[.int .i64 3, .int .u32 g, .int .u32 l, .int .u32 i, .int .u32 a, .int .i64 n, .bool b, .int .u32 s, .int .u16 x] 41)
  have E := Lib.hid (show app S ⟨3, g, l, i, a, n, b, s, x⟩ = ⟨max S.lease s, S.own, S.floor⟩ from rfl)
  by_cases hlt : (S.lease : Int) < s
  · go_enter Tryz.func14, Tryz.ntmps14
    go_wp2_with fail
    generalize w.alloc (.cells #[.int .i64 3, .int .u32 g, .int .u32 l, .int .u32 i, .int .u32 a, .int .i64 n, .bool b, .int .u32 s, .int .u16 x] 41) = W at *
    have hW := hS.held hb
    have c0 := RB.at_ 0
    have c7 := RB.at_ 7
    have l1 : W.cell? ⟨d, 1, none⟩ = some (.int .u32 S.lease) := hW.head.at_ 1
    have f1 : W.frozen? ⟨d, 1, none⟩ = false := hW.head.free 1
    have dne : d ≠ w.heap.size := by have := hS.head.lt; omega
    have HH := Lib.hid (And.intro hW hb)
    clear hS hW hb RB
    go_quiet (fail)
    go_wp2_with fail
    refine bodyPost_end (v := .tuple #[]) (results_none rfl _ _ _) rfl ⟨rfl, ?_⟩
    rw [E.out, Nat.max_eq_right (by omega)]
    have hW := HH.out.1
    obtain ⟨z1, z2⟩ := Md.setLease (S := S) (W := W.drewN _) (hW.drewN _) (drewN_below HH.out.2 _) hnm hs
    exact ⟨z1.up, z2⟩
  · have dlt : decide ((S.lease : Int) < s) = false := decide_eq_false hlt
    go_enter Tryz.func14, Tryz.ntmps14
    go_wp2_with fail
    generalize w.alloc (.cells #[.int .i64 3, .int .u32 g, .int .u32 l, .int .u32 i, .int .u32 a, .int .i64 n, .bool b, .int .u32 s, .int .u16 x] 41) = W at *
    have hW := hS.held hb
    have c0 := RB.at_ 0
    have c7 := RB.at_ 7
    have l1 : W.cell? ⟨d, 1, none⟩ = some (.int .u32 S.lease) := hW.head.at_ 1
    have HH := Lib.hid (And.intro hW hb)
    clear hS hW hb RB
    go_quiet (fail)
    go_wp2_with fail
    refine bodyPost_end (v := .tuple #[]) (results_none rfl _ _ _) rfl ⟨rfl, ?_⟩
    rw [E.out, Nat.max_eq_left (by omega)]
    exact ⟨Says.up ⟨_, _, hnm, HH.out.1.drewN _⟩, .of_below _ (drewN_below HH.out.2 _)⟩

end Go.Proofs.YtpgcnjoodoabhaaGreat

namespace Go.Proofs.YtpgcnjoodoabhaaGreat
open Go.RowKit Rm

set_option maxHeartbeats 1000000 in
theorem mapply_floor {w : World} {d o fl id N : Nat} {S : Sm} (h : Says w d o fl id N S) (hN : N < 100000) (g l i a : Nat) (n : Int) (b : Bool) (s x : Nat) (hk4 : Ky.ok ⟨a, n, i⟩) (hs : s < 4294967296) (hx : x < 65536) :
    Calls Tryz.prog 14 #[.pointer (some ⟨d, 0, none⟩), .agg #[.int .i64 4, .int .u32 g, .int .u32 l, .int .u32 i, .int .u32 a, .int .i64 n, .bool b, .int .u32 s, .int .u16 x]] w fun e w' => e = .returned (.tuple #[]) ∧
      Says w' d o fl id (N + 1) (app S ⟨4, g, l, i, a, n, b, s, x⟩) ∧ Turn [d, o, fl] w w' := by
  obtain ⟨nn, m, hnm, hS⟩ := h
  have RB := Blk.new w 41 #[.int .i64 4, .int .u32 g, .int .u32 l, .int .u32 i, .int .u32 a, .int .i64 n, .bool b, .int .u32 s, .int .u16 x]
  have hb := below_new w (.cells #[.int .i64 4, .int .u32 g, .int .u32 l, .int .u32 i, .int .u32 a, .int .i64 n, .bool b, .int .u32 s, .int .u16 x] 41)
  have hz := size_new w (.cells #[.int .i64 4, .int .u32 g, .int .u32 l, .int .u32 i, .int .u32 a, .int .i64 n, .bool b, .int .u32 s, .int .u16 x] 41)
  have hlook : ∀ w', Below w.heap.size w w' → (Instr.lookup 69 (.map (some fl)) (.agg #[.int .u32 a, .int .i64 n, .int .u32 i]) true).run Tryz.prog w' = .ok (.tuple #[((S.floor ⟨a, n, i⟩).map dV).getD (.agg #[.int .u32 0, .int .u16 0]), .bool (S.floor ⟨a, n, i⟩).isSome]) w' := fun w' hb => by
    have h2 := (hS.held hb).floors.look_ok (t := 69) (e := 39) (by kernel_rfl) (zero_dist _) (i := ⟨a, n, i⟩) hk4
    rw [show ((S.floor ⟨a, n, i⟩).map dV).isSome = (S.floor ⟨a, n, i⟩).isSome by cases S.floor ⟨a, n, i⟩ <;> rfl] at h2
    exact h2
  cases hf : S.floor ⟨a, n, i⟩ with
  | none =>
    rw [hf] at hlook
    have hlook : ∀ w', Below w.heap.size w w' → (Instr.lookup 69 (.map (some fl)) (.agg #[.int .u32 a, .int .i64 n, .int .u32 i]) true).run Tryz.prog w' = .ok (.tuple #[.agg #[.int .u32 0, .int .u16 0], .bool false]) w' := hlook
    have E := Lib.hid (show app S ⟨4, g, l, i, a, n, b, s, x⟩ = ⟨S.lease, S.own, fun k => if k = ⟨a, n, i⟩ then some (s, x) else S.floor k⟩ by unfold app; simp [hf, bet])
    clear hf
    go_enter Tryz.func14, Tryz.ntmps14
    go_wp2_with fail
    generalize w.alloc (.cells #[.int .i64 4, .int .u32 g, .int .u32 l, .int .u32 i, .int .u32 a, .int .i64 n, .bool b, .int .u32 s, .int .u16 x] 41) = W at *
    have c0 := RB.at_ 0
    have c3 := RB.at_ 3
    have c4 := RB.at_ 4
    have c5 := RB.at_ 5
    go_quiet (fail)
    go_wp2_with fail
    have KB := Blk.new (W.drewN nq) 90 #[.int .u32 a, .int .i64 n, .int .u32 i]
    have hb2 := next (drewN_below hb nq) (below_new (W.drewN nq) (.cells #[.int .u32 a, .int .i64 n, .int .u32 i] 90))
    have RB2 := Blk.more (w := W.drewN nq) RB (.cells #[.int .u32 a, .int .i64 n, .int .u32 i] 90)
    rw [show (W.drewN nq).heap.size = w.heap.size + 1 from hz] at KB
    have hz2 : ((W.drewN nq).alloc (.cells #[.int .u32 a, .int .i64 n, .int .u32 i] 90)).heap.size = w.heap.size + 2 := by rw [size_new]; show W.heap.size + 1 = _; omega
    clear c0 c3 c4 c5 hb RB
    generalize (W.drewN nq).alloc (.cells #[.int .u32 a, .int .i64 n, .int .u32 i] 90) = W2 at *
    have dl := hS.head.lt
    have hW2 := hS.held hb2
    have fc : W2.cell? ⟨d, 3, none⟩ = some (.map (some fl)) := hW2.head.at_ 3
    have k0 := KB.at_ 0
    have k1 := KB.at_ 1
    have k2 := KB.at_ 2
    have q1 := hlook _ hb2.drew
    have q2 := hlook _ (next hb2 (below_new W2 (.cells #[.int .u32 0, .int .u16 0] 39))).drew
    have dW : d < W2.heap.size := by omega
    have kW : w.heap.size + 1 < W2.heap.size := by omega
    have fc3 := held (below_new W2 (.cells #[.int .u32 0, .int .u16 0] 39)) fc
    have k03 := held (below_new W2 (.cells #[.int .u32 0, .int .u16 0] 39)) k0
    have k13 := held (below_new W2 (.cells #[.int .u32 0, .int .u16 0] 39)) k1
    have k23 := held (below_new W2 (.cells #[.int .u32 0, .int .u16 0] 39)) k2
    clear hlook
    go_region
    all_goals
      have hb3 := next hb2 (below_new W2 (.cells #[.int .u32 0, .int .u16 0] 39)).drew
      have RB3 := (RB2.more (.cells #[.int .u32 0, .int .u16 0] 39)).drew
      have KB3 := (KB.more (.cells #[.int .u32 0, .int .u16 0] 39)).drew
      have FB3 := (Blk.new W2 39 #[.int .u32 0, .int .u16 0]).drew
      rw [hz2] at FB3
      clear q1 q2 fc3 k03 k13 k23 fc k0 k1 k2 RB2 KB hW2 hb2
      generalize (W2.alloc (.cells #[.int .u32 0, .int .u16 0] 39)).drew = W3 at *
      go_wp2_with fail
      have hb4 := hb3
      have RB4 := RB3
      have KB4 := KB3
      clear hb3 RB3 KB3 FB3
      generalize W3 = W4 at *
      have hW4 := (hS.held hb4).drew
      obtain ⟨w5, hu, hM5, hg5, -⟩ := hW4.floors.store (t := 69) (e := 39) (by kernel_rfl) (by have := hW4.counts; unfold maxLen; omega) (i := ⟨a, n, i⟩) hk4 (.agg #[.int .u32 s, .int .u16 x])
      have hu : (Instr.mapUpdate 69 (.map (some fl)) (.agg #[.int .u32 a, .int .i64 n, .int .u32 i]) (.agg #[.int .u32 s, .int .u16 x])).run Tryz.prog W4.drew = .ok () w5 := hu
      have T5 : Turn [fl] W4.drew w5 := Turn.of_grown hg5 (List.mem_singleton.2 rfl)
      have Z := Lib.hid (Md.setFloor (S := S) hW4 hb4.drew hnm hN ⟨a, n, i⟩ s x hs hx hM5 T5)
      have g3 : W4.cell? ⟨d, 3, none⟩ = some (.map (some fl)) := hW4.head.at_ 3
      have c7 := RB4.at_ 7
      have c8 := RB4.at_ 8
      have k0 := KB4.at_ 0
      have k1 := KB4.at_ 1
      have k2 := KB4.at_ 2
      clear hW4 hM5 hg5 T5 RB4 KB4 hS hb4
      go_region
      all_goals
        go_wp2_with fail
        refine bodyPost_end (v := .tuple #[]) (results_none rfl _ _ _) rfl ⟨rfl, ?_⟩
        rw [E.out]
        exact Z.out
  | some f =>
    obtain ⟨fs, fm⟩ := f
    rw [hf] at hlook
    have hbs := bet_some (fs, fm) s x
    cases hbt : better s x fs fm with
    | true =>
      have BT := Lib.hid hbt
  
      have hlook : ∀ w', Below w.heap.size w w' → (Instr.lookup 69 (.map (some fl)) (.agg #[.int .u32 a, .int .i64 n, .int .u32 i]) true).run Tryz.prog w' = .ok (.tuple #[.agg #[.int .u32 fs, .int .u16 fm], .bool true]) w' := hlook
      have E := Lib.hid (show app S ⟨4, g, l, i, a, n, b, s, x⟩ = ⟨S.lease, S.own, fun k => if k = ⟨a, n, i⟩ then some (s, x) else S.floor k⟩ by unfold app; simp only [hf]; rw [hbs]; simp [hbt])
      clear hf hbs hbt
      go_enter Tryz.func14, Tryz.ntmps14
      go_wp2_with fail
      generalize w.alloc (.cells #[.int .i64 4, .int .u32 g, .int .u32 l, .int .u32 i, .int .u32 a, .int .i64 n, .bool b, .int .u32 s, .int .u16 x] 41) = W at *
      have c0 := RB.at_ 0
      have c3 := RB.at_ 3
      have c4 := RB.at_ 4
      have c5 := RB.at_ 5
      go_quiet (fail)
      go_wp2_with fail
      have KB := Blk.new (W.drewN nq) 90 #[.int .u32 a, .int .i64 n, .int .u32 i]
      have hb2 := next (drewN_below hb nq) (below_new (W.drewN nq) (.cells #[.int .u32 a, .int .i64 n, .int .u32 i] 90))
      have RB2 := Blk.more (w := W.drewN nq) RB (.cells #[.int .u32 a, .int .i64 n, .int .u32 i] 90)
      rw [show (W.drewN nq).heap.size = w.heap.size + 1 from hz] at KB
      have hz2 : ((W.drewN nq).alloc (.cells #[.int .u32 a, .int .i64 n, .int .u32 i] 90)).heap.size = w.heap.size + 2 := by rw [size_new]; show W.heap.size + 1 = _; omega
      clear c0 c3 c4 c5 hb RB
      generalize (W.drewN nq).alloc (.cells #[.int .u32 a, .int .i64 n, .int .u32 i] 90) = W2 at *
      have dl := hS.head.lt
      have hW2 := hS.held hb2
      have fc : W2.cell? ⟨d, 3, none⟩ = some (.map (some fl)) := hW2.head.at_ 3
      have k0 := KB.at_ 0
      have k1 := KB.at_ 1
      have k2 := KB.at_ 2
      have q1 := hlook _ hb2.drew
      have q2 := hlook _ (next hb2 (below_new W2 (.cells #[.int .u32 0, .int .u16 0] 39))).drew
      have dW : d < W2.heap.size := by omega
      have kW : w.heap.size + 1 < W2.heap.size := by omega
      have fc3 := held (below_new W2 (.cells #[.int .u32 0, .int .u16 0] 39)) fc
      have k03 := held (below_new W2 (.cells #[.int .u32 0, .int .u16 0] 39)) k0
      have k13 := held (below_new W2 (.cells #[.int .u32 0, .int .u16 0] 39)) k1
      have k23 := held (below_new W2 (.cells #[.int .u32 0, .int .u16 0] 39)) k2
      clear hlook
      go_region
      all_goals
        have hb3 := next hb2 (below_new W2 (.cells #[.int .u32 fs, .int .u16 fm] 39)).drew
        have RB3 := (RB2.more (.cells #[.int .u32 fs, .int .u16 fm] 39)).drew
        have KB3 := (KB.more (.cells #[.int .u32 fs, .int .u16 fm] 39)).drew
        have FB3 := (Blk.new W2 39 #[.int .u32 fs, .int .u16 fm]).drew
        rw [hz2] at FB3
        clear q1 q2 fc3 k03 k13 k23 fc k0 k1 k2 RB2 KB hW2 hb2
        generalize (W2.alloc (.cells #[.int .u32 fs, .int .u16 fm] 39)).drew = W3 at *
        have c7 := RB3.at_ 7
        have c8 := RB3.at_ 8
        have f0 := FB3.at_ 0
        have f1 := FB3.at_ 1
        go_wp2_with fail
        refine (better_eq BT.out _).mono ?_
        rintro e W4 ⟨rfl, hbb⟩
        have hb4 := next hb3 hbb
        have RB4 := RB3.held hbb
        have KB4 := KB3.held hbb
        clear c7 c8 f0 f1 hb3 RB3 KB3 FB3 hbb
        go_wp2_with fail
        have hW4 := (hS.held hb4).drew
        obtain ⟨w5, hu, hM5, hg5, -⟩ := hW4.floors.store (t := 69) (e := 39) (by kernel_rfl) (by have := hW4.counts; unfold maxLen; omega) (i := ⟨a, n, i⟩) hk4 (.agg #[.int .u32 s, .int .u16 x])
        have hu : (Instr.mapUpdate 69 (.map (some fl)) (.agg #[.int .u32 a, .int .i64 n, .int .u32 i]) (.agg #[.int .u32 s, .int .u16 x])).run Tryz.prog W4.drew = .ok () w5 := hu
        have T5 : Turn [fl] W4.drew w5 := Turn.of_grown hg5 (List.mem_singleton.2 rfl)
        have Z := Lib.hid (Md.setFloor (S := S) hW4 hb4.drew hnm hN ⟨a, n, i⟩ s x hs hx hM5 T5)
        have g3 : W4.cell? ⟨d, 3, none⟩ = some (.map (some fl)) := hW4.head.at_ 3
        have c7 := RB4.at_ 7
        have c8 := RB4.at_ 8
        have k0 := KB4.at_ 0
        have k1 := KB4.at_ 1
        have k2 := KB4.at_ 2
        clear hW4 hM5 hg5 T5 RB4 KB4 hS hb4
        go_region
        all_goals
          go_wp2_with fail
          refine bodyPost_end (v := .tuple #[]) (results_none rfl _ _ _) rfl ⟨rfl, ?_⟩
          rw [E.out]
          exact Z.out
  
    | false =>
      have BT := Lib.hid hbt
  
      have hlook : ∀ w', Below w.heap.size w w' → (Instr.lookup 69 (.map (some fl)) (.agg #[.int .u32 a, .int .i64 n, .int .u32 i]) true).run Tryz.prog w' = .ok (.tuple #[.agg #[.int .u32 fs, .int .u16 fm], .bool true]) w' := hlook
      have E := Lib.hid (show app S ⟨4, g, l, i, a, n, b, s, x⟩ = S by unfold app; simp only [hf]; rw [hbs]; simp [hbt])
      clear hf hbs hbt
      go_enter Tryz.func14, Tryz.ntmps14
      go_wp2_with fail
      generalize w.alloc (.cells #[.int .i64 4, .int .u32 g, .int .u32 l, .int .u32 i, .int .u32 a, .int .i64 n, .bool b, .int .u32 s, .int .u16 x] 41) = W at *
      have c0 := RB.at_ 0
      have c3 := RB.at_ 3
      have c4 := RB.at_ 4
      have c5 := RB.at_ 5
      go_quiet (fail)
      go_wp2_with fail
      have KB := Blk.new (W.drewN nq) 90 #[.int .u32 a, .int .i64 n, .int .u32 i]
      have hb2 := next (drewN_below hb nq) (below_new (W.drewN nq) (.cells #[.int .u32 a, .int .i64 n, .int .u32 i] 90))
      have RB2 := Blk.more (w := W.drewN nq) RB (.cells #[.int .u32 a, .int .i64 n, .int .u32 i] 90)
      rw [show (W.drewN nq).heap.size = w.heap.size + 1 from hz] at KB
      have hz2 : ((W.drewN nq).alloc (.cells #[.int .u32 a, .int .i64 n, .int .u32 i] 90)).heap.size = w.heap.size + 2 := by rw [size_new]; show W.heap.size + 1 = _; omega
      clear c0 c3 c4 c5 hb RB
      generalize (W.drewN nq).alloc (.cells #[.int .u32 a, .int .i64 n, .int .u32 i] 90) = W2 at *
      have dl := hS.head.lt
      have hW2 := hS.held hb2
      have fc : W2.cell? ⟨d, 3, none⟩ = some (.map (some fl)) := hW2.head.at_ 3
      have k0 := KB.at_ 0
      have k1 := KB.at_ 1
      have k2 := KB.at_ 2
      have q1 := hlook _ hb2.drew
      have q2 := hlook _ (next hb2 (below_new W2 (.cells #[.int .u32 0, .int .u16 0] 39))).drew
      have dW : d < W2.heap.size := by omega
      have kW : w.heap.size + 1 < W2.heap.size := by omega
      have fc3 := held (below_new W2 (.cells #[.int .u32 0, .int .u16 0] 39)) fc
      have k03 := held (below_new W2 (.cells #[.int .u32 0, .int .u16 0] 39)) k0
      have k13 := held (below_new W2 (.cells #[.int .u32 0, .int .u16 0] 39)) k1
      have k23 := held (below_new W2 (.cells #[.int .u32 0, .int .u16 0] 39)) k2
      clear hlook
      go_region
      all_goals
        have hb3 := next hb2 (below_new W2 (.cells #[.int .u32 fs, .int .u16 fm] 39)).drew
        have RB3 := (RB2.more (.cells #[.int .u32 fs, .int .u16 fm] 39)).drew
        have KB3 := (KB.more (.cells #[.int .u32 fs, .int .u16 fm] 39)).drew
        have FB3 := (Blk.new W2 39 #[.int .u32 fs, .int .u16 fm]).drew
        rw [hz2] at FB3
        clear q1 q2 fc3 k03 k13 k23 fc k0 k1 k2 RB2 KB hW2 hb2
        generalize (W2.alloc (.cells #[.int .u32 fs, .int .u16 fm] 39)).drew = W3 at *
        have c7 := RB3.at_ 7
        have c8 := RB3.at_ 8
        have f0 := FB3.at_ 0
        have f1 := FB3.at_ 1
        go_wp2_with fail
        refine (better_eq BT.out _).mono ?_
        rintro e W4 ⟨rfl, hbb⟩
        have hb4 := next hb3 hbb
        have RB4 := RB3.held hbb
        have KB4 := KB3.held hbb
        clear c7 c8 f0 f1 hb3 RB3 KB3 FB3 hbb
        go_wp2_with fail
        refine bodyPost_end (v := .tuple #[]) (results_none rfl _ _ _) rfl ⟨rfl, ?_⟩
        rw [E.out]
        exact ⟨Says.up ⟨_, _, hnm, hS.held hb4⟩, .of_below _ hb4⟩
  
end Go.Proofs.YtpgcnjoodoabhaaGreat

namespace Go.Proofs.YtpgcnjoodoabhaaGreat
open Go.RowKit Rm

theorem bit_val (x : Nat) (hx : x < 4294967296) : (bits .and .u32 (x : Int) 1 == 1) = (x % 2 == 1) := by
  rw [show (1 : Int) = ((1 : Nat) : Int) from rfl, u32_and_nat x 1 hx (by omega), nat_mask1]
  rw [Bool.eq_iff_iff]; simp only [beq_iff_eq]; omega
theorem bit_any (a i : Nat) (ha : a < 4294967296) (hi : i < 32) (w : World) : Calls Tryz.prog 52 #[.int .u32 a, .int .i64 i] w fun e w' => e = .returned (.bool (Am.bit a i)) ∧ w = w' := by
  go_enter Tryz.func52, Tryz.ntmps52
  go_wp2
  go_ret
  refine ⟨ret_bool ?_, rfl⟩
  have e : ((a : Int) / 2 ^ (31 - i)) = ((a / 2 ^ (31 - i) : Nat) : Int) := by simp [Int.natCast_ediv]
  show (bits BinOp.and IntKind.u32 ((a : Int) / 2 ^ (31 - i)) 1 == 1) = _
  rw [e, bit_val _ (Nat.lt_of_le_of_lt (Nat.div_le_self _ _) ha)]
  rfl

/-- a prefix's two numbers lie in block g -/
def Pre (w : World) (g : Nat) (a : Int) (len : Int) : Prop := w.cell? ⟨g, 0, none⟩ = some (.int .u32 a) ∧ w.cell? ⟨g, 1, none⟩ = some (.int .i64 len)
theorem pre_new (w : World) (t : TypeId) (a len : Int) : Pre (w.alloc (.cells #[.int .u32 a, .int .i64 len] t)) w.heap.size a len := ⟨(new_cell w _ t 0).trans rfl, (new_cell w _ t 1).trans rfl⟩
theorem Pre.held {w w' : World} {g : Nat} {a len : Int} (h : Pre w g a len) (hb : Below w.heap.size w w') : Pre w' g a len := ⟨Go.Proofs.YtpgcnjoodoabhaaGreat.held hb h.1, Go.Proofs.YtpgcnjoodoabhaaGreat.held hb h.2⟩

/-! ### the statement's own Right -/
set_option maxHeartbeats 400000 in
theorem refRight_any (a : Nat) (len : Int) (ha : a < 4294967296) (w : World) :
    Calls Tryz.prog 29 #[.agg #[.int .u32 a, .int .i64 len]] w fun e w' => e = .returned (.bool (Am.right a len)) ∧ Below w.heap.size w w' := by
  by_cases h1 : len < 0
  · have R := Lib.hid (Am.right_neg (a := a) h1)
    go_enter Tryz.func29, Tryz.ntmps29
    go_wp2
    go_ret
    exact ⟨ret_bool R.out.symm, below_new _ _⟩
  · by_cases h2 : 32 < len
    · have R := Lib.hid (Am.right_big (a := a) h2)
      go_enter Tryz.func29, Tryz.ntmps29
      go_wp2
      go_ret
      exact ⟨ret_bool R.out.symm, below_new _ _⟩
    · obtain ⟨n, rfl⟩ := Int.eq_ofNat_of_zero_le (by omega : 0 ≤ len)
      have hn : n ≤ 32 := by omega
      clear h1 h2
      have R := Lib.hid (Am.right_in (a := a) hn)
      go_enter Tryz.func29, Tryz.ntmps29
      go_wp2
      obtain ⟨c0, c1⟩ := pre_new w 36 a n
      have hb := below_new w (.cells #[.int .u32 a, .int .i64 n] 36)
      generalize w.alloc (.cells #[.int .u32 a, .int .i64 n] 36) = w2 at *
      have HB := Lib.hid hb
      clear hb
      go_loop [3] (fun i => ∃ k : Nat, k ≤ 32 ∧ i = .int .i64 k ∧ (a % 2 ^ (32 - n) = 0 ↔ a % 2 ^ (32 - k) = 0)) (fun i => 32 - (intOf i).toNat)
      case atStart => exact ⟨n, hn, rfl, Iff.rfl⟩
      case round =>
        obtain ⟨k, hk, rfl, hz⟩ := hrel
        have Z := Lib.hid hz
        clear hz
        by_cases hlt : k < 32
        · have E := Lib.hid (Am.zero_from a k hlt)
          go_wp2_with fail
          refine (bit_any a k ha hlt _).mono ?_
          rintro e w' ⟨rfl, rfl⟩
          cases hbit : Am.bit a k
          · have B := Lib.hid hbit
            clear hbit
            go_wp2
            go_round
            case rel => exact ⟨k + 1, by omega, by go_num, by rw [Z.out, E.out, B.out]; simp⟩
            case measure => simp [intOf]; omega
          · have B := Lib.hid hbit
            clear hbit
            go_wp2
            go_ret
            exact ⟨ret_bool (by rw [R.out]; symm; rw [decide_eq_false_iff_not, Z.out, E.out, B.out]; simp), HB.out⟩
        · obtain rfl : k = 32 := by omega
          go_wp2
          go_ret
          exact ⟨ret_bool (by rw [R.out]; symm; rw [decide_eq_true_eq, Z.out]; simp [Nat.mod_one]), HB.out⟩
theorem refRight_eq {a : Nat} {len : Int} {r : Bool} (ha : a < 4294967296) (h : Am.right a len = r) (w : World) :
    Calls Tryz.prog 29 #[.agg #[.int .u32 a, .int .i64 len]] w fun e w' => e = .returned (.bool r) ∧ Below w.heap.size w w' := h ▸ refRight_any a len ha w

set_option maxHeartbeats 1000000 in
theorem rright_any (k : Int) (g l i a : Nat) (n : Int) (o : Bool) (s m : Nat) (ha : a < 4294967296) (w : World) :
    Calls Tryz.prog 9 #[.agg #[.int .i64 k, .int .u32 g, .int .u32 l, .int .u32 i, .int .u32 a, .int .i64 n, .bool o, .int .u32 s, .int .u16 m]] w fun e w' => e = .returned (.bool (right2 ⟨k, g, l, i, a, n, o, s, m⟩)) ∧ Below w.heap.size w w' := by
  cases hr : Am.right a n
  · have R := Lib.hid hr
    have E : Hid (right2 ⟨k, g, l, i, a, n, o, s, m⟩ = false) := Lib.hid (by unfold right2; simp [hr])
    clear hr
    go_enter Tryz.func9, Tryz.ntmps9
    go_wp2_with fail
    have hb0 := below_new w (.cells #[.int .i64 k, .int .u32 g, .int .u32 l, .int .u32 i, .int .u32 a, .int .i64 n, .bool o, .int .u32 s, .int .u16 m] 41)
    refine (refRight_eq ha R.out _).mono ?_
    rintro e w1 ⟨rfl, hb⟩
    have HB := Lib.hid (next hb0 hb)
    clear hb hb0
    go_wp2_with fail
    go_ret
    exact ⟨ret_bool E.out.symm, HB.out⟩
  · have R := Lib.hid hr
    clear hr
    go_enter Tryz.func9, Tryz.ntmps9
    go_wp2_with fail
    refine (refRight_eq ha R.out _).mono ?_
    rintro e w1 ⟨rfl, hb⟩
    have hb0 := below_new w (.cells #[.int .i64 k, .int .u32 g, .int .u32 l, .int .u32 i, .int .u32 a, .int .i64 n, .bool o, .int .u32 s, .int .u16 m] 41)
    have C := (Blk.new w 41 #[.int .i64 k, .int .u32 g, .int .u32 l, .int .u32 i, .int .u32 a, .int .i64 n, .bool o, .int .u32 s, .int .u16 m]).held hb
    have HB := Lib.hid (next hb0 hb)
    clear hb hb0
    have c0 := C.at_ 0
    have c3 := C.at_ 3
    have c4 := C.at_ 4
    have c5 := C.at_ 5
    have c6 := C.at_ 6
    have c7 := C.at_ 7
    have c8 := C.at_ 8
    clear C
    simp at c0 c3 c4 c5 c6 c7 c8
    go_wp2_with fail
    all_goals
      clear c0 c3 c4 c5 c6 c7 c8
      have R' := R.out
      go_ret
      refine ⟨ret_bool ?_, HB.out⟩
      clear HB R
      simp_all [right2]
    all_goals first | (intros; omega) | (rw [Bool.eq_iff_iff]; simp; omega)

theorem rright_eq {k : Int} {g l i a : Nat} {n : Int} {o : Bool} {s m : Nat} {r : Bool} (ha : a < 4294967296) (h : right2 ⟨k, g, l, i, a, n, o, s, m⟩ = r) (w : World) :
    Calls Tryz.prog 9 #[.agg #[.int .i64 k, .int .u32 g, .int .u32 l, .int .u32 i, .int .u32 a, .int .i64 n, .bool o, .int .u32 s, .int .u16 m]] w fun e w' => e = .returned (.bool r) ∧ Below w.heap.size w w' := h ▸ rright_any k g l i a n o s m ha w
end Go.Proofs.YtpgcnjoodoabhaaGreat

namespace Go.Proofs.YtpgcnjoodoabhaaGreat
open Go.RowKit Rm

set_option maxHeartbeats 1000000 in
theorem mapply_other {w : World} {d o fl id N : Nat} {S : Sm} (h : Says w d o fl id N S) (k : Int) (h2 : k ≠ 2) (h3 : k ≠ 3) (h4 : k ≠ 4) (g l i a : Nat) (n : Int) (b : Bool) (s x : Nat) :
    Calls Tryz.prog 14 #[.pointer (some ⟨d, 0, none⟩), .agg #[.int .i64 k, .int .u32 g, .int .u32 l, .int .u32 i, .int .u32 a, .int .i64 n, .bool b, .int .u32 s, .int .u16 x]] w fun e w' => e = .returned (.tuple #[]) ∧
      Says w' d o fl id (N + 1) (app S ⟨k, g, l, i, a, n, b, s, x⟩) ∧ Turn [d, o, fl] w w' := by
  obtain ⟨nn, m, hnm, hS⟩ := h
  have RB := Blk.new w 41 #[.int .i64 k, .int .u32 g, .int .u32 l, .int .u32 i, .int .u32 a, .int .i64 n, .bool b, .int .u32 s, .int .u16 x]
  have hb := below_new w (.cells #[.int .i64 k, .int .u32 g, .int .u32 l, .int .u32 i, .int .u32 a, .int .i64 n, .bool b, .int .u32 s, .int .u16 x] 41)
  have E := Lib.hid (show app S ⟨k, g, l, i, a, n, b, s, x⟩ = S by unfold app; simp [h2, h3, h4])
  have d2 : (k == 2) = false := beq_eq_false_iff_ne.2 h2
  have d3 : (k == 3) = false := beq_eq_false_iff_ne.2 h3
  have d4 : (k == 4) = false := beq_eq_false_iff_ne.2 h4
  clear h2 h3 h4
  go_enter Tryz.func14, Tryz.ntmps14
  go_wp2_with fail
  generalize w.alloc (.cells #[.int .i64 k, .int .u32 g, .int .u32 l, .int .u32 i, .int .u32 a, .int .i64 n, .bool b, .int .u32 s, .int .u16 x] 41) = W at *
  have c0 := RB.at_ 0
  have ST := Lib.hid (And.intro (hS.held hb) hb)
  clear hS hb RB
  go_quiet (fail)
  go_wp2_with fail
  refine bodyPost_end (v := .tuple #[]) (results_none rfl _ _ _) rfl ⟨rfl, ?_⟩
  rw [E.out]
  exact ⟨Says.up ⟨_, _, hnm, ST.out.1.drewN _⟩, .of_below _ (drewN_below ST.out.2 _)⟩

/-- a record's nine values -/
def rcl (r : Rc) : Array Value := #[.int .i64 r.kind, .int .u32 r.gen, .int .u32 r.lsn, .int .u32 r.id, .int .u32 r.a, .int .i64 r.len, .bool r.on, .int .u32 r.seq, .int .u16 r.met]
theorem mapply_any {w : World} {d o fl id N : Nat} {S : Sm} (h : Says w d o fl id N S) (hN : N < 100000) (r : Rc) (hr : r.Fits) :
    Calls Tryz.prog 14 #[.pointer (some ⟨d, 0, none⟩), .agg (rcl r)] w fun e w' => e = .returned (.tuple #[]) ∧
      Says w' d o fl id (N + 1) (app S r) ∧ Turn [d, o, fl] w w' := by
  obtain ⟨k, g, l, i, a, n, b, s, x⟩ := r
  by_cases h2 : k = 2
  · subst h2
    exact mapply_own h hN g l i a n b s x ⟨hr.a, hr.n1, hr.n2⟩
  by_cases h3 : k = 3
  · subst h3
    exact mapply_lease h g l i a n b s x hr.seq
  by_cases h4 : k = 4
  · subst h4
    exact mapply_floor h hN g l i a n b s x ⟨hr.a, ⟨hr.n1, hr.n2⟩, hr.id⟩ hr.seq hr.met
  · exact mapply_other h k h2 h3 h4 g l i a n b s x

/-! ### a list of records -/
/-- the records rs lie one behind the other from ⟨b, off⟩ on -/
def Recs (w : World) (b off : Nat) (rs : List Rc) : Prop := ∀ i (h : i < rs.length), ∀ j, j < 9 → w.cell? ⟨b, off + (9 * i + j), none⟩ = (rcl rs[i])[j]?
theorem Recs.of_block {w w' : World} {b off : Nat} {rs : List Rc} (h : Recs w b off rs) (hb : w'.heap[b]? = w.heap[b]?) : Recs w' b off rs := fun i hi j hj => by rw [World.cell?_of_block hb]; exact h i hi j hj
theorem Recs.held {w w' : World} {b off : Nat} {rs : List Rc} (h : Recs w b off rs) (hb : Below w.heap.size w w') : Recs w' b off rs := fun i hi j hj => by
  have h1 := h i hi j hj
  have hj' : j < (rcl rs[i]).size := hj
  rw [Array.getElem?_eq_getElem hj'] at h1 ⊢
  exact Go.Proofs.YtpgcnjoodoabhaaGreat.held hb h1

theorem rec_under : ∃ d, Tryz.prog.underlying 41 = some d ∧ d.isRow = true := ⟨_, Tryz.underlying41, rfl⟩
theorem rec_size (r : Rc) : (Tryz.prog.info? 41).map (·.size) = some (rcl r).toList.length := by
  show _ = some 9
  kernel_rfl
theorem Blk.rec_range {w : World} {g : Nat} {t : TypeId} {C : Array Value} (h : Blk t w g C) : w.rangeAt g 0 C.toList := fun j v hv => by
  rw [Nat.zero_add, h.at_ j]
  simpa using hv
theorem Recs.range {w : World} {b off : Nat} {rs : List Rc} (h : Recs w b off rs) {k : Nat} (hk : k < rs.length) : w.rangeAt b (off + 9 * k) (rcl rs[k]).toList := fun j v hv => by
  have hj : j < 9 := by
    rcases Nat.lt_or_ge j 9 with h' | h'
    · exact h'
    · rw [List.getElem?_eq_none (by exact h')] at hv; cases hv
  rw [show off + 9 * k + j = off + (9 * k + j) by omega, h k hk j hj]
  simpa using hv
theorem rright_rc {r : Rc} {q : Bool} (ha : r.a < 4294967296) (h : right2 r = q) (w : World) :
    Calls Tryz.prog 9 #[.agg (rcl r)] w fun e w' => e = .returned (.bool q) ∧ Below w.heap.size w w' := by
  obtain ⟨k, g, l, i, a, n, o, s, m⟩ := r
  exact rright_eq ha h w

theorem Recs.cells {w : World} {b off : Nat} {rs : List Rc} (h : Recs w b off rs) {k : Nat} (hk : k < rs.length) {kd : Int} {g l i a : Nat} {n : Int} {o : Bool} {s m : Nat} (e : rs[k] = ⟨kd, g, l, i, a, n, o, s, m⟩) :
    w.cell? ⟨b, off + k * 9, none⟩ = some (.int .i64 kd) ∧ w.cell? ⟨b, off + k * 9 + 1, none⟩ = some (.int .u32 g) ∧ w.cell? ⟨b, off + k * 9 + 2, none⟩ = some (.int .u32 l) ∧ w.cell? ⟨b, off + k * 9 + 3, none⟩ = some (.int .u32 i) ∧ w.cell? ⟨b, off + k * 9 + 4, none⟩ = some (.int .u32 a) ∧ w.cell? ⟨b, off + k * 9 + 5, none⟩ = some (.int .i64 n) ∧ w.cell? ⟨b, off + k * 9 + 6, none⟩ = some (.bool o) ∧ w.cell? ⟨b, off + k * 9 + 7, none⟩ = some (.int .u32 s) ∧ w.cell? ⟨b, off + k * 9 + 8, none⟩ = some (.int .u16 m) :=
  ⟨(by rw [show off + k * 9 = off + (9 * k + 0) by omega, h k hk 0 (by omega), e]; rfl), (by rw [show off + k * 9 + 1 = off + (9 * k + 1) by omega, h k hk 1 (by omega), e]; rfl), (by rw [show off + k * 9 + 2 = off + (9 * k + 2) by omega, h k hk 2 (by omega), e]; rfl), (by rw [show off + k * 9 + 3 = off + (9 * k + 3) by omega, h k hk 3 (by omega), e]; rfl), (by rw [show off + k * 9 + 4 = off + (9 * k + 4) by omega, h k hk 4 (by omega), e]; rfl), (by rw [show off + k * 9 + 5 = off + (9 * k + 5) by omega, h k hk 5 (by omega), e]; rfl), (by rw [show off + k * 9 + 6 = off + (9 * k + 6) by omega, h k hk 6 (by omega), e]; rfl), (by rw [show off + k * 9 + 7 = off + (9 * k + 7) by omega, h k hk 7 (by omega), e]; rfl), (by rw [show off + k * 9 + 8 = off + (9 * k + 8) by omega, h k hk 8 (by omega), e]; rfl)⟩

def fewR (rs : List Rc) : Bool := rs.all right2 && decide (rs.length ≤ 60)
end Go.Proofs.YtpgcnjoodoabhaaGreat

namespace Go.Proofs.YtpgcnjoodoabhaaGreat
open Go.ChangeShapes Go.WideShapes Go.ChangeAt Go.RowKit Go.Joins Go.Deep Rm
set_option maxRecDepth 100000

theorem row_own : ownKnob Tryz.prog.godebug = none := by kernel_rfl
theorem row_laidOut : laidOutB Tryz.prog = true := by kernel_rfl
theorem cells_rec : Tryz.prog.cellsOf 41 = 9 := by kernel_rfl
theorem cells_kind : Tryz.prog.cellsOf 34 = 1 := by kernel_rfl
theorem cells_bool : Tryz.prog.cellsOf 4 = 1 := by kernel_rfl
theorem cells_dist : Tryz.prog.cellsOf 39 = 2 := by kernel_rfl
theorem cells_u16 : Tryz.prog.cellsOf 37 = 1 := by kernel_rfl
theorem row_i64 {z : Int} (h : (Lit.int .i64 z).wf = true) : -9223372036854775808 ≤ z ∧ z ≤ 9223372036854775807 := by
  have h1 : IntKind.i64.min = -9223372036854775808 := rfl
  have h2 : IntKind.i64.max = 9223372036854775807 := rfl
  simp only [Lit.wf, Bool.and_eq_true, decide_eq_true_eq] at h
  omega
theorem row_u16 {z : Int} (h : (Lit.int .u16 z).wf = true) : ∃ n : Nat, z = n ∧ n < 65536 := by
  have h1 : IntKind.u16.min = 0 := rfl
  have h2 : IntKind.u16.max = 65535 := rfl
  simp only [Lit.wf, Bool.and_eq_true, decide_eq_true_eq] at h
  exact ⟨z.toNat, by omega, by omega⟩
theorem row_u32 {z : Int} (h : (Lit.int .u32 z).wf = true) : ∃ n : Nat, z = n ∧ n < 4294967296 := by
  have h1 : IntKind.u32.min = 0 := rfl
  have h2 : IntKind.u32.max = 4294967295 := rfl
  simp only [Lit.wf, Bool.and_eq_true, decide_eq_true_eq] at h
  exact ⟨z.toNat, by omega, by omega⟩
theorem list9 {α : Type} {l : List α} (h : l.length = 9) : ∃ a b c d e f g i j, l = [a, b, c, d, e, f, g, i, j] := by
  match l, h with
  | [a, b, c, d, e, f, g, i, j], _ => exact ⟨a, b, c, d, e, f, g, i, j, rfl⟩

section
variable {H : Type} {enc : TypeId × Value → H} {w : World} {base : Nat} {spare : Nat → Bool} {hld : Bool}
theorem trod_bool {fuel : Nat} {c : Value} {y : DataW H × List MemPlace} (h : DataW.trod enc Tryz.prog w base spare hld fuel 4 [c] = some y) : ∃ o : Bool, c = .bool o := by
  cases fuel with
  | zero => simp [DataW.trod] at h
  | succ fuel =>
    unfold DataW.trod at h
    rw [Tryz.underlying4] at h
    cases c with
    | bool o => exact ⟨o, rfl⟩
    | _ => simp at h
theorem trod_pre {fuel : Nat} {c c' : Value} {y : DataW H × List MemPlace} (h : DataW.trod enc Tryz.prog w base spare hld fuel 36 [c, c'] = some y) :
    ∃ a n : Int, c = .int .u32 a ∧ c' = .int .i64 n ∧ (Lit.int .u32 a).wf = true ∧ (Lit.int .i64 n).wf = true := by
  cases fuel with
  | zero => simp [DataW.trod] at h
  | succ fuel =>
    simp only [DataW.trod, Tryz.underlying36, cells_pre] at h
    simp [cells_u32, cells_int, Option.bind_eq_some_iff] at h
    obtain ⟨_, _, h0, _, ⟨_, _, h1, _⟩, _⟩ := h
    obtain ⟨n0, e0, -, w0⟩ := DataW.trod_int Tryz.underlying31 h0
    obtain ⟨n1, e1, -, w1⟩ := DataW.trod_int Tryz.underlying3 h1
    simp only [List.cons.injEq, and_true] at e0 e1
    exact ⟨n0, n1, e0, e1, w0, w1⟩
theorem trod_dist {fuel : Nat} {c c' : Value} {y : DataW H × List MemPlace} (h : DataW.trod enc Tryz.prog w base spare hld fuel 39 [c, c'] = some y) :
    ∃ s m : Int, c = .int .u32 s ∧ c' = .int .u16 m ∧ (Lit.int .u32 s).wf = true ∧ (Lit.int .u16 m).wf = true := by
  cases fuel with
  | zero => simp [DataW.trod] at h
  | succ fuel =>
    simp only [DataW.trod, Tryz.underlying39, cells_dist] at h
    simp [cells_u32, cells_u16, Option.bind_eq_some_iff] at h
    obtain ⟨_, _, h0, _, ⟨_, _, h1, _⟩, _⟩ := h
    obtain ⟨n0, e0, -, w0⟩ := DataW.trod_int Tryz.underlying31 h0
    obtain ⟨n1, e1, -, w1⟩ := DataW.trod_int Tryz.underlying37 h1
    simp only [List.cons.injEq, and_true] at e0 e1
    exact ⟨n0, n1, e0, e1, w0, w1⟩
theorem trod_rec {fuel : Nat} {cs : List Value} {y : DataW H × List MemPlace} (h : DataW.trod enc Tryz.prog w base spare hld fuel 41 cs = some y) :
    ∃ (k : Int) (g l i a : Nat) (n : Int) (o : Bool) (s m : Nat), cs = (rcl ⟨k, g, l, i, a, n, o, s, m⟩).toList ∧ (⟨k, g, l, i, a, n, o, s, m⟩ : Rc).Fits := by
  cases fuel with
  | zero => simp [DataW.trod] at h
  | succ fuel =>
    simp only [DataW.trod, Tryz.underlying41, cells_rec] at h
    split at h
    case isFalse => cases h
    rename_i hlen
    obtain ⟨c0, c1, c2, c3, c4, c5, c6, c7, c8, rfl⟩ := list9 hlen
    simp [cells_kind, cells_u32, cells_pre, cells_bool, cells_dist, Option.bind_eq_some_iff] at h
    obtain ⟨_, _, h0, _, ⟨_, _, h1, _, ⟨_, _, h2, _, ⟨_, _, h3, _, ⟨_, _, h4, _, ⟨_, _, h6, _, ⟨_, _, h7, _⟩, _⟩, _⟩, _⟩, _⟩, _⟩, _⟩ := h
    obtain ⟨n0, e0, -, w0⟩ := DataW.trod_int Tryz.underlying34 h0
    obtain ⟨n1, e1, -, w1⟩ := DataW.trod_int Tryz.underlying31 h1
    obtain ⟨n2, e2, -, w2⟩ := DataW.trod_int Tryz.underlying31 h2
    obtain ⟨n3, e3, -, w3⟩ := DataW.trod_int Tryz.underlying31 h3
    obtain ⟨n4, n5, e4, e5, w4, w5⟩ := trod_pre h4
    obtain ⟨o, e6⟩ := trod_bool h6
    obtain ⟨n7, n8, e7, e8, w7, w8⟩ := trod_dist h7
    simp only [List.cons.injEq, and_true] at e0 e1 e2 e3
    subst e0 e1 e2 e3 e4 e5 e6 e7 e8
    obtain ⟨g, rfl, hg⟩ := row_u32 w1
    obtain ⟨l, rfl, hl⟩ := row_u32 w2
    obtain ⟨i, rfl, hi⟩ := row_u32 w3
    obtain ⟨a, rfl, ha⟩ := row_u32 w4
    obtain ⟨s, rfl, hs⟩ := row_u32 w7
    obtain ⟨m, rfl, hm⟩ := row_u16 w8
    exact ⟨n0, g, l, i, a, n5, o, s, m, rfl, ⟨(row_i64 w0).1, (row_i64 w0).2, hg, hl, hi, ha, (row_i64 w5).1, (row_i64 w5).2, hs, hm⟩⟩
theorem trod_key {fuel : Nat} {c0 c1 c2 : Value} {y : DataW H × List MemPlace} (h : DataW.trod enc Tryz.prog w base spare hld fuel 90 [c0, c1, c2] = some y) :
    ∃ (a : Nat) (n : Int) (i : Nat), c0 = .int .u32 a ∧ c1 = .int .i64 n ∧ c2 = .int .u32 i ∧ Ky.ok ⟨a, n, i⟩ := by
  cases fuel with
  | zero => simp [DataW.trod] at h
  | succ fuel =>
    simp only [DataW.trod, Tryz.underlying90, cells_key] at h
    simp [cells_pre, cells_u32, Option.bind_eq_some_iff] at h
    obtain ⟨_, _, h0, _, ⟨_, _, h1, _⟩, _⟩ := h
    obtain ⟨n0, n1, e0, e1, w0, w1⟩ := trod_pre h0
    obtain ⟨n2, e2, -, w2⟩ := DataW.trod_int Tryz.underlying31 h1
    simp only [List.cons.injEq, and_true] at e2
    obtain ⟨a, rfl, ha⟩ := row_u32 w0
    obtain ⟨i, rfl, hi⟩ := row_u32 w2
    exact ⟨a, n1, i, e0, e1, e2, ha, row_i64 w1, hi⟩
theorem open_key {b0 : Nat} {v : Value} {d : DataW H} {p : List MemPlace} (hv : Value.okWide Tryz.prog w .any b0 90 v) (h : DataW.Trod enc Tryz.prog w base spare hld 90 v d p) :
    ∃ (a : Nat) (n : Int) (i : Nat), v = .agg #[.int .u32 a, .int .i64 n, .int .u32 i] ∧ Ky.ok ⟨a, n, i⟩ := by
  obtain ⟨cs, rfl, hsz⟩ := okWide_struct Tryz.underlying90 hv
  obtain ⟨fuel, hf⟩ := h
  rw [cells_key] at hsz
  have hl : cs.toList.length = 3 := by simpa using hsz
  match hc : cs.toList, hl with
  | [c0, c1, c2], _ =>
    have hf2 : DataW.trod enc Tryz.prog w base spare hld fuel 90 [c0, c1, c2] = some (d, p) := by rw [← hc]; simpa [Value.cells] using hf
    obtain ⟨a, n, i, rfl, rfl, rfl, hk⟩ := trod_key hf2
    refine ⟨a, n, i, ?_, hk⟩
    rw [← Array.toList_inj.1 (show cs.toList = (#[.int .u32 (a : Int), .int .i64 n, .int .u32 (i : Int)] : Array Value).toList from hc)]
theorem open_dist {b0 : Nat} {v : Value} {d : DataW H} {p : List MemPlace} (hv : Value.okWide Tryz.prog w .any b0 39 v) (h : DataW.Trod enc Tryz.prog w base spare hld 39 v d p) :
    ∃ (s m : Nat), v = .agg #[.int .u32 s, .int .u16 m] ∧ s < 4294967296 ∧ m < 65536 := by
  obtain ⟨cs, rfl, hsz⟩ := okWide_struct Tryz.underlying39 hv
  obtain ⟨fuel, hf⟩ := h
  rw [cells_dist] at hsz
  have hl : cs.toList.length = 2 := by simpa using hsz
  match hc : cs.toList, hl with
  | [c0, c1], _ =>
    have hf2 : DataW.trod enc Tryz.prog w base spare hld fuel 39 [c0, c1] = some (d, p) := by rw [← hc]; simpa [Value.cells] using hf
    obtain ⟨z0, z1, rfl, rfl, w0, w1⟩ := trod_dist hf2
    obtain ⟨s, rfl, hs⟩ := row_u32 w0
    obtain ⟨m, rfl, hm⟩ := row_u16 w1
    refine ⟨s, m, ?_, hs, hm⟩
    rw [← Array.toList_inj.1 (show cs.toList = (#[.int .u32 (s : Int), .int .u16 (m : Int)] : Array Value).toList from hc)]
theorem open_recs {fuel : Nat} {A : Option Addr} {len cap : Nat} {x : DataW H × List MemPlace} (h : DataW.trod enc Tryz.prog w base (fun _ => true) hld fuel 22 (Value.slice A len cap).cells.toList = some x) :
    len ≤ cap ∧ len ≤ maxLen ∧ (0 < len → ∃ b off, A = some ⟨b, off, none⟩) ∧ ∃ rs : List Rc, rs.length = len ∧ (∀ r ∈ rs, r.Fits) ∧ ∀ b off, A = some ⟨b, off, none⟩ → Recs w b off rs := by
  rcases open_slice Tryz.underlying22 h with ⟨hcs, -⟩ | ⟨a, len', cap', m, n, D, Pl, hcs, _, hl, hm, hmm, -, hi⟩
  · simp [Value.cells] at hcs
    obtain ⟨rfl, rfl, rfl⟩ := hcs
    exact ⟨by omega, by unfold maxLen; omega, fun h => absurd h (by omega), [], rfl, by simp, fun b off e => by cases e⟩
  · simp [Value.cells] at hcs
    obtain ⟨rfl, rfl, rfl⟩ := hcs
    simp only [if_true] at hmm
    have hp : ∀ i : Nat, ∃ r : Rc, i < m → r.Fits ∧ ∀ j, j < 9 → w.cell? (a.add (i * 9 + j)) = (rcl r)[j]? := fun i => by
      by_cases him : i < m
      · obtain ⟨cs', hc, ht⟩ := hi i him
        rw [cells_rec] at hc
        obtain ⟨_, hcl, hat⟩ := World.cells?_some hc
        obtain ⟨k, g, l, i', ra, rn, o, s, mt, rfl, hfit⟩ := trod_rec ht
        refine ⟨⟨k, g, l, i', ra, rn, o, s, mt⟩, fun _ => ⟨hfit, fun j hj => ?_⟩⟩
        have h1 := hat j (by simpa [rcl] using hj)
        rw [Deep.add_add] at h1
        rw [h1]
        simp
      · exact ⟨zero, fun h => absurd h him⟩
    obtain ⟨f, hf⟩ := Classical.axiomOfChoice hp
    refine ⟨hl, by omega, fun h0 => ?_, (List.range len).map f, by simp, fun r hr => ?_, fun b off e i hi' j hj => ?_⟩
    · obtain ⟨b, off, spot⟩ := a
      have h1 := (hf 0 (by omega)).2 0 (by omega)
      have hspot : spot = none := by simpa [Addr.add] using World.cell?_spot (h1.trans rfl)
      exact ⟨b, off, by rw [hspot]⟩
    · obtain ⟨i, hi', rfl⟩ := List.mem_map.1 hr
      exact (hf i (by have := List.mem_range.1 hi'; omega)).1
    · cases e
      have hil : i < len := by simpa using hi'
      have h1 := (hf i (by omega)).2 j hj
      simp only [List.getElem_map, List.getElem_range]
      rw [← h1]
      rw [show (⟨b, off, none⟩ : Addr).add (i * 9 + j) = ⟨b, off + (9 * i + j), none⟩ by
        rw [show i * 9 + j = 9 * i + j by omega]
        generalize 9 * i + j = q
        by_cases hq : q = 0
        · subst hq; rfl
        · simp [Addr.add, hq]]
end
end Go.Proofs.YtpgcnjoodoabhaaGreat

