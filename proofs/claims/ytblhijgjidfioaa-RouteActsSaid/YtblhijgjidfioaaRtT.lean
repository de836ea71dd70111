/-
  Package route's table: what it holds; New, Len, Get, Set.
-/
import Derived.Test.YtblhijgjidfioaaRtM
import Derived.Test.YtblhijgjidfioaaRtK
import Derived.WalkSpells
namespace Go.Proofs.Ytblhijgjidfioaa
open Go.RowKit Go.Maps

/-- a way -/
structure Rt where
  fr : Int
  id : Nat
  seq : Nat
  met : Nat
  exp : Int
deriving DecidableEq
def Rt.zero : Rt := ⟨0, 0, 0, 0, 0⟩
instance : Inhabited Rt := ⟨Rt.zero⟩
structure Rt.Fits (r : Rt) : Prop where
  f : -9223372036854775808 ≤ r.fr ∧ r.fr ≤ 9223372036854775807
  id : r.id < 4294967296
  seq : r.seq < 4294967296
  met : r.met < 65536
  e : -9223372036854775808 ≤ r.exp ∧ r.exp ≤ 9223372036854775807
def rV (r : Rt) : Value := .agg #[.int .i64 r.fr, .int .u32 r.id, .int .u32 r.seq, .int .u16 r.met, .int .i64 r.exp]
theorem rV_inj {a b : Rt} (h : rV a = rV b) : a = b := by
  cases a
  cases b
  simp [rV] at h
  obtain ⟨rfl, h2, h3, h4, rfl⟩ := h
  rw [Int.ofNat_inj.1 h2, Int.ofNat_inj.1 h3, Int.ofNat_inj.1 h4]
abbrev Ways := Rk → Option Rt
def vals (f : Ways) : Rk → Option Value := fun k => (f k).map rV
/-- the table in block t: its map in o -/
structure Tb (w : World) (t : Nat) (o : Option Nat) (n : Nat) (f : Ways) : Prop where
  head : Blk 75 w t #[.map o]
  map : Mo rkE w o n (vals f)
theorem Tb.ne {w : World} {t n : Nat} {o : Option Nat} {f : Ways} (h : Tb w t o n f) {b : Nat} (hb : o = some b) : t ≠ b := fun e => by
  subst e
  obtain ⟨es, cl, h2⟩ := h.map.isMap hb
  have := h.head
  unfold Blk at this
  rw [h2] at this
  cases this
theorem Tb.held {w w' : World} {t n : Nat} {o : Option Nat} {f : Ways} (h : Tb w t o n f) (hb : Below w.heap.size w w') : Tb w' t o n f :=
  ⟨h.head.held hb, h.map.of_block fun b e => hb.block b (h.map.lt e)⟩
theorem Tb.turn {w w' : World} {t n : Nat} {o : Option Nat} {f : Ways} {L : List Nat} (h : Tb w t o n f) (ht : Turn L w w') (h1 : t ∉ L) (h2 : ∀ b, o = some b → b ∉ L) : Tb w' t o n f :=
  ⟨h.head.turn ht h1, h.map.of_block fun b e => ht.block b (h.map.lt e) (h2 b e)⟩
def putR (f : Ways) (k : Rk) (r : Rt) : Ways := fun z => if z = k then some r else f z
def cutR (f : Ways) (k : Rk) : Ways := fun z => if z = k then none else f z
theorem vals_put (f : Ways) (k : Rk) (r : Rt) : vals (putR f k r) = upd (vals f) k (rV r) := by
  funext z
  unfold vals putR upd
  split <;> rfl
theorem vals_cut (f : Ways) (k : Rk) : vals (cutR f k) = cut (vals f) k := by
  funext z
  unfold vals cutR cut
  split <;> rfl
theorem vals_some (f : Ways) (k : Rk) : (vals f k).isSome = (f k).isSome := by unfold vals; cases f k <;> rfl
theorem zero_route (w : World) : (zeroValue 37).run Try.prog w = .ok (rV Rt.zero) w := by kernel_rfl

theorem rt_new (w : World) : Calls Try.prog 8 #[] w fun e w' => e = .returned (.pointer (some ⟨w.heap.size, 0, none⟩)) ∧ Tb w' w.heap.size none 0 (fun _ => none) ∧ w' = w.alloc (.cells #[.map none] 75) := by
  go_enter Try.func8, Try.ntmps8
  go_wp2
  go_ret
  exact ⟨rfl, ⟨Blk.new _ _ _, rfl, fun _ => rfl⟩, rfl⟩

theorem rt_len {w : World} {t n : Nat} {o : Option Nat} {f : Ways} (h : Tb w t o n f) : Calls Try.prog 13 #[.pointer (some ⟨t, 0, none⟩)] w fun e w' => e = .returned (.int .i64 (n : Int)) ∧ w = w' := by
  have c0 := h.head.at_ 0
  have hl : ∀ ty, (Builtin.len_ #[73] ty #[.map o]).run Try.prog w = .ok (.int .i64 (n : Int)) w := fun ty => by
    cases o with
    | none =>
      obtain ⟨h0, -⟩ := h.map
      subst h0
      exact Maps.len_nil (k := 77) (e := 37) (by kernel_rfl) ty
    | some b => exact Mk.len (e := 37) h.map (by kernel_rfl) ty
  clear h
  go_enter Try.func13, Try.ntmps13
  go_wp2
  go_ret
  exact ⟨rfl, rfl⟩

set_option maxHeartbeats 1000000 in
theorem rt_get {w : World} {t n : Nat} {o : Option Nat} {f : Ways} (h : Tb w t o n f) (a : Nat) (len fr : Int) (hk : Rk.ok ⟨a, len, fr⟩) {r : Rt} {ok : Bool} (hr : (f ⟨a, len, fr⟩).getD Rt.zero = r) (ho : (f ⟨a, len, fr⟩).isSome = ok) :
    Calls Try.prog 14 #[.pointer (some ⟨t, 0, none⟩), .agg #[.int .u32 a, .int .i64 len], .int .i64 fr] w fun e w' => e = .returned (.tuple #[rV r, .bool ok]) ∧ Below w.heap.size w w' := by
  obtain ⟨fr', id, seq, met, exp⟩ := r
  have hlook : ∀ w', Below w.heap.size w w' → (Instr.lookup 73 (.map o) (.agg #[.int .u32 a, .int .i64 len, .int .i64 fr]) true).run Try.prog w' = .ok (.tuple #[.agg #[.int .i64 fr', .int .u32 id, .int .u32 seq, .int .u16 met, .int .i64 exp], .bool ok]) w' := fun w' hb => by
    have h2 := ((h.held hb).map).look_ok (t := 73) (e := 37) (by kernel_rfl) zero_route (i := ⟨a, len, fr⟩) hk
    rw [vals_some, ho, show (vals f ⟨a, len, fr⟩).getD (rV Rt.zero) = rV ((f ⟨a, len, fr⟩).getD Rt.zero) by unfold vals; cases f ⟨a, len, fr⟩ <;> rfl, hr] at h2
    exact h2
  have c0 := h.head.at_ 0
  have tl := h.head.lt
  clear h hr ho
  go_enter Try.func14, Try.ntmps14
  go_wp2_with fail
  have KB := (Blk.new w 32 #[.int .u32 a, .int .i64 len]).more (.cells #[.int .i64 0, .int .u32 0, .int .u32 0, .int .u16 0, .int .i64 0] 37)
  have RB := Blk.new (w.alloc (.cells #[.int .u32 a, .int .i64 len] 32)) 37 #[.int .i64 0, .int .u32 0, .int .u32 0, .int .u16 0, .int .i64 0]
  have hb2 := next (below_new w (.cells #[.int .u32 a, .int .i64 len] 32)) (below_new _ (.cells #[.int .i64 0, .int .u32 0, .int .u32 0, .int .u16 0, .int .i64 0] 37))
  have hz : ((w.alloc (.cells #[.int .u32 a, .int .i64 len] 32)).alloc (.cells #[.int .i64 0, .int .u32 0, .int .u32 0, .int .u16 0, .int .i64 0] 37)).heap.size = w.heap.size + 2 := by rw [size_new, size_new]
  rw [size_new] at RB
  generalize (w.alloc (.cells #[.int .u32 a, .int .i64 len] 32)).alloc (.cells #[.int .i64 0, .int .u32 0, .int .u32 0, .int .u16 0, .int .i64 0] 37) = W at *
  have fc := held hb2 c0
  have k0 := KB.at_ 0
  have k1 := KB.at_ 1
  have dW : t < W.heap.size := by omega
  have kW : w.heap.size < W.heap.size := by omega
  have fc3 := held (below_new W (.cells #[.int .i64 0, .int .u32 0, .int .u32 0, .int .u16 0, .int .i64 0] 37)) fc
  have k03 := held (below_new W (.cells #[.int .i64 0, .int .u32 0, .int .u32 0, .int .u16 0, .int .i64 0] 37)) k0
  have k13 := held (below_new W (.cells #[.int .i64 0, .int .u32 0, .int .u32 0, .int .u16 0, .int .i64 0] 37)) k1
  have q1 := hlook _ hb2.drew
  have q2 := hlook _ (next hb2 (below_new W (.cells #[.int .i64 0, .int .u32 0, .int .u32 0, .int .u16 0, .int .i64 0] 37))).drew
  have HR := Lib.hid RB
  clear hlook c0 RB
  go_region
  all_goals
    have hb4 := next hb2 (below_new W (.cells #[.int .i64 fr', .int .u32 id, .int .u32 seq, .int .u16 met, .int .i64 exp] 37)).drew
    have R2 := (HR.out.more (.cells #[.int .i64 fr', .int .u32 id, .int .u32 seq, .int .u16 met, .int .i64 exp] 37)).drew
    have N2 := (Blk.new W 37 #[.int .i64 fr', .int .u32 id, .int .u32 seq, .int .u16 met, .int .i64 exp]).drew
    rw [hz] at N2
    have hsV : w.heap.size + 1 < (W.alloc (.cells #[.int .i64 fr', .int .u32 id, .int .u32 seq, .int .u16 met, .int .i64 exp] 37)).drew.heap.size := R2.lt
    clear q1 q2 fc3 k03 k13 fc k0 k1 KB hb2
    generalize (W.alloc (.cells #[.int .i64 fr', .int .u32 id, .int .u32 seq, .int .u16 met, .int .i64 exp] 37)).drew = V at *
    have r0 := R2.at_ 0
    have r1 := R2.at_ 1
    have r2 := R2.at_ 2
    have r3 := R2.at_ 3
    have r4 := R2.at_ 4
    have g0 := R2.free 0
    have g1 := R2.free 1
    have g2 := R2.free 2
    have g3 := R2.free 3
    have g4 := R2.free 4
    have n0 := N2.at_ 0
    have n1 := N2.at_ 1
    have n2 := N2.at_ 2
    have n3 := N2.at_ 3
    have n4 := N2.at_ 4
    go_wp2_with fail
    have R4 := ((((R2.store 0 (.int .i64 fr')).store 1 (.int .u32 id)).store 2 (.int .u32 seq)).store 3 (.int .u16 met)).store 4 (.int .i64 exp)
    have hb5 : Below w.heap.size w (((((V.setCell ⟨w.heap.size + 1, 0, none⟩ (.int .i64 fr')).setCell ⟨w.heap.size + 1, 1, none⟩ (.int .u32 id)).setCell ⟨w.heap.size + 1, 2, none⟩ (.int .u32 seq)).setCell ⟨w.heap.size + 1, 3, none⟩ (.int .u16 met)).setCell ⟨w.heap.size + 1, 4, none⟩ (.int .i64 exp)) :=
      ((((hb4.setCell (by simp) _).setCell (by simp) _).setCell (by simp) _).setCell (by simp) _).setCell (by simp) _
    have q0 := R4.at_ 0
    have q1 := R4.at_ 1
    have q2 := R4.at_ 2
    have q3 := R4.at_ 3
    have q4 := R4.at_ 4
    refine bodyPost_ret (v := .tuple #[rV ⟨fr', id, seq, met, exp⟩, .bool ok]) ?_ rfl ⟨rfl, hb5⟩
    generalize ((((V.setCell ⟨w.heap.size + 1, 0, none⟩ (.int .i64 fr')).setCell ⟨w.heap.size + 1, 1, none⟩ (.int .u32 id)).setCell ⟨w.heap.size + 1, 2, none⟩ (.int .u32 seq)).setCell ⟨w.heap.size + 1, 3, none⟩ (.int .u16 met)).setCell ⟨w.heap.size + 1, 4, none⟩ (.int .i64 exp) = Z at *
    clear hsV R2 N2 R4 r0 r1 r2 r3 r4 g0 g1 g2 g3 g4 n0 n1 n2 n3 n4 hb4
    simp [results, Try.results14, go_sem, q0, q1, q2, q3, q4, rV]

set_option maxHeartbeats 2000000 in
theorem rt_set {w : World} {t n : Nat} {o : Option Nat} {f : Ways} (h : Tb w t o n f) (hn : n < 100000) (a : Nat) (len : Int) (r : Rt) (hk : Rk.ok ⟨a, len, r.fr⟩) :
    Calls Try.prog 12 #[.pointer (some ⟨t, 0, none⟩), .agg #[.int .u32 a, .int .i64 len], rV r] w fun e w' => e = .returned (.tuple #[]) ∧ ∃ b n', Tb w' t (some b) n' (putR f ⟨a, len, r.fr⟩ r) ∧ n' ≤ n + 1 ∧ Turn (t :: o.toList) w w' ∧ (o = some b ∨ w.heap.size ≤ b) := by
  obtain ⟨fr, id, seq, met, exp⟩ := r
  have hlt := h.head.lt
  have c0 := h.head.at_ 0
  have hn2 : n < maxLen := by unfold maxLen; omega
  have q : ∀ (w : World) (r : Option Nat), (binOp .eql 73 (.map r) (.map none)).run Try.prog w = .ok (.bool r.isNone) w := fun w r => run_eql_map_nil w _ _ _ r Try.underlying73
  have KV := Lib.hid h
  clear h
  show Calls _ _ #[_, _, .agg #[.int .i64 fr, .int .u32 id, .int .u32 seq, .int .u16 met, .int .i64 exp]] _ _
  have hb2 := next (below_new w (.cells #[.int .u32 a, .int .i64 len] 32)) (below_new _ (.cells #[.int .i64 fr, .int .u32 id, .int .u32 seq, .int .u16 met, .int .i64 exp] 37))
  have PB := (Blk.new w 32 #[.int .u32 a, .int .i64 len]).more (.cells #[.int .i64 fr, .int .u32 id, .int .u32 seq, .int .u16 met, .int .i64 exp] 37)
  have RB := Blk.new (w.alloc (.cells #[.int .u32 a, .int .i64 len] 32)) 37 #[.int .i64 fr, .int .u32 id, .int .u32 seq, .int .u16 met, .int .i64 exp]
  have hz : ((w.alloc (.cells #[.int .u32 a, .int .i64 len] 32)).alloc (.cells #[.int .i64 fr, .int .u32 id, .int .u32 seq, .int .u16 met, .int .i64 exp] 37)).heap.size = w.heap.size + 2 := by rw [size_new, size_new]
  rw [size_new] at RB
  have hmm := @run_makeMap Try.prog
  go_enter Try.func12, Try.ntmps12
  cases o with
  | some b =>
    have c2 := held hb2 c0
    have hdb := KV.out.ne (b := b) rfl
    go_wp2_with fail
    have TV := KV.out.held hb2
    have HTV : Turn [t, b] w _ := Turn.of_below _ hb2
    generalize ((w.alloc (.cells #[.int .u32 a, .int .i64 len] 32)).alloc (.cells #[.int .i64 fr, .int .u32 id, .int .u32 seq, .int .u16 met, .int .i64 exp] 37)) = W at *
    have HM : Mk rkE W b n (vals f) := TV.map
    have HB := TV.head
    have PW := PB
    have RW := RB
    clear TV PB RB KV c0 c2 q hmm
    obtain ⟨w4, hu, hM4, hg4, -⟩ := (Mk.of_block (w' := W.drew) HM rfl).store (t := 73) (e := 37) (by kernel_rfl) hn2 (i := ⟨a, len, fr⟩) hk (rV ⟨fr, id, seq, met, exp⟩)
    have hu : (Instr.mapUpdate 73 (.map (some b)) (.agg #[.int .u32 a, .int .i64 len, .int .i64 fr]) (.agg #[.int .i64 fr, .int .u32 id, .int .u32 seq, .int .u16 met, .int .i64 exp])).run Try.prog W.drew = .ok () w4 := hu
    have k0 := PW.at_ 0
    have k1 := PW.at_ 1
    have v0 := RW.at_ 0
    have v1 := RW.at_ 1
    have v2 := RW.at_ 2
    have v3 := RW.at_ 3
    have v4 := RW.at_ 4
    have t0 : W.cell? ⟨t, 0, none⟩ = some (.map (some b)) := HB.at_ 0
    have HB4 := HB.drew.turn (Turn.of_grown hg4 (List.mem_singleton.2 rfl)) (by simpa using hdb)
    have Z := Lib.hid (And.intro HB4 (And.intro hM4 hg4))
    clear HB4 hM4 hg4 HM HB PW RW
    go_region
    all_goals
      refine bodyPost_end (v := .tuple #[]) (results_none rfl _ _ _) rfl ?_
      have hM := Z.out.2.1
      rw [← vals_put] at hM
      exact ⟨rfl, b, _, ⟨Z.out.1, hM⟩, by split <;> omega, HTV.drew.trans (Turn.of_grown Z.out.2.2 (by simp)), .inl rfl⟩
  | none =>
    have f3 := (((KV.out.head.more (.cells #[.int .u32 a, .int .i64 len] 32)).more (.cells #[.int .i64 fr, .int .u32 id, .int .u32 seq, .int .u16 met, .int .i64 exp] 37)).more (.map #[] 0)).free 0
    have c2 := held hb2 c0
    have c3 := held (next hb2 (below_new _ (.map #[] 0))) c0
    go_wp2_with fail
    have hf0 : n = 0 ∧ ∀ x, vals f x = none := KV.out.map
    obtain ⟨b, hbz⟩ : ∃ b, b = w.heap.size + 2 := ⟨_, rfl⟩
    have HM0 : Mk rkE (((w.alloc (.cells #[.int .u32 a, .int .i64 len] 32)).alloc (.cells #[.int .i64 fr, .int .u32 id, .int .u32 seq, .int .u16 met, .int .i64 exp] 37)).alloc (.map #[] 0)) b 0 (fun _ => none) := by
      have h0 := Mk.new rkE ((w.alloc (.cells #[.int .u32 a, .int .i64 len] 32)).alloc (.cells #[.int .i64 fr, .int .u32 id, .int .u32 seq, .int .u16 met, .int .i64 exp] 37))
      rw [hz, ← hbz] at h0
      exact h0
    have hdb : t ≠ b := by omega
    have HB0 := ((KV.out.head.held hb2).more (.map #[] 0)).store 0 (.map (some b))
    have HM1 := HM0.of_block (w' := (((w.alloc (.cells #[.int .u32 a, .int .i64 len] 32)).alloc (.cells #[.int .i64 fr, .int .u32 id, .int .u32 seq, .int .u16 met, .int .i64 exp] 37)).alloc (.map #[] 0)).setCell ⟨t, 0, none⟩ (.map (some b))) (Below.heap_setCell _ _ _ _ (Ne.symm hdb))
    have PW := (PB.more (.map #[] 0)).away (p := ⟨t, 0, none⟩) (by show w.heap.size ≠ t; omega) (.map (some b))
    have RW := (RB.more (.map #[] 0)).away (p := ⟨t, 0, none⟩) (by show w.heap.size + 1 ≠ t; omega) (.map (some b))
    have HTV : Turn [t] w ((((w.alloc (.cells #[.int .u32 a, .int .i64 len] 32)).alloc (.cells #[.int .i64 fr, .int .u32 id, .int .u32 seq, .int .u16 met, .int .i64 exp] 37)).alloc (.map #[] 0)).setCell ⟨t, 0, none⟩ (.map (some b))) := ((Turn.of_below [t] hb2).alloc _).trans (Turn.setCell _ (p := ⟨t, 0, none⟩) (by simp) _)
    have hbe : (w.heap.size + 1 + 1) = b := by omega
    have hvf : vals f = fun _ => none := funext hf0.2
    have F0 := Lib.hid (And.intro hf0.1 (And.intro hvf hbz))
    clear HM0 PB RB KV c0 c2 c3 f3 q hmm hf0 hvf
    simp only [hbe]
    clear hbe hz
    generalize ((((w.alloc (.cells #[.int .u32 a, .int .i64 len] 32)).alloc (.cells #[.int .i64 fr, .int .u32 id, .int .u32 seq, .int .u16 met, .int .i64 exp] 37)).alloc (.map #[] 0)).setCell ⟨t, 0, none⟩ (.map (some b))) = W at *
    have HM := HM1
    have HB : Blk 75 W t #[.map (some b)] := HB0
    clear HM1 HB0 hbz
    obtain ⟨w4, hu, hM4, hg4, -⟩ := (Mk.of_block (w' := W.drew) HM rfl).store (t := 73) (e := 37) (by kernel_rfl) (show 0 < maxLen by unfold maxLen; omega) (i := ⟨a, len, fr⟩) hk (rV ⟨fr, id, seq, met, exp⟩)
    have hu : (Instr.mapUpdate 73 (.map (some b)) (.agg #[.int .u32 a, .int .i64 len, .int .i64 fr]) (.agg #[.int .i64 fr, .int .u32 id, .int .u32 seq, .int .u16 met, .int .i64 exp])).run Try.prog W.drew = .ok () w4 := hu
    have k0 := PW.at_ 0
    have k1 := PW.at_ 1
    have v0 := RW.at_ 0
    have v1 := RW.at_ 1
    have v2 := RW.at_ 2
    have v3 := RW.at_ 3
    have v4 := RW.at_ 4
    have t0 : W.cell? ⟨t, 0, none⟩ = some (.map (some b)) := HB.at_ 0
    have HB4 := HB.drew.turn (Turn.of_grown hg4 (List.mem_singleton.2 rfl)) (by simpa using hdb)
    have Z := Lib.hid (And.intro HB4 (And.intro hM4 hg4))
    clear HB4 hM4 hg4 HM HB PW RW
    go_region
    all_goals
      refine bodyPost_end (v := .tuple #[]) (results_none rfl _ _ _) rfl ?_
      have hM := Z.out.2.1
      rw [← F0.out.2.1, ← vals_put] at hM
      exact ⟨rfl, b, _, ⟨Z.out.1, hM⟩, by split <;> omega, HTV.drew.fresh (Turn.of_grown (L := [b]) Z.out.2.2 (by simp)) (by have := F0.out.2.2; omega), .inr (by have := F0.out.2.2; omega)⟩
end Go.Proofs.Ytblhijgjidfioaa
