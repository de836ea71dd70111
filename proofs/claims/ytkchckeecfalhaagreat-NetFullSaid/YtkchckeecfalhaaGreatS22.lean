/-
  Package router: update.
  Package router: Fib's entries, in memory.
  Package router: Fib.
  Package router: told.
-/
import Derived.Test.YtkchckeecfalhaaGreatS21
import Derived.Test.YtkchckeecfalhaaGreatS09
import Derived.Test.YtkchckeecfalhaaGreatS19
import Derived.Test.YtkchckeecfalhaaGreatS10
import Derived.Maps.AppendAt
namespace Go.Proofs.YtkchckeecfalhaaGreat
open Go.RowKit Go.Maps Rm Fm Sb
attribute [local go_sem] Oper.semAt_some

/-- what update answers -/
def Upd (M : Mr) (e : En) (x : T.Tm.Up) (ok : Bool) : Prop := (if ok = true then [x] else []) = (M.tell1 e).1
theorem five_store {w : World} {g : Nat} {t : TypeId} {v0 v1 v2 v3 v4 : Value} (h : Blk t w g #[v0, v1, v2, v3, v4]) (a b c d e : Value) : Blk t (((((w.setCell ⟨g, 0, none⟩ a).setCell ⟨g, 1, none⟩ b).setCell ⟨g, 2, none⟩ c).setCell ⟨g, 3, none⟩ d).setCell ⟨g, 4, none⟩ e) g #[a, b, c, d, e] :=
  ((((h.store 0 a).store 1 b).store 2 c).store 3 d).store 4 e
theorem five_turn (w : World) (g : Nat) (a b c d e : Value) : Turn [g] w (((((w.setCell ⟨g, 0, none⟩ a).setCell ⟨g, 1, none⟩ b).setCell ⟨g, 2, none⟩ c).setCell ⟨g, 3, none⟩ d).setCell ⟨g, 4, none⟩ e) :=
  ((((Turn.setCell _ (by simp) _).trans (Turn.setCell _ (by simp) _)).trans (Turn.setCell _ (by simp) _)).trans (Turn.setCell _ (by simp) _)).trans (Turn.setCell _ (by simp) _)

/-- behind a call: a store into a block of one's own -/
theorem Goes.put {F : List Nat} {w v w1 w2 : World} {R r s : Nat} {M' : Mr} (hb : Below w.heap.size w v) (hF : ∀ y, y ∈ F → y < w.heap.size) (k : Goes F v R r s M' w1) {L : List Nat} (t : Turn L w1 w2) (hL : ∀ y, y ∈ L → w.heap.size ≤ y ∧ y < v.heap.size) : Goes F w R r s M' w2 := by
  obtain ⟨F2, h2, t2, n2⟩ := k
  refine ⟨F2, h2.turn t (fun x hx hm => ?_), ((Turn.of_below F hb).beyond t2 (fun _ h => .inl h)).beyond t (fun y hy => .inr (hL y hy).1), fun y hy => ?_⟩
  · have := hL x hm
    rcases n2 x hx with h | h
    · have := hF x h; omega
    · omega
  · rcases n2 y hy with h | h
    · exact .inl h
    · exact .inr (Nat.le_trans hb.size h)
theorem neq_nat {s : Nat} {q : Bool} (h : ((s : Int) != 0) = q) : q = false ↔ s = 0 := by
  rw [← h]
  simp

set_option maxRecDepth 100000 in
set_option maxHeartbeats 4000000 in
theorem rz_update {F : List Nat} {w : World} {R room sp : Nat} {M : Mr} {a : Nat} {n : Int} {on : Bool} (h : Rz F w R (room + M.need ⟨a, n, on⟩) sp M) (hG : M.Good) (hp : Pk.ok ⟨a, n⟩) :
    Calls Tryz.prog 185 #[.pointer (some ⟨R, 0, none⟩), .agg #[.int .u32 a, .int .i64 n, .bool on]] w fun e w' => ∃ x ok, e = .returned (.tuple #[.agg #[.int .u32 x.a, .int .i64 x.len, .int .u32 x.id, .int .u32 x.seq, .int .u16 x.met], .bool ok]) ∧ Upd M ⟨a, n, on⟩ x ok ∧ Goes F w R room sp (M.tell1 ⟨a, n, on⟩).2 w' := by
  have hb := next (below_new w (.cells #[.int .u32 a, .int .i64 n, .bool on] 194)) (below_new _ (.cells #[.int .u32 0, .int .i64 0, .int .u32 0, .int .u32 0, .int .u16 0] 123))
  have SB := (Blk.new w 194 #[.int .u32 a, .int .i64 n, .bool on]).more (.cells #[.int .u32 0, .int .i64 0, .int .u32 0, .int .u32 0, .int .u16 0] 123)
  have UB := Blk.new (w.alloc (.cells #[.int .u32 a, .int .i64 n, .bool on] 194)) 123 #[.int .u32 0, .int .i64 0, .int .u32 0, .int .u32 0, .int .u16 0]
  rw [size_new] at UB
  have h1 := h.held hb
  go_enter Tryz.func185, Tryz.ntmps185
  go_upto_region 1 with fail
  generalize (w.alloc (.cells #[.int .u32 a, .int .i64 n, .bool on] 194)).alloc (.cells #[.int .u32 0, .int .i64 0, .int .u32 0, .int .u32 0, .int .u16 0] 123) = W at *
  obtain ⟨q, hq⟩ : ∃ q, M.owns ⟨a, n⟩ = q := ⟨_, rfl⟩
  obtain ⟨o, fl, tb, j, N, nn, hR⟩ := h1.rr
  have HO := rr_owns hR hp
  rw [hq] at HO
  have s0 : W.cell? ⟨w.heap.size, 0, none⟩ = some (.int .u32 a) := SB.at_ 0
  have s1 : W.cell? ⟨w.heap.size, 1, none⟩ = some (.int .i64 n) := SB.at_ 1
  have hle0 := hb.size
  have hRw : R < w.heap.size := by
    obtain ⟨o, fl, tb, j, N, nn, hR0⟩ := h.rr
    exact hR0.head.lt
  have hFw : ∀ y, y ∈ F → y < w.heap.size := fun y hy => h.lt hy
  have HFw := Lib.hid hFw
  have hbw1 : w.heap.size + 1 < W.heap.size := UB.lt
  clear hFw
  have X := Lib.hid (And.intro h (And.intro hb (And.intro SB (And.intro UB (And.intro h1 (And.intro hq (And.intro hG hp)))))))
  clear h hb SB UB h1 hq hG hp hR
  generalize hbw : w.heap.size = b at *
  have HBW := Lib.hid hbw
  clear hbw
  cases q with
  | true =>
    go_upto_region 2 with (go_at_call 82; refine HO.mono ?_; rintro e w2 ⟨rfl, hb2⟩)
    have SB2 := X.out.2.2.1.held hb2
    have UB2 := X.out.2.2.2.1.held hb2
    have hz2 := X.out.2.2.2.2.1.held hb2
    have hbz := X.out.2.1.trans (hb2.mono hle0)
    have hbl : b + 1 < w2.heap.size := UB2.lt
    clear HO s0 s1 hb2
    obtain ⟨o2, fl2, tb2, j2, N2, nn2, hR2⟩ := (hz2.held (Below.refl _ _).drew).rr
    have hSt : ∀ W', Below w2.drew.heap.size w2.drew W' → Calls Tryz.prog 52 #[.pointer (some ⟨R, 0, none⟩)] W' fun e w' => e = .returned (.pointer (some ⟨R, 0, none⟩)) ∧ Below W'.heap.size W' w' := fun W' hb' => rr_state (hR2.held hb')
    have hId : ∀ W', Below w2.drew.heap.size w2.drew W' → Calls Tryz.prog 158 #[.pointer (some ⟨R, 0, none⟩)] W' fun e w' => e = .returned (.int .u32 M.id) ∧ Below W'.heap.size W' w' := fun W' hb' => by
      obtain ⟨cn, cm, hnm, hS⟩ := (hR2.held hb').nt
      exact (id_any hS).mono fun e w' ⟨h1, h2⟩ => ⟨h1, h2 ▸ .refl _ _⟩
    have B0 : Below w2.drew.heap.size w2.drew w2.drew := Below.refl _ _
    replace SB2 := SB2.drew
    replace UB2 := UB2.drew
    replace hz2 := hz2.held (Below.refl _ _).drew
    replace hbz := hbz.drew
    replace hbl : b + 1 < w2.drew.heap.size := hbl
    have t0 : w2.drew.cell? ⟨b, 0, none⟩ = some (.int .u32 a) := SB2.at_ 0
    have t1 : w2.drew.cell? ⟨b, 1, none⟩ = some (.int .i64 n) := SB2.at_ 1
    have t2 : w2.drew.cell? ⟨R, 20, none⟩ = some (.int .u32 M.seq) := hR2.head.at_ 20
    have Y := Lib.hid (And.intro SB2 (And.intro UB2 (And.intro hz2 (And.intro hbz (And.intro hSt (And.intro hId B0))))))
    clear SB2 UB2 hz2 hbz hSt hId B0 hR2
    refine wp_region_held_drew (S := fun u => u.cell? ⟨b, 0, none⟩ = some (.int .u32 a) ∧ u.cell? ⟨b, 1, none⟩ = some (.int .i64 n) ∧ u.cell? ⟨R, 20, none⟩ = some (.int .u32 M.seq)) (by kernel_rfl) ⟨t0, t1, t2⟩ (fun hHeld => ?_)
    generalize w2.drew = v2 at *
    refine take_list (i := 0) (v := .pointer (some ⟨b, 0, none⟩)) rfl (by kernel_rfl) (by kernel_rfl) (by kernel_rfl) (fun _ _ _ h => h) (.inl ⟨rfl, ?_⟩) hHeld ?_
    · (intro w hSw; go_simp)
    go_frame
    refine take_list (i := 1) (v := .agg #[.int .u32 a, .int .i64 n]) rfl (by kernel_rfl) (by kernel_rfl) (by kernel_rfl) (fun _ _ _ h => h) (.inl ⟨rfl, ?_⟩) hHeld ?_
    · (intro w hSw; go_simp)
    go_frame
    refine take_list (i := 2) (v := .pointer (some ⟨R, 0, none⟩)) rfl (by kernel_rfl) (by kernel_rfl) (by kernel_rfl) (fun _ _ _ h => h) (.inl ⟨rfl, ?_⟩) hHeld ?_
    · (intro w hSw; go_simp)
    go_frame
    refine take_list (i := 5) (v := .pointer (some ⟨R, 0, none⟩)) rfl (by kernel_rfl) (by kernel_rfl) (by kernel_rfl) (fun _ _ _ h => h) (.inl ⟨rfl, ?_⟩) hHeld ?_
    · (intro w hSw; go_simp)
    go_frame
    refine take_list (i := 6) (v := .pointer (some ⟨R, 0, none⟩)) rfl (by kernel_rfl) (by kernel_rfl) (by kernel_rfl) (fun _ _ _ h => h) (.inl ⟨rfl, ?_⟩) hHeld ?_
    · (intro w hSw; go_simp)
    go_frame
    refine take_list (i := 7) (v := .pointer (some ⟨R, 20, none⟩)) rfl (by kernel_rfl) (by kernel_rfl) (by kernel_rfl) (fun _ _ _ h => h) (.inl ⟨rfl, ?_⟩) hHeld ?_
    · (intro w hSw; go_simp)
    go_frame
    refine take_list (i := 8) (v := .int .u32 M.seq) rfl (by kernel_rfl) (by kernel_rfl) (by kernel_rfl) (fun _ _ _ h => h) (.inl ⟨rfl, ?_⟩) hHeld ?_
    · (intro w hSw; go_simp)
    go_frame
    refine take_list (i := 9) (v := .agg #[.int .u32 M.seq, .int .u16 0]) rfl (by kernel_rfl) (by kernel_rfl) (by kernel_rfl) (fun _ _ _ h => h) (.inl ⟨rfl, ?_⟩) hHeld ?_
    · (intro w hSw; go_simp)
    go_frame
    refine ready_two (i := 3) (i' := 11) rfl rfl (by kernel_rfl) (fun K hK => ?br1) (fun K hK => ?br2)
    case' br1 =>
      go_simp
      refine (Y.out.2.2.2.2.1 _ Y.out.2.2.2.2.2.2).mono ?_
      rintro e w3 ⟨rfl, hb3⟩
      have B3 := Y.out.2.2.2.2.2.2.trans (hb3.mono Y.out.2.2.2.2.2.2.size)
      have e0 := held hb3 t0
      have e1 := held hb3 t1
      have e2 := held hb3 t2
      refine hK.out _ _ ⟨e0, e1, e2⟩ (fun hHeld => ?_)
      clear hK K hb3 t0 t1 t2
      have HB3 := Lib.hid B3
      clear B3
      refine ready_two (i := 4) (i' := 11) rfl rfl (by kernel_rfl) (fun K hK => ?br3) (fun K hK => ?br4)
      case' br3 =>
        go_simp
        refine (Y.out.2.2.2.2.2.1 _ HB3.out).mono ?_
        rintro e w4 ⟨rfl, hb4⟩
        refine hK.out _ _ ⟨held hb4 e0, held hb4 e1, held hb4 e2⟩ (fun hHeld => ?_)
        clear hK K
        refine take_list (i := 10) (v := .agg #[.int .u32 a, .int .i64 n, .int .u32 M.id, .int .u32 M.seq, .int .u16 0]) rfl (by kernel_rfl) (by kernel_rfl) (by kernel_rfl) (fun _ _ _ h => h) (.inl ⟨rfl, ?_⟩) hHeld ?_
        · (intro w hSw; go_simp)
        go_frame
        refine ready_list (i := 11) rfl (by kernel_rfl) (fun K hK => ?_)
        go_simp
        have hb7 := next hb4 (below_new w4 (.cells #[.int .u32 0, .int .i64 0, .int .u32 0, .int .u32 0, .int .u16 0] 123))
        refine hK.out _ _ ⟨held hb7 e0, held hb7 e1, held hb7 e2⟩ (fun hHeld => ?_)
        clear hK K
        have BZ := Blk.new w4 123 #[.int .u32 0, .int .i64 0, .int .u32 0, .int .u32 0, .int .u16 0]
        have hg7 : v2.heap.size ≤ w4.heap.size := Nat.le_trans HB3.out.size hb4.size
        have B7 := HB3.out.trans (hb7.mono HB3.out.size)
        have c0 := held hb7 e0
        have c1 := held hb7 e1
        have c2 := held hb7 e2
        generalize w4.alloc (.cells #[.int .u32 0, .int .i64 0, .int .u32 0, .int .u32 0, .int .u16 0] 123) = w7 at *
        generalize w4.heap.size = g7 at *
        clear hb4 hb7 e0 e1 e2 HB3
      case' br4 =>
        go_simp
        have hbn := below_new w3 (.cells #[.int .u32 0, .int .i64 0, .int .u32 0, .int .u32 0, .int .u16 0] 123)
        refine hK.out _ _ ⟨held hbn e0, held hbn e1, held hbn e2⟩ (fun hHeld => ?_)
        clear hK K
        refine ready_list (i := 4) rfl (by kernel_rfl) (fun K hK => ?_)
        go_simp
        have B4 := HB3.out.trans (hbn.mono HB3.out.size)
        refine (Y.out.2.2.2.2.2.1 _ B4).mono ?_
        rintro e w7 ⟨rfl, hb4⟩
        have hb7 := next hbn hb4
        refine hK.out _ _ ⟨held hb7 e0, held hb7 e1, held hb7 e2⟩ (fun hHeld => ?_)
        clear hK K
        have BZ := (Blk.new w3 123 #[.int .u32 0, .int .i64 0, .int .u32 0, .int .u32 0, .int .u16 0]).held hb4
        have hg7 : v2.heap.size ≤ w3.heap.size := HB3.out.size
        have B7 := HB3.out.trans (hb7.mono HB3.out.size)
        have c0 := held hb7 e0
        have c1 := held hb7 e1
        have c2 := held hb7 e2
        clear hb4 hb7 hbn B4 e0 e1 e2 HB3
        generalize w3.heap.size = g7 at *
        refine take_list (i := 10) (v := .agg #[.int .u32 a, .int .i64 n, .int .u32 M.id, .int .u32 M.seq, .int .u16 0]) rfl (by kernel_rfl) (by kernel_rfl) (by kernel_rfl) (fun _ _ _ h => h) (.inl ⟨rfl, ?_⟩) hHeld ?_
        · (intro w hSw; go_simp)
        go_frame
    case' br2 =>
      go_simp
      have hbn := below_new v2 (.cells #[.int .u32 0, .int .i64 0, .int .u32 0, .int .u32 0, .int .u16 0] 123)
      have e0 := held hbn t0
      have e1 := held hbn t1
      have e2 := held hbn t2
      refine hK.out _ _ ⟨e0, e1, e2⟩ (fun hHeld => ?_)
      clear hK K t0 t1 t2
      refine ready_list (i := 3) rfl (by kernel_rfl) (fun K hK => ?_)
      go_simp
      have B3 := Y.out.2.2.2.2.2.2.trans (hbn.mono Y.out.2.2.2.2.2.2.size)
      refine (Y.out.2.2.2.2.1 _ B3).mono ?_
      rintro e w4 ⟨rfl, hb4⟩
      refine hK.out _ _ ⟨held hb4 e0, held hb4 e1, held hb4 e2⟩ (fun hHeld => ?_)
      clear hK K
      refine ready_list (i := 4) rfl (by kernel_rfl) (fun K hK => ?_)
      go_simp
      have B4 := B3.trans (hb4.mono B3.size)
      refine (Y.out.2.2.2.2.2.1 _ B4).mono ?_
      rintro e w7 ⟨rfl, hb5⟩
      have hb7 := next hb4 hb5
      refine hK.out _ _ ⟨held hb7 e0, held hb7 e1, held hb7 e2⟩ (fun hHeld => ?_)
      clear hK K
      have BZ := (Blk.new v2 123 #[.int .u32 0, .int .i64 0, .int .u32 0, .int .u32 0, .int .u16 0]).held hb7
      have hg7 : v2.heap.size ≤ v2.heap.size := Nat.le_refl _
      have B7 := B3.trans (hb7.mono B3.size)
      have c0 := held hb7 e0
      have c1 := held hb7 e1
      have c2 := held hb7 e2
      clear hb4 hb5 hb7 hbn B3 B4 e0 e1 e2
      obtain ⟨g7, hqe⟩ : ∃ g7, v2.heap.size = g7 := ⟨_, rfl⟩
      rw [hqe] at BZ
      rw [hqe]
      replace hg7 : v2.heap.size ≤ g7 := by omega
      clear hqe
      refine take_list (i := 10) (v := .agg #[.int .u32 a, .int .i64 n, .int .u32 M.id, .int .u32 M.seq, .int .u16 0]) rfl (by kernel_rfl) (by kernel_rfl) (by kernel_rfl) (fun _ _ _ h => h) (.inl ⟨rfl, ?_⟩) hHeld ?_
      · (intro w hSw; go_simp)
      go_frame
    all_goals
      have z0 := BZ.at_ 0
      have z1 := BZ.at_ 1
      have z2 := BZ.at_ 2
      have z3 := BZ.at_ 3
      have z4 := BZ.at_ 4
      have y0 := BZ.free 0
      have y1 := BZ.free 1
      have y2 := BZ.free 2
      have y3 := BZ.free 3
      have y4 := BZ.free 4
      refine ready_list (i := 12) rfl (by kernel_rfl) (fun K hK => ?_)
      go_simp
      have T8 := five_turn w7 g7 (.int .u32 a) (.int .i64 n) (.int .u32 M.id) (.int .u32 M.seq) (.int .u16 0)
      have d0 := T8.cell c0 (by simp; omega)
      have d1 := T8.cell c1 (by simp; omega)
      have d2 := T8.cell c2 (by simp; omega)
      refine hK.out _ _ ⟨d0, d1, d2⟩ (fun hHeld => ?_)
      have B8 := B7.trans (T8.below (B := v2.heap.size) (fun i hi => by simp at hi; omega) B7.size)
      have D8 := five_store BZ (.int .u32 a) (.int .i64 n) (.int .u32 M.id) (.int .u32 M.seq) (.int .u16 0)
      clear hK K z0 z1 z2 z3 z4 y0 y1 y2 y3 y4 c0 c1 c2 BZ d0 d1 d2 B7 T8
      generalize ((((w7.setCell ⟨g7, 0, none⟩ (.int .u32 a)).setCell ⟨g7, 1, none⟩ (.int .i64 n)).setCell ⟨g7, 2, none⟩ (.int .u32 M.id)).setCell ⟨g7, 3, none⟩ (.int .u32 M.seq)).setCell ⟨g7, 4, none⟩ (.int .u16 0) = w8 at *
      refine wpAnyH_done (by kernel_rfl) ?_ _
      try go_frame
      have hz8 := Y.out.2.2.1.held B8
      have UB8 := (Y.out.2.1.held B8).drew
      have bz8 := Y.out.2.2.2.1.trans (B8.mono (by omega))
      obtain ⟨o8, fl8, tb8, j8, N8, nn8, hR8⟩ := hz8.rr
      obtain ⟨q0, hq0⟩ : ∃ q, ((M.seq : Int) != 0) = q := ⟨_, rfl⟩
      have k0 : w8.drew.cell? ⟨g7, 0, none⟩ = some (.int .u32 a) := D8.at_ 0
      have k1 : w8.drew.cell? ⟨g7, 1, none⟩ = some (.int .i64 n) := D8.at_ 1
      have k2 : w8.drew.cell? ⟨g7, 2, none⟩ = some (.int .u32 M.id) := D8.at_ 2
      have k3 : w8.drew.cell? ⟨g7, 3, none⟩ = some (.int .u32 M.seq) := D8.at_ 3
      have k4 : w8.drew.cell? ⟨g7, 4, none⟩ = some (.int .u16 0) := D8.at_ 4
      have k5 : w8.drew.cell? ⟨R, 20, none⟩ = some (.int .u32 M.seq) := hR8.head.at_ 20
      replace bz8 := bz8.drew
      have Z := Lib.hid (And.intro UB8 (And.intro bz8 D8.drew))
      clear hz8 UB8 bz8 hR8 B8 D8
      go_upto_region 3 with fail
      refine wp_region_held_drew (S := fun u => u.cell? ⟨g7, 0, none⟩ = some (.int .u32 a) ∧ u.cell? ⟨g7, 1, none⟩ = some (.int .i64 n) ∧ u.cell? ⟨g7, 2, none⟩ = some (.int .u32 M.id) ∧ u.cell? ⟨g7, 3, none⟩ = some (.int .u32 M.seq) ∧ u.cell? ⟨g7, 4, none⟩ = some (.int .u16 0) ∧ u.cell? ⟨R, 20, none⟩ = some (.int .u32 M.seq)) (by kernel_rfl) ⟨k0, k1, k2, k3, k4, k5⟩ (fun hHeld => ?_)
      generalize w8.drew = v8 at *
      refine take_list (i := 0) (v := .agg #[.int .u32 a, .int .i64 n, .int .u32 M.id, .int .u32 M.seq, .int .u16 0]) rfl (by kernel_rfl) (by kernel_rfl) (by kernel_rfl) (fun _ _ _ h => h) (.inl ⟨rfl, ?_⟩) hHeld ?_
      · (intro w hSw; go_simp)
      go_frame
      refine take_list (i := 1) (v := .pointer (some ⟨R, 0, none⟩)) rfl (by kernel_rfl) (by kernel_rfl) (by kernel_rfl) (fun _ _ _ h => h) (.inl ⟨rfl, ?_⟩) hHeld ?_
      · (intro w hSw; go_simp)
      go_frame
      refine take_list (i := 2) (v := .pointer (some ⟨R, 0, none⟩)) rfl (by kernel_rfl) (by kernel_rfl) (by kernel_rfl) (fun _ _ _ h => h) (.inl ⟨rfl, ?_⟩) hHeld ?_
      · (intro w hSw; go_simp)
      go_frame
      refine take_list (i := 3) (v := .pointer (some ⟨R, 20, none⟩)) rfl (by kernel_rfl) (by kernel_rfl) (by kernel_rfl) (fun _ _ _ h => h) (.inl ⟨rfl, ?_⟩) hHeld ?_
      · (intro w hSw; go_simp)
      go_frame
      refine take_list (i := 4) (v := .int .u32 M.seq) rfl (by kernel_rfl) (by kernel_rfl) (by kernel_rfl) (fun _ _ _ h => h) (.inl ⟨rfl, ?_⟩) hHeld ?_
      · (intro w hSw; go_simp)
      go_frame
      refine take_list (i := 5) (v := .bool q0) rfl (by kernel_rfl) (by kernel_rfl) (by kernel_rfl) (fun _ _ _ h => h) (.inl ⟨rfl, ?_⟩) hHeld ?_
      · (intro w hSw; go_simp)
      go_frame
      have z0 := Z.out.1.at_ 0
      have z1 := Z.out.1.at_ 1
      have z2 := Z.out.1.at_ 2
      have z3 := Z.out.1.at_ 3
      have z4 := Z.out.1.at_ 4
      have y0 := Z.out.1.free 0
      have y1 := Z.out.1.free 1
      have y2 := Z.out.1.free 2
      have y3 := Z.out.1.free 3
      have y4 := Z.out.1.free 4
      refine ready_list (i := 6) rfl (by kernel_rfl) (fun K hK => ?_)
      go_simp
      have T9 := five_turn v8 (b + 1) (.int .u32 a) (.int .i64 n) (.int .u32 M.id) (.int .u32 M.seq) (.int .u16 0)
      have m0 := T9.cell k0 (by simp; omega)
      have m1 := T9.cell k1 (by simp; omega)
      have m2 := T9.cell k2 (by simp; omega)
      have m3 := T9.cell k3 (by simp; omega)
      have m4 := T9.cell k4 (by simp; omega)
      have m5 := T9.cell k5 (by simp; omega)
      refine hK.out _ _ ⟨m0, m1, m2, m3, m4, m5⟩ (fun hHeld => ?_)
      have D9 := five_store Z.out.1 (.int .u32 a) (.int .i64 n) (.int .u32 M.id) (.int .u32 M.seq) (.int .u16 0)
      have b9 := Z.out.2.1.trans (T9.below (B := b) (fun i hi => by simp at hi; omega) (Nat.le_trans (by omega) Z.out.1.lt))
      clear hK K z0 z1 z2 z3 z4 y0 y1 y2 y3 y4 k0 k1 k2 k3 k4 k5 T9
      generalize ((((v8.setCell ⟨b + 1, 0, none⟩ (.int .u32 a)).setCell ⟨b + 1, 1, none⟩ (.int .i64 n)).setCell ⟨b + 1, 2, none⟩ (.int .u32 M.id)).setCell ⟨b + 1, 3, none⟩ (.int .u32 M.seq)).setCell ⟨b + 1, 4, none⟩ (.int .u16 0) = w9 at *
      refine ready_list (i := 7) rfl (by kernel_rfl) (fun K hK => ?_)
      go_simp
      refine hK.out _ _ ⟨m0, m1, m2, m3, m4, m5⟩ (fun hHeld => ?_)
      clear hK K m0 m1 m2 m3 m4 m5
      refine wpAnyH_done (by kernel_rfl) ?_ _
      try go_frame
      have q1 := D9.at_ 0
      have q2 := D9.at_ 1
      have q3 := D9.at_ 2
      have q4 := D9.at_ 3
      have q5 := D9.at_ 4
      clear hHeld
      go_wp2_with fail
      have hz0 : Rz F w R room sp M := by have := X.out.1; rw [Mr.need_own X.out.2.2.2.2.2.1] at this; exact this
      refine bodyPost_ret (v := .tuple #[.agg #[.int .u32 a, .int .i64 n, .int .u32 M.id, .int .u32 M.seq, .int .u16 0], .bool q0]) ?_ rfl ⟨⟨a, n, M.id, M.seq, 0⟩, q0, rfl, ?_, ?_⟩
      · simp [results, Tryz.results185, go_sem, q1, q2, q3, q4, q5]
      · unfold Upd
        rw [Mr.tell1_own X.out.2.2.2.2.2.1]
        have e0 := neq_nat hq0
        cases q0 with
        | true => rw [if_pos rfl, if_neg (fun e => by have := e0.2 e; cases this)]
        | false => rw [if_neg (by decide), if_pos (e0.1 rfl)]
      · rw [Mr.tell1_own X.out.2.2.2.2.2.1]
        refine Goes.stay hz0 ?_
        rw [HBW.out]
        exact b9
  | false =>
    go_upto_region 4 with (go_at_call 82; refine HO.mono ?_; rintro e w2 ⟨rfl, hb2⟩)
    have SB2 := X.out.2.2.1.held hb2
    have UB2 := X.out.2.2.2.1.held hb2
    have hz2 := X.out.2.2.2.2.1.held hb2
    have hbz := X.out.2.1.trans (hb2.mono hle0)
    obtain ⟨o2, fl2, tb2, j2, N2, nn2, hR2⟩ := hz2.rr
    obtain ⟨⟨fr, id, sq, mt, ex⟩, hr⟩ : ∃ r, (M.pick a n).getD Rt.zero = r := ⟨_, rfl⟩
    obtain ⟨ok, hok⟩ : ∃ ok, (M.pick a n).isSome = ok := ⟨_, rfl⟩
    have HW := rr_way hR2 X.out.2.2.2.2.2.2.2 hr hok
    have hfi := Mr.pick_fits X.out.1.fits hr
    have t0 : w2.cell? ⟨b, 0, none⟩ = some (.int .u32 a) := SB2.at_ 0
    have t1 : w2.cell? ⟨b, 1, none⟩ = some (.int .i64 n) := SB2.at_ 1
    have hbl : b + 1 < w2.heap.size := UB2.lt
    have Y := Lib.hid (And.intro SB2 (And.intro UB2 (And.intro hz2 (And.intro hbz (And.intro hr (And.intro hok hfi))))))
    clear HO s0 s1 hb2 SB2 UB2 hz2 hbz hr hok hfi hR2
    go_upto_region 5 with (go_at_call 83; refine HW.mono ?_; rintro e w3 ⟨rfl, hb3⟩)
    have hb4 := next hb3 (below_new w3 (.cells #[.int .i64 fr, .int .u32 id, .int .u32 sq, .int .u16 mt, .int .i64 ex] 158))
    have RB := Blk.new w3 158 #[.int .i64 fr, .int .u32 id, .int .u32 sq, .int .u16 mt, .int .i64 ex]
    have hg4 : w2.heap.size ≤ w3.heap.size := hb3.size
    clear HW t0 t1 hb3
    generalize w3.alloc (.cells #[.int .i64 fr, .int .u32 id, .int .u32 sq, .int .u16 mt, .int .i64 ex] 158) = w4 at *
    generalize w3.heap.size = g4 at *
    have SB4 := Y.out.1.held hb4
    have UB4 := Y.out.2.1.held hb4
    have hz4 := Y.out.2.2.1.held hb4
    have bz4 := Y.out.2.2.2.1.trans (hb4.mono (by omega))
    have hbl4 : b + 1 < w4.heap.size := UB4.lt
    cases ok with
    | false =>
      go_upto_region 6 with fail
      have hpn : M.pick a n = none := Option.not_isSome_iff_eq_none.1 (by rw [Y.out.2.2.2.2.2.1]; decide)
      have k0 : w4.drew.cell? ⟨b, 0, none⟩ = some (.int .u32 a) := SB4.at_ 0
      have k1 : w4.drew.cell? ⟨b, 1, none⟩ = some (.int .i64 n) := SB4.at_ 1
      have k2 : w4.drew.cell? ⟨b, 2, none⟩ = some (.bool on) := SB4.at_ 2
      have UBd := UB4.drew
      replace bz4 := bz4.drew
      have Z := Lib.hid (And.intro UBd (And.intro bz4 hpn))
      clear SB4 UB4 UBd hz4 bz4 hb4 RB hpn
      refine wp_region_held_drew (S := fun u => u.cell? ⟨b, 0, none⟩ = some (.int .u32 a) ∧ u.cell? ⟨b, 1, none⟩ = some (.int .i64 n) ∧ u.cell? ⟨b, 2, none⟩ = some (.bool on)) (by kernel_rfl) ⟨k0, k1, k2⟩ (fun hHeld => ?_)
      generalize w4.drew = v4 at *
      refine take_list (i := 0) (v := .pointer (some ⟨b, 0, none⟩)) rfl (by kernel_rfl) (by kernel_rfl) (by kernel_rfl) (fun _ _ _ h => h) (.inl ⟨rfl, ?_⟩) hHeld ?_
      · (intro w hSw; go_simp)
      go_frame
      refine take_list (i := 1) (v := .agg #[.int .u32 a, .int .i64 n]) rfl (by kernel_rfl) (by kernel_rfl) (by kernel_rfl) (fun _ _ _ h => h) (.inl ⟨rfl, ?_⟩) hHeld ?_
      · (intro w hSw; go_simp)
      go_frame
      refine take_list (i := 2) (v := .agg #[.int .u32 0, .int .u16 65535]) rfl (by kernel_rfl) (by kernel_rfl) (by kernel_rfl) (fun _ _ _ h => h) (.inl ⟨rfl, ?_⟩) hHeld ?_
      · (intro w hSw; go_simp)
      go_frame
      refine take_list (i := 3) (v := .agg #[.int .u32 a, .int .i64 n, .int .u32 0, .int .u32 0, .int .u16 65535]) rfl (by kernel_rfl) (by kernel_rfl) (by kernel_rfl) (fun _ _ _ h => h) (.inl ⟨rfl, ?_⟩) hHeld ?_
      · (intro w hSw; go_simp)
      go_frame
      refine take_list (i := 4) (v := .pointer (some ⟨b, 2, none⟩)) rfl (by kernel_rfl) (by kernel_rfl) (by kernel_rfl) (fun _ _ _ h => h) (.inl ⟨rfl, ?_⟩) hHeld ?_
      · (intro w hSw; go_simp)
      go_frame
      refine take_list (i := 5) (v := .bool on) rfl (by kernel_rfl) (by kernel_rfl) (by kernel_rfl) (fun _ _ _ h => h) (.inl ⟨rfl, ?_⟩) hHeld ?_
      · (intro w hSw; go_simp)
      go_frame
      have z0 := Z.out.1.at_ 0
      have z1 := Z.out.1.at_ 1
      have z2 := Z.out.1.at_ 2
      have z3 := Z.out.1.at_ 3
      have z4 := Z.out.1.at_ 4
      have y0 := Z.out.1.free 0
      have y1 := Z.out.1.free 1
      have y2 := Z.out.1.free 2
      have y3 := Z.out.1.free 3
      have y4 := Z.out.1.free 4
      refine ready_list (i := 6) rfl (by kernel_rfl) (fun K hK => ?_)
      go_simp
      have T9 := five_turn v4 (b + 1) (.int .u32 a) (.int .i64 n) (.int .u32 0) (.int .u32 0) (.int .u16 65535)
      have m0 := T9.cell k0 (by simp)
      have m1 := T9.cell k1 (by simp)
      have m2 := T9.cell k2 (by simp)
      refine hK.out _ _ ⟨m0, m1, m2⟩ (fun hHeld => ?_)
      have D9 := five_store Z.out.1 (.int .u32 a) (.int .i64 n) (.int .u32 0) (.int .u32 0) (.int .u16 65535)
      have b9 := Z.out.2.1.trans (T9.below (B := b) (fun i hi => by simp at hi; omega) (Nat.le_trans (by omega) Z.out.1.lt))
      clear hK K z0 z1 z2 z3 z4 y0 y1 y2 y3 y4 k0 k1 k2 T9
      generalize ((((v4.setCell ⟨b + 1, 0, none⟩ (.int .u32 a)).setCell ⟨b + 1, 1, none⟩ (.int .i64 n)).setCell ⟨b + 1, 2, none⟩ (.int .u32 0)).setCell ⟨b + 1, 3, none⟩ (.int .u32 0)).setCell ⟨b + 1, 4, none⟩ (.int .u16 65535) = w9 at *
      refine ready_list (i := 7) rfl (by kernel_rfl) (fun K hK => ?_)
      go_simp
      refine hK.out _ _ ⟨m0, m1, m2⟩ (fun hHeld => ?_)
      clear hK K m0 m1 m2
      refine wpAnyH_done (by kernel_rfl) ?_ _
      try go_frame
      have q1 := D9.at_ 0
      have q2 := D9.at_ 1
      have q3 := D9.at_ 2
      have q4 := D9.at_ 3
      have q5 := D9.at_ 4
      clear hHeld
      go_wp2_with fail
      have hz0 : Rz F w R room sp M := by have := X.out.1; rw [Mr.need_none X.out.2.2.2.2.2.1 Z.out.2.2] at this; exact this
      refine bodyPost_ret (v := .tuple #[.agg #[.int .u32 a, .int .i64 n, .int .u32 0, .int .u32 0, .int .u16 65535], .bool on]) ?_ rfl ⟨⟨a, n, 0, 0, 65535⟩, on, rfl, ?_, ?_⟩
      · simp [results, Tryz.results185, go_sem, q1, q2, q3, q4, q5]
      · unfold Upd
        rw [Mr.tell1_none X.out.2.2.2.2.2.1 Z.out.2.2]
      · rw [Mr.tell1_none X.out.2.2.2.2.2.1 Z.out.2.2]
        refine Goes.stay hz0 ?_
        rw [HBW.out]
        exact b9
    | true =>
      go_upto_region 7 with fail
      have hpk : M.pick a n = some ⟨fr, id, sq, mt, ex⟩ := by
        have h1 := Y.out.2.2.2.2.1
        obtain ⟨r, h2⟩ := Option.isSome_iff_exists.1 Y.out.2.2.2.2.2.1
        rw [h2] at h1 ⊢
        exact congrArg some h1
      have hgr := X.out.2.2.2.2.2.2.1.right hpk
      have hfar := M.farN_eq ⟨fr, id, sq, mt, ex⟩
      have hflt := M.farN_lt ⟨fr, id, sq, mt, ex⟩
      obtain ⟨fm, hfm⟩ : ∃ fm, M.farN ⟨fr, id, sq, mt, ex⟩ = fm := ⟨_, rfl⟩
      dsimp only at hgr hfar
      rw [hfm] at hgr hfar hflt
      replace hz4 := hz4.held (Below.refl _ _).drew
      obtain ⟨o4, fl4, tb4, j4, N4, nn4, hR4⟩ := hz4.rr
      have hRe : ∀ W', Below w4.drew.heap.size w4.drew W' → Calls Tryz.prog 84 #[.pointer (some ⟨R, 0, none⟩), .agg #[.int .i64 fr, .int .u32 id, .int .u32 sq, .int .u16 mt, .int .i64 ex]] W' fun e w' => e = .returned (.agg #[.int .u32 sq, .int .u16 fm]) ∧ Below W'.heap.size W' w' := fun W' hb' => by
        have := rr_reach (hR4.held hb') (fr := fr) (exp := ex) (id := id) (seq := sq) (met := mt) Y.out.2.2.2.2.2.2.met
        rw [hfar] at this
        exact this
      have B0 : Below w4.drew.heap.size w4.drew w4.drew := Below.refl _ _
      replace UB4 := UB4.drew
      replace bz4 := bz4.drew
      replace hbl4 : b + 1 < w4.drew.heap.size := hbl4
      have k0 : w4.drew.cell? ⟨b, 0, none⟩ = some (.int .u32 a) := SB4.at_ 0
      have k1 : w4.drew.cell? ⟨b, 1, none⟩ = some (.int .i64 n) := SB4.at_ 1
      have r0 : w4.drew.cell? ⟨g4, 0, none⟩ = some (.int .i64 fr) := RB.at_ 0
      have r1 : w4.drew.cell? ⟨g4, 1, none⟩ = some (.int .u32 id) := RB.at_ 1
      have r2 : w4.drew.cell? ⟨g4, 2, none⟩ = some (.int .u32 sq) := RB.at_ 2
      have r3 : w4.drew.cell? ⟨g4, 3, none⟩ = some (.int .u16 mt) := RB.at_ 3
      have r4 : w4.drew.cell? ⟨g4, 4, none⟩ = some (.int .i64 ex) := RB.at_ 4
      have hg4l : g4 < w4.drew.heap.size := RB.lt
      have Z := Lib.hid (And.intro UB4 (And.intro bz4 (And.intro hz4 (And.intro hpk (And.intro hgr (And.intro hfm (And.intro hRe (And.intro B0 hflt))))))))
      clear SB4 UB4 hz4 bz4 hb4 RB hpk hgr hfm hRe B0 hR4 hfar hflt
      refine wp_region_held_drew (S := fun u => u.cell? ⟨b, 0, none⟩ = some (.int .u32 a) ∧ u.cell? ⟨b, 1, none⟩ = some (.int .i64 n) ∧ u.cell? ⟨g4, 0, none⟩ = some (.int .i64 fr) ∧ u.cell? ⟨g4, 1, none⟩ = some (.int .u32 id) ∧ u.cell? ⟨g4, 2, none⟩ = some (.int .u32 sq) ∧ u.cell? ⟨g4, 3, none⟩ = some (.int .u16 mt) ∧ u.cell? ⟨g4, 4, none⟩ = some (.int .i64 ex)) (by kernel_rfl) ⟨k0, k1, r0, r1, r2, r3, r4⟩ (fun hHeld => ?_)
      generalize w4.drew = v4 at *
      refine take_list (i := 0) (v := .pointer (some ⟨b, 0, none⟩)) rfl (by kernel_rfl) (by kernel_rfl) (by kernel_rfl) (fun _ _ _ h => h) (.inl ⟨rfl, ?_⟩) hHeld ?_
      · (intro w hSw; go_simp)
      go_frame
      refine take_list (i := 1) (v := .agg #[.int .u32 a, .int .i64 n]) rfl (by kernel_rfl) (by kernel_rfl) (by kernel_rfl) (fun _ _ _ h => h) (.inl ⟨rfl, ?_⟩) hHeld ?_
      · (intro w hSw; go_simp)
      go_frame
      refine take_list (i := 2) (v := .pointer (some ⟨g4, 1, none⟩)) rfl (by kernel_rfl) (by kernel_rfl) (by kernel_rfl) (fun _ _ _ h => h) (.inl ⟨rfl, ?_⟩) hHeld ?_
      · (intro w hSw; go_simp)
      go_frame
      refine take_list (i := 3) (v := .int .u32 id) rfl (by kernel_rfl) (by kernel_rfl) (by kernel_rfl) (fun _ _ _ h => h) (.inl ⟨rfl, ?_⟩) hHeld ?_
      · (intro w hSw; go_simp)
      go_frame
      refine take_list (i := 4) (v := .pointer (some ⟨R, 0, none⟩)) rfl (by kernel_rfl) (by kernel_rfl) (by kernel_rfl) (fun _ _ _ h => h) (.inl ⟨rfl, ?_⟩) hHeld ?_
      · (intro w hSw; go_simp)
      go_frame
      refine take_list (i := 5) (v := .agg #[.int .i64 fr, .int .u32 id, .int .u32 sq, .int .u16 mt, .int .i64 ex]) rfl (by kernel_rfl) (by kernel_rfl) (by kernel_rfl) (fun _ _ _ h => h) (.inl ⟨rfl, ?_⟩) hHeld ?_
      · (intro w hSw; go_simp)
      go_frame
      refine ready_two (i := 6) (i' := 8) rfl rfl (by kernel_rfl) (fun K hK => ?br5) (fun K hK => ?br6)
      case' br5 =>
        go_simp
        refine (Z.out.2.2.2.2.2.2.1 _ Z.out.2.2.2.2.2.2.2.1).mono ?_
        rintro e w5 ⟨rfl, hb5⟩
        refine hK.out _ _ ⟨held hb5 k0, held hb5 k1, held hb5 r0, held hb5 r1, held hb5 r2, held hb5 r3, held hb5 r4⟩ (fun hHeld => ?_)
        clear hK K
        refine take_list (i := 7) (v := .agg #[.int .u32 a, .int .i64 n, .int .u32 id, .int .u32 sq, .int .u16 fm]) rfl (by kernel_rfl) (by kernel_rfl) (by kernel_rfl) (fun _ _ _ h => h) (.inl ⟨rfl, ?_⟩) hHeld ?_
        · (intro w hSw; go_simp)
        go_frame
        refine ready_list (i := 8) rfl (by kernel_rfl) (fun K hK => ?_)
        go_simp
        have hb7 := next hb5 (below_new w5 (.cells #[.int .u32 0, .int .i64 0, .int .u32 0, .int .u32 0, .int .u16 0] 123))
        have c0 := held hb7 k0
        have c1 := held hb7 k1
        have c2 := held hb7 r0
        have c3 := held hb7 r1
        have c4 := held hb7 r2
        have c5 := held hb7 r3
        have c6 := held hb7 r4
        refine hK.out _ _ ⟨c0, c1, c2, c3, c4, c5, c6⟩ (fun hHeld => ?_)
        clear hK K
        have BZ := Blk.new w5 123 #[.int .u32 0, .int .i64 0, .int .u32 0, .int .u32 0, .int .u16 0]
        have hg7 : v4.heap.size ≤ w5.heap.size := hb5.size
        have B7 := Z.out.2.2.2.2.2.2.2.1.trans (hb7.mono Z.out.2.2.2.2.2.2.2.1.size)
        generalize w5.alloc (.cells #[.int .u32 0, .int .i64 0, .int .u32 0, .int .u32 0, .int .u16 0] 123) = w7 at *
        generalize w5.heap.size = g7 at *
        clear hb5 hb7 k0 k1 r0 r1 r2 r3 r4
      case' br6 =>
        go_simp
        have hbn := below_new v4 (.cells #[.int .u32 0, .int .i64 0, .int .u32 0, .int .u32 0, .int .u16 0] 123)
        refine hK.out _ _ ⟨held hbn k0, held hbn k1, held hbn r0, held hbn r1, held hbn r2, held hbn r3, held hbn r4⟩ (fun hHeld => ?_)
        clear hK K
        refine ready_list (i := 6) rfl (by kernel_rfl) (fun K hK => ?_)
        go_simp
        have B3 := Z.out.2.2.2.2.2.2.2.1.trans (hbn.mono Z.out.2.2.2.2.2.2.2.1.size)
        refine (Z.out.2.2.2.2.2.2.1 _ B3).mono ?_
        rintro e w7 ⟨rfl, hb5⟩
        have hb7 := next hbn hb5
        have c0 := held hb7 k0
        have c1 := held hb7 k1
        have c2 := held hb7 r0
        have c3 := held hb7 r1
        have c4 := held hb7 r2
        have c5 := held hb7 r3
        have c6 := held hb7 r4
        refine hK.out _ _ ⟨c0, c1, c2, c3, c4, c5, c6⟩ (fun hHeld => ?_)
        clear hK K
        have BZ := (Blk.new v4 123 #[.int .u32 0, .int .i64 0, .int .u32 0, .int .u32 0, .int .u16 0]).held hb5
        have hg7 : v4.heap.size ≤ v4.heap.size := Nat.le_refl _
        have B7 := Z.out.2.2.2.2.2.2.2.1.trans (hb7.mono Z.out.2.2.2.2.2.2.2.1.size)
        clear hb5 hb7 hbn B3 k0 k1 r0 r1 r2 r3 r4
        obtain ⟨g7, hqe⟩ : ∃ g7, v4.heap.size = g7 := ⟨_, rfl⟩
        rw [hqe] at BZ
        rw [hqe]
        replace hg7 : v4.heap.size ≤ g7 := by omega
        clear hqe
        refine take_list (i := 7) (v := .agg #[.int .u32 a, .int .i64 n, .int .u32 id, .int .u32 sq, .int .u16 fm]) rfl (by kernel_rfl) (by kernel_rfl) (by kernel_rfl) (fun _ _ _ h => h) (.inl ⟨rfl, ?_⟩) hHeld ?_
        · (intro w hSw; go_simp)
        go_frame
      all_goals
        have z0 := BZ.at_ 0
        have z1 := BZ.at_ 1
        have z2 := BZ.at_ 2
        have z3 := BZ.at_ 3
        have z4 := BZ.at_ 4
        have y0 := BZ.free 0
        have y1 := BZ.free 1
        have y2 := BZ.free 2
        have y3 := BZ.free 3
        have y4 := BZ.free 4
        refine ready_list (i := 9) rfl (by kernel_rfl) (fun K hK => ?_)
        go_simp
        have T8 := five_turn w7 g7 (.int .u32 a) (.int .i64 n) (.int .u32 id) (.int .u32 sq) (.int .u16 fm)
        refine hK.out _ _ ⟨T8.cell c0 (by simp; omega), T8.cell c1 (by simp; omega), T8.cell c2 (by simp; omega), T8.cell c3 (by simp; omega), T8.cell c4 (by simp; omega), T8.cell c5 (by simp; omega), T8.cell c6 (by simp; omega)⟩ (fun hHeld => ?_)
        have B8 := B7.trans (T8.below (B := v4.heap.size) (fun i hi => by simp at hi; omega) B7.size)
        have D8 := five_store BZ (.int .u32 a) (.int .i64 n) (.int .u32 id) (.int .u32 sq) (.int .u16 fm)
        clear hK K z0 z1 z2 z3 z4 y0 y1 y2 y3 y4 c0 c1 c2 c3 c4 c5 c6 BZ B7 T8
        generalize ((((w7.setCell ⟨g7, 0, none⟩ (.int .u32 a)).setCell ⟨g7, 1, none⟩ (.int .i64 n)).setCell ⟨g7, 2, none⟩ (.int .u32 id)).setCell ⟨g7, 3, none⟩ (.int .u32 sq)).setCell ⟨g7, 4, none⟩ (.int .u16 fm) = w8 at *
        refine wpAnyH_done (by kernel_rfl) ?_ _
        try go_frame
        have hz8 := (Z.out.2.2.1.held B8).held (Below.refl _ _).drew
        have UB8 := (Z.out.1.held B8).drew
        have bz8 := (Z.out.2.1.trans (B8.mono (by omega))).drew
        have hfi := Y.out.2.2.2.2.2.2
        rw [Mr.need_way X.out.2.2.2.2.2.1 Z.out.2.2.2.1] at hz8
        have HC := rz_covered hz8 X.out.2.2.2.2.2.2.2 (id := id) (seq := sq) (met := fm) hfi.id hfi.seq Z.out.2.2.2.2.2.2.2.2 (fun _ => Z.out.2.2.2.2.1.1)
        have k0 : w8.drew.cell? ⟨g7, 0, none⟩ = some (.int .u32 a) := D8.at_ 0
        have k1 : w8.drew.cell? ⟨g7, 1, none⟩ = some (.int .i64 n) := D8.at_ 1
        have k2 : w8.drew.cell? ⟨g7, 2, none⟩ = some (.int .u32 id) := D8.at_ 2
        have k3 : w8.drew.cell? ⟨g7, 3, none⟩ = some (.int .u32 sq) := D8.at_ 3
        have k4 : w8.drew.cell? ⟨g7, 4, none⟩ = some (.int .u16 fm) := D8.at_ 4
        have hg8 : g7 < w8.drew.heap.size := D8.lt
        have hb8 : b + 1 < w8.drew.heap.size := UB8.lt
        have hbw8 : b ≤ g7 := by omega
        have hgF : g7 ∉ F := fun hx => by have := HFw.out _ hx; omega
        have hbF : b + 1 ∉ F := fun hx => by have := HFw.out _ hx; omega
        have V := Lib.hid (And.intro UB8 (And.intro bz8 (And.intro HC (And.intro hgF hbF))))
        clear hz8 UB8 bz8 hfi B8 D8 HC hgF hbF
        go_upto_region 8 with fail
        refine wp_region_held_drew (S := fun u => u.cell? ⟨g7, 0, none⟩ = some (.int .u32 a) ∧ u.cell? ⟨g7, 1, none⟩ = some (.int .i64 n) ∧ u.cell? ⟨g7, 2, none⟩ = some (.int .u32 id) ∧ u.cell? ⟨g7, 3, none⟩ = some (.int .u32 sq) ∧ u.cell? ⟨g7, 4, none⟩ = some (.int .u16 fm)) (by kernel_rfl) ⟨k0, k1, k2, k3, k4⟩ (fun hHeld => ?_)
        generalize w8.drew = v8 at *
        refine take_list (i := 0) (v := .agg #[.int .u32 a, .int .i64 n, .int .u32 id, .int .u32 sq, .int .u16 fm]) rfl (by kernel_rfl) (by kernel_rfl) (by kernel_rfl) (fun _ _ _ h => h) (.inl ⟨rfl, ?_⟩) hHeld ?_
        · (intro w hSw; go_simp)
        go_frame
        refine take_list (i := 1) (v := .pointer (some ⟨R, 0, none⟩)) rfl (by kernel_rfl) (by kernel_rfl) (by kernel_rfl) (fun _ _ _ h => h) (.inl ⟨rfl, ?_⟩) hHeld ?_
        · (intro w hSw; go_simp)
        go_frame
        refine take_list (i := 2) (v := .agg #[.int .u32 a, .int .i64 n, .int .u32 id, .int .u32 sq, .int .u16 fm]) rfl (by kernel_rfl) (by kernel_rfl) (by kernel_rfl) (fun _ _ _ h => h) (.inl ⟨rfl, ?_⟩) hHeld ?_
        · (intro w hSw; go_simp)
        go_frame
        refine ready_list (i := 3) rfl (by kernel_rfl) (fun K hK => ?_)
        go_simp
        refine V.out.2.2.1.mono ?_
        rintro e w9 ⟨rfl, hG9⟩
        obtain ⟨F9, hz9, t9, n9⟩ := hG9
        have m0 := t9.cell k0 V.out.2.2.2.1
        have m1 := t9.cell k1 V.out.2.2.2.1
        have m2 := t9.cell k2 V.out.2.2.2.1
        have m3 := t9.cell k3 V.out.2.2.2.1
        have m4 := t9.cell k4 V.out.2.2.2.1
        refine hK.out _ _ ⟨m0, m1, m2, m3, m4⟩ (fun hHeld => ?_)
        clear hK K k0 k1 k2 k3 k4
        have UB9 := V.out.1.turn t9 V.out.2.2.2.2
        have G9 := Lib.hid (show Goes F v8 R room sp _ w9 from ⟨F9, hz9, t9, n9⟩)
        clear hz9 t9 n9
        have z0 := UB9.at_ 0
        have z1 := UB9.at_ 1
        have z2 := UB9.at_ 2
        have z3 := UB9.at_ 3
        have z4 := UB9.at_ 4
        have y0 := UB9.free 0
        have y1 := UB9.free 1
        have y2 := UB9.free 2
        have y3 := UB9.free 3
        have y4 := UB9.free 4
        refine ready_list (i := 4) rfl (by kernel_rfl) (fun K hK => ?_)
        go_simp
        have T9 := five_turn w9 (b + 1) (.int .u32 a) (.int .i64 n) (.int .u32 id) (.int .u32 sq) (.int .u16 fm)
        have l0 := T9.cell m0 (by simp; omega)
        have l1 := T9.cell m1 (by simp; omega)
        have l2 := T9.cell m2 (by simp; omega)
        have l3 := T9.cell m3 (by simp; omega)
        have l4 := T9.cell m4 (by simp; omega)
        refine hK.out _ _ ⟨l0, l1, l2, l3, l4⟩ (fun hHeld => ?_)
        have D9 := five_store UB9 (.int .u32 a) (.int .i64 n) (.int .u32 id) (.int .u32 sq) (.int .u16 fm)
        have G10 := Goes.put (w := w) (by rw [HBW.out]; exact V.out.2.1) (fun y hy => by rw [HBW.out]; exact HFw.out y hy) G9.out T9 (fun y hy => by
          simp at hy
          rw [HBW.out]
          omega)
        have GG := Lib.hid G10
        clear hK K z0 z1 z2 z3 z4 y0 y1 y2 y3 y4 m0 m1 m2 m3 m4 T9 G10 G9 UB9
        generalize ((((w9.setCell ⟨b + 1, 0, none⟩ (.int .u32 a)).setCell ⟨b + 1, 1, none⟩ (.int .i64 n)).setCell ⟨b + 1, 2, none⟩ (.int .u32 id)).setCell ⟨b + 1, 3, none⟩ (.int .u32 sq)).setCell ⟨b + 1, 4, none⟩ (.int .u16 fm) = w10 at *
        refine ready_list (i := 5) rfl (by kernel_rfl) (fun K hK => ?_)
        go_simp
        refine hK.out _ _ ⟨l0, l1, l2, l3, l4⟩ (fun hHeld => ?_)
        clear hK K l0 l1 l2 l3 l4
        refine wpAnyH_done (by kernel_rfl) ?_ _
        try go_frame
        have q1 := D9.at_ 0
        have q2 := D9.at_ 1
        have q3 := D9.at_ 2
        have q4 := D9.at_ 3
        have q5 := D9.at_ 4
        clear hHeld
        go_wp2_with fail
        refine bodyPost_ret (v := .tuple #[.agg #[.int .u32 a, .int .i64 n, .int .u32 id, .int .u32 sq, .int .u16 fm], .bool true]) ?_ rfl ⟨⟨a, n, id, sq, fm⟩, true, rfl, ?_, ?_⟩
        · simp [results, Tryz.results185, go_sem, q1, q2, q3, q4, q5]
        · unfold Upd
          rw [Mr.tell1_way X.out.2.2.2.2.2.1 Z.out.2.2.2.1, Z.out.2.2.2.2.2.1, if_pos rfl]
        · rw [Mr.tell1_way X.out.2.2.2.2.2.1 Z.out.2.2.2.1, Z.out.2.2.2.2.2.1]
          exact GG.out
end Go.Proofs.YtkchckeecfalhaaGreat

namespace Go.Proofs.YtkchckeecfalhaaGreat
open Go.RowKit Go.Maps Rm Fm Sb

/-- an entry: a prefix, what becomes of it, who is next -/
structure Fe where
  a : Nat
  n : Int
  how : Int
  nx : Int
deriving DecidableEq
def fcl (e : Fe) : List Value := [.int .u32 e.a, .int .i64 e.n, .int .i64 e.how, .int .i64 e.nx]
/-- v is a list of the call's own (from block B on) that holds us -/
def Lf (B : Nat) (v : Value) (us : List Fe) (W : World) : Prop := W.ownsRow B 102 4 v us.length (us.flatMap fcl) ∧ (v = .slice none 0 0 ↔ us = [])
section
variable {B : Nat} {v : Value} {us : List Fe} {W W' : World}
end

/-! ### what becomes of a subject -/
def Mr.entry (M : Mr) (e : En) : List Fe :=
  if M.owns ⟨e.a, e.n⟩ = true then [⟨e.a, e.n, 1, 0⟩]
  else match M.pick e.a e.n with
    | some r => [⟨e.a, e.n, 2, r.fr⟩]
    | none => if e.on = true then [⟨e.a, e.n, 3, 0⟩] else []
theorem Subj.ok {M : Mr} {rs : List En} (h : Subj M rs) {e : En} (he : e ∈ rs) : Pk.ok ⟨e.a, e.n⟩ := by
  rcases (h.mem e).1 he with ⟨h1 | ⟨id, h1⟩, -⟩ | ⟨-, ⟨fr, h1⟩, -⟩
  · exact h1.1
  · exact ⟨h1.1.1, h1.1.2.1⟩
  · exact ⟨h1.1.1, h1.1.2.1⟩
end Go.Proofs.YtkchckeecfalhaaGreat

namespace Go.Proofs.YtkchckeecfalhaaGreat
open Go.RowKit Go.Maps Rm Fm Sb

theorem SjAt.form {W : World} {v : Value} {es : List En} (h : SjAt W v es) : ∃ p cap, v = .slice p es.length cap := by
  rcases h with ⟨rfl, rfl⟩ | ⟨g, cap, rfl, -⟩
  · exact ⟨none, 0, rfl⟩
  · exact ⟨_, cap, rfl⟩
/-- Fib behind some subjects -/
structure FbR (W1 : World) (M : Mr) (rs : List En) (k : Nat) (v : Value) (w : World) : Prop where
  f : Lf W1.heap.size v ((rs.take k).flatMap M.entry) w
  b : Below W1.heap.size W1 w
end Go.Proofs.YtkchckeecfalhaaGreat

namespace Go.Proofs.YtkchckeecfalhaaGreat
open Go.RowKit Go.Maps Rm Fm Sb

/-! ### how many prefixes there are -/
theorem Mo.count {P : Program} {kt : TypeId} {α : Type} [DecidableEq α] {E : Ke P kt α} {w : World} {o : Option Nat} {n : Nat} {f : α → Option Value} (h : Mo E w o n f) : ∃ ks : List α, ks.Nodup ∧ (∀ k, k ∈ ks ↔ E.ok k ∧ (f k).isSome = true) ∧ n = ks.length := by
  cases o with
  | none => exact ⟨[], List.nodup_nil, fun k => by rw [h.2 k]; simp, h.1⟩
  | some b =>
    have h' : Mk E w b n f := h
    obtain ⟨ks, h1, h2⟩ := Mk.list h'
    exact ⟨ks, h1, h2, (Mk.card h' h1 h2).symm⟩
/-- at most N prefixes are noted, or have a floor (of some router); there are at most n ways -/
structure Few (M : Mr) (N n : Nat) : Prop where
  ex : ∃ (ps : List Pk) (ks : List Ky) (ws : List Rk), ps.length + ks.length ≤ N ∧ ws.length ≤ n ∧ (∀ p, (M.sm.own p).isSome = true → p ∈ ps) ∧ (∀ k, (M.sm.floor k).isSome = true → k ∈ ks) ∧ (∀ k, (M.f k).isSome = true → k ∈ ws)
theorem Rr.few {w : World} {R : Nat} {o fl tb : Option Nat} {j : Jr} {N0 n0 : Nat} {M : Mr} (h : Rr w R o fl tb j N0 n0 M) {N n : Nat} (hf : Few M N n) : Rr w R o fl tb j N n0 M ∧ n0 ≤ n := by
  obtain ⟨cn, cm, hnm, hS⟩ := h.nt
  obtain ⟨ps, ks, ws, h1, h2, h3, h4, h5⟩ := hf.ex
  obtain ⟨a1, b1, c1, rfl⟩ := hS.owns.count
  obtain ⟨a2, b2, c2, rfl⟩ := hS.floors.count
  obtain ⟨a3, b3, c3, d3⟩ := h.mp.count
  have e1 := List.Nodup.length_le_of_subset b1 (l₂ := ps) fun k hk => h3 k (by have := ((c1 k).1 hk).2; rw [Option.isSome_map] at this; exact this)
  have e2 := List.Nodup.length_le_of_subset b2 (l₂ := ks) fun k hk => h4 k (by have := ((c2 k).1 hk).2; rw [Option.isSome_map] at this; exact this)
  have e3 := List.Nodup.length_le_of_subset b3 (l₂ := ws) fun k hk => h5 k (by have := ((c3 k).1 hk).2; rw [vals_some] at this; exact this)
  exact ⟨⟨⟨a1.length, a2.length, by omega, hS⟩, h.mp, h.apart, h.fits⟩, by omega⟩
theorem rz_subj {F : List Nat} {w : World} {R room sp : Nat} {M : Mr} (h : Rz F w R room sp M) {N n : Nat} (hf : Few M N n) (hn : 2 * N + n < 20) :
    Calls Tryz.prog 98 #[.pointer (some ⟨R, 0, none⟩)] w fun e w' => ∃ v rs, e = .returned v ∧ Subj M rs ∧ rs.length < 20 ∧ SjAt w' v rs ∧ (∀ b, v.ownBlock = some b → w.heap.size ≤ b) ∧ Below w.heap.size w w' := by
  obtain ⟨o, fl, tb, j, N0, n0, hR⟩ := h.rr
  obtain ⟨h1, h2⟩ := hR.few hf
  exact rr_subj h1 (by omega)
end Go.Proofs.YtkchckeecfalhaaGreat

