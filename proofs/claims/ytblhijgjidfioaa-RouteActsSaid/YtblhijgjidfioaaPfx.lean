/-
  Package route's Prefixes: the list, in order.
-/
import Derived.Test.YtblhijgjidfioaaPfs
import Derived.Test.YtblhijgjidfioaaRtP
import Derived.Lib.OwnKind
namespace Go.Proofs.Ytblhijgjidfioaa
open Go.RowKit Go.Maps Go.Sort
attribute [local go_sem] Oper.semAt_some

theorem infoP : (Try.prog.info? 32).map (fun i => (i.zero, i.size, i.bytes)) = some (some (.agg #[.int .u32 0, .int .i64 0]), 2, 16) := by kernel_rfl

/-- a map that may be nil is gone through -/
def Ro (o : Option Nat) (w : World) (r n : Nat) (f : Rk → Option Value) (left : Rk → Bool) (cnt : Nat) : Prop :=
  match o with
  | none => w.heap[r]? = some (.mapIter none 0 #[] 0) ∧ n = 0 ∧ cnt = 0 ∧ ∀ z, left z = false
  | some b => Rg rkE w b r n f left cnt
def roLeft (o : Option Nat) (w : World) (r : Nat) : Nat :=
  match o with
  | none => 0
  | some b => w.rangeLeft b r
theorem Ro.left_eq {o : Option Nat} {w : World} {r n : Nat} {f : Rk → Option Value} {left : Rk → Bool} {cnt : Nat} (h : Ro o w r n f left cnt) : roLeft o w r = cnt := by
  cases o with
  | none => exact h.2.2.1.symm
  | some b => exact Rg.left_eq h
theorem Ro.of_walks {o : Option Nat} {w w' : World} {r n : Nat} {f : Rk → Option Value} {left : Rk → Bool} {cnt : Nat} (h : Ro o w r n f left cnt) (hk : KeepsWalks w w') : Ro o w' r n f left cnt := by
  cases o with
  | none => exact ⟨hk.same r _ h.1 rfl, h.2⟩
  | some b => exact Rg.of_walks h hk
theorem Ro.iter_walk {o : Option Nat} {w : World} {r n : Nat} {f : Rk → Option Value} {left : Rk → Bool} {cnt : Nat} (h : Ro o w r n f left cnt) : ∃ ob : Obj, w.heap[r]? = some ob ∧ ob.isWalk = true := by
  cases o with
  | none => exact ⟨_, h.1, rfl⟩
  | some b => exact Rg.iter_walk h
theorem Ro.next {o : Option Nat} {w : World} {r n : Nat} {f : Rk → Option Value} {left : Rk → Bool} {cnt : Nat} (h : Ro o w r n f left cnt) (ty : TypeId) :
    (cnt = 0 ∧ (∀ z, rkE.ok z → left z = false) ∧ (Instr.next (.pointer (some ⟨r, 0, none⟩)) false ty).run Try.prog w = .ok (.tuple #[.bool false]) w) ∨
    ∃ (i : Rk) (v : Value) (w' : World) (cnt' : Nat), rkE.ok i ∧ left i = true ∧ f i = some v ∧ (Instr.next (.pointer (some ⟨r, 0, none⟩)) false ty).run Try.prog w = .ok (.tuple #[.bool true, rkE.enc i, v]) w' ∧
      Ro o w' r n f (fun z => left z && !decide (z = i)) cnt' ∧ cnt' < cnt ∧ w.grownBy w' (some r) ∧ w'.heap.size = w.heap.size ∧ (Instr.entry (.pointer (some ⟨r, 0, none⟩))).run Try.prog w' = .ok (.tuple #[rkE.enc i, v]) w' := by
  cases o with
  | none =>
    refine .inl ⟨h.2.2.1, fun z _ => h.2.2.2 z, ?_⟩
    simp only [Instr.next, getObj, Sem.run_bind, Sem.run, h.1, Result.andThen]
    rfl
  | some b => exact Rg.next h ty
theorem Ro.range {o : Option Nat} {w : World} {n : Nat} {f : Rk → Option Value} (h : Mo rkE w o n f) :
    ∃ w', (Instr.range 73 (.map o)).run Try.prog w = .ok (.pointer (some ⟨w.heap.size, 0, none⟩)) w' ∧ Ro o w' w.heap.size n f (fun z => (f z).isSome) n ∧ w.grownBy w' none ∧ w'.heap.size = w.heap.size + 1 := by
  cases o with
  | none => exact ⟨_, run_range_nilMap (P := Try.prog) w 73 77 37 (by kernel_rfl), ⟨heap_alloc_new w _, h.1, h.1, fun z => by show (f z).isSome = false; rw [h.2 z]; rfl⟩, World.grownBy_alloc w _ none, size_new _ _⟩
  | some b => exact Mk.range h (t := 73) (e := 37) (by kernel_rfl)

theorem Tb.len {w : World} {t n : Nat} {o : Option Nat} {f : Ways} (h : Tb w t o n f) : ∀ ty, (Builtin.len_ #[73] ty #[.map o]).run Try.prog w = .ok (.int .i64 (n : Int)) w := fun ty => by
  cases o with
  | none =>
    obtain ⟨h0, -⟩ := h.map
    subst h0
    exact Maps.len_nil (k := 77) (e := 37) (by kernel_rfl) ty
  | some b => exact Mk.len (e := 37) h.map (by kernel_rfl) ty
def preK (k : Rk) : Pk := ⟨k.a, k.n⟩

/-- what stands while the keys are gone through -/
structure Col (w wr : World) (o : Option Nat) (r n : Nat) (f : Ways) (B : Nat) (left : Rk → Bool) (cnt : Nat) (ss : List Rk) (g cap : Nat) : Prop where
  rg : Ro o wr r n (vals f) left cnt
  card : ss.length + cnt ≤ n
  came : Came rkE (vals f) left ss
  box : Blk 60 wr B #[.slice (some ⟨g, 0, none⟩) ss.length cap]
  row : wr.ownsRow w.heap.size 32 2 (.slice (some ⟨g, 0, none⟩) ss.length cap) ss.length ((ss.map preK).flatMap clP)
  gB : g ≠ B
  B0 : w.heap.size ≤ B
  r0 : w.heap.size ≤ r
  below : Below w.heap.size w wr

/-- what Prefixes leaves: a box that holds the list, in order -/
structure Pfx (w w' : World) (f : Ways) (n B g cap : Nat) (xs : List Pk) : Prop where
  box : Blk 60 w' B #[.slice (some ⟨g, 0, none⟩) xs.length cap]
  row : ∃ F, PR w' g F xs.length ∧ ∀ i (h : i < xs.length), F i = xs[i]
  asc : xs.Pairwise ltP
  mem : ∀ p, p ∈ xs ↔ ∃ fr, Rk.ok ⟨p.a, p.n, fr⟩ ∧ (f ⟨p.a, p.n, fr⟩).isSome = true
  gB : g ≠ B
  B0 : w.heap.size ≤ B
  g0 : w.heap.size ≤ g
  gl : g < w'.heap.size
  len : xs.length ≤ n
  below : Below w.heap.size w w'
theorem PR.turn {w w' : World} {L : List Nat} {g m : Nat} {f : Nat → Pk} (h : PR w g f m) (ht : Turn L w w') (hg : g ∉ L) (hl : g < w.heap.size) : PR w' g f m := by
  have e := ht.block g hl hg
  exact ⟨fun i hi => by rw [World.cell?_of_block e]; exact h.c0 i hi, fun i hi => by rw [World.cell?_of_block e]; exact h.c1 i hi,
    fun i hi => by have := h.f0 i hi; unfold World.frozen? at this ⊢; rw [e]; exact this, fun i hi => by have := h.f1 i hi; unfold World.frozen? at this ⊢; rw [e]; exact this⟩

set_option maxHeartbeats 4000000 in
set_option maxRecDepth 100000 in
theorem pfx_any {w : World} {t n : Nat} {o : Option Nat} {f : Ways} (h : Tb w t o n f) (hn : n ≤ 100000) :
    Calls Try.prog 19 #[.pointer (some ⟨t, 0, none⟩)] w fun e w' => ∃ B g cap xs, e = .returned (.func (.func 33) #[] #[.pointer (some ⟨B, 0, none⟩)]) ∧ Pfx w w' f n B g cap xs := by
  obtain ⟨i0, hi0, hz0, hz1, hz2⟩ := info_parts infoP
  have c0 := h.head.at_ 0
  have hl := h.len
  obtain ⟨w1, hmk, hown, hgr⟩ := run_make_own (P := Try.prog) (w := w) w.heap.size 60 32 i0 (.agg #[.int .u32 0, .int .i64 0]) 2 (by kernel_rfl) hi0 hz0 hz1 .i64 .i64 n (by rw [hz2]; omega) (by unfold maxLen; omega) (Nat.le_refl _)
  have II := Lib.hid (And.intro hi0 (And.intro hz0 (And.intro hz1 hz2)))
  clear hi0 hz0 hz1 hz2
  have hb1 : Below w.heap.size w w1 := (Below.refl _ _).grown hgr (Nat.le_refl _) (fun k e => by cases e)
  have hB0 := hgr.size
  have hgl := (hown.lt w.heap.size rfl).2
  have hb2 := next hb1 (below_new w1 (.cells #[.slice (some ⟨w.heap.size, 0, none⟩) 0 n] 60))
  have h2 := h.held hb2
  have cB := Blk.new w1 60 #[.slice (some ⟨w.heap.size, 0, none⟩) 0 n]
  have c1 := h2.head.at_ 0
  obtain ⟨w3, hrn, hrg, hg3, hs3⟩ := Ro.range h2.map
  have hb3 := next hb2 ((Below.refl _ _).grown hg3 (Nat.le_refl _) (fun k e => by cases e))
  have cB3 : Blk 60 w3 w1.heap.size #[.slice (some ⟨w.heap.size, 0, none⟩) 0 n] := cB.grown (B := 0) hg3 (fun r e => by cases e)
  have row3 := (hown.alloc (.cells #[.slice (some ⟨w.heap.size, 0, none⟩) 0 n] 60)).kept hg3 (.inr (by simp [Value.ownBlock]))
  have C0 : Col w w3 o (w1.heap.size + 1) n f w1.heap.size (fun z => (vals f z).isSome) n [] w.heap.size n := ⟨by rw [size_new] at hrg; exact hrg, by simp, Came.start _ _, cB3, row3, by omega, by omega, by omega, hb3⟩
  rw [size_new] at hrn
  have CC := Lib.hid C0
  clear hb1 hb2 hb3 h2 cB cB3 row3 hrg hg3 C0 hown hgr
  go_enter Try.func19, Try.ntmps19
  go_wp2_with fail
  generalize hg : w1.heap.size = B at *
  clear hmk hrn hl c0 c1 hs3 hgl hB0 hg
  go_loopw [4] (fun _ wr => ∃ (left : Rk → Bool) (cnt : Nat) (ss : List Rk) (g cap : Nat), Hid (Col w wr o (B + 1) n f B left cnt ss g cap)) (fun _ wr => roLeft o wr (B + 1))
  case atStart => exact ⟨_, _, _, _, _, CC⟩
  case round =>
    clear CC
    obtain ⟨left, cnt, ss, g, cap, C⟩ := hrel
    rcases C.out.rg.next 0 with ⟨hc0, hl0, hrun⟩ | ⟨⟨a, len, fr⟩, v, w2, cnt2, hi, hli, hfi, hrun, hrg2, hlt, hg2, hs2, hen⟩
    · have b0 := C.out.box.at_ 0
      have hS := sort_pfx (xs := ss.map preK) (by rw [List.length_map]; have := C.out.card; omega) (by rw [List.length_map]; exact C.out.row)
      simp only [List.length_map] at hS
      go_wp2_with fail
      refine hS.mono ?_
      rintro e w4 ⟨rfl, F, hP, hasc, hmem, hg4⟩
      have hCo := compact_any hP (by have := C.out.card; omega) (cap := cap) (by
        rcases C.out.row.2 with ⟨h0, -⟩ | ⟨_, _, _, h0, _, _, h1, _⟩
        · cases h0
        · cases h0; exact h1)
      have bx : Blk 60 w4 B #[.slice (some ⟨g, 0, none⟩) ss.length cap] := (hg4.block B C.out.box.lt (fun e => C.out.gB (by cases e; rfl))).trans C.out.box
      have hb4 : Below w.heap.size w w4 := C.out.below.grown hg4 C.out.below.size (fun k e => by cases e; exact (C.out.row.lt g rfl).1)
      have gl4 : g < w4.heap.size := Nat.lt_of_lt_of_le (C.out.row.lt g rfl).2 hg4.size
      have Z := Lib.hid (And.intro bx (And.intro hb4 (And.intro hasc (And.intro hmem gl4))))
      have b1 := bx.at_ 0
      clear b0 hS hP hasc hmem hg4 bx hb4 gl4
      go_wp2_with fail
      refine hCo.mono ?_
      rintro e w5 ⟨v5, rfl, D⟩
      have bx5 : Blk 60 w5 B #[.slice (some ⟨g, 0, none⟩) ss.length cap] := Z.out.1.turn D.turn (by simp; exact fun e => C.out.gB e.symm)
      have b2 := bx5.at_ 0
      have b3 := bx5.free 0
      have Y := Lib.hid (And.intro bx5 (And.intro D.row D.turn))
      obtain rfl := D.val
      obtain ⟨xs, hxs⟩ : ∃ xs, keep F ss.length = xs := ⟨_, rfl⟩
      clear D bx5
      rw [hxs] at Y ⊢
      have HX := Lib.hid hxs
      clear hxs
      go_wp2_with fail
      go_ret
      have bx6 := Y.out.1.store 0 (.slice (some ⟨g, 0, none⟩) xs.length cap)
      have hT : Turn [B] w5 (w5.setCell ⟨B, 0, none⟩ (.slice (some ⟨g, 0, none⟩) xs.length cap)) := Turn.setCell _ (by simp) _
      obtain ⟨F', hP', hF'⟩ := Y.out.2.1
      have gl5 : g < w5.heap.size := Nat.lt_of_lt_of_le Z.out.2.2.2.2 Y.out.2.2.size
      have hka := keep_sorted (f := F) (n := ss.length) Z.out.2.2.1
      rw [HX.out] at hka
      refine ⟨B, g, cap, xs, rfl, bx6, ⟨F', hP'.turn hT (by simp; exact C.out.gB) gl5, hF'⟩, hka.1, fun p => ?_, C.out.gB, C.out.B0, (C.out.row.lt g rfl).1, Nat.lt_of_lt_of_le gl5 hT.size, by rw [← HX.out]; exact Nat.le_trans (keep_len _ _) (by have := C.out.card; omega), ?_⟩
      · rw [hka.2 p, Z.out.2.2.2.1 p, List.mem_map]
        have hall := (C.out.came.all hl0).2
        constructor
        · rintro ⟨⟨a, n, fr⟩, hk, rfl⟩
          obtain ⟨h1, h2⟩ := (hall _).1 hk
          exact ⟨fr, h1, by rw [← vals_some]; exact h2⟩
        · rintro ⟨fr, h1, h2⟩
          exact ⟨⟨p.a, p.n, fr⟩, (hall _).2 ⟨h1, by rw [vals_some]; exact h2⟩, rfl⟩
      · have hT2 := Y.out.2.2
        have h5 : Below w.heap.size w w5 := Z.out.2.1.trans (hT2.below (fun i hi => by simp at hi; subst hi; exact (C.out.row.lt _ rfl).1) Z.out.2.1.size)
        exact h5.trans (hT.below (fun i hi => by simp at hi; subst hi; exact C.out.B0) h5.size)
    · replace hrun : (Instr.next (.pointer (some ⟨B + 1, 0, none⟩)) false 0).run Try.prog wr = .ok (.tuple #[.bool true, .agg #[.int .u32 a, .int .i64 len, .int .i64 fr], v]) w2 := hrun
      replace hen : (Instr.entry (.pointer (some ⟨B + 1, 0, none⟩))).run Try.prog w2 = .ok (.tuple #[.agg #[.int .u32 a, .int .i64 len, .int .i64 fr], v]) w2 := hen
      obtain ⟨ob, hob, hwk⟩ := C.out.rg.iter_walk
      have hoc := Obj.not_cells_of_walk hwk
      have bx : Blk 60 w2 B #[.slice (some ⟨g, 0, none⟩) ss.length cap] := C.out.box.grown (B := 0) hg2 (fun r e => by cases e; exact ⟨Nat.zero_le _, ob, hob, hoc⟩)
      have rw2 := C.out.row.kept hg2 (.inr (by
        intro e
        have e2 : g = B + 1 := by simpa [Value.ownBlock] using e
        obtain ⟨_, _, hk⟩ := Lib.ownsRow_kind C.out.row g rfl
        rw [e2, hob] at hk
        cases hk
        cases hoc))
      have hb2 : Below w.heap.size w w2 := C.out.below.grown hg2 C.out.below.size (fun k e => by cases e; exact C.out.r0)
      have C2 := Lib.hid (And.intro C.out.card (And.intro (C.out.came.step hi hli hfi) (And.intro hrg2 (And.intro bx (And.intro rw2 (And.intro hb2 (And.intro C.out.gB (And.intro C.out.B0 C.out.r0))))))))
      have hmeas := C.out.rg.left_eq
      clear bx rw2 hb2 hrg2 hoc hwk hob C
      have b0 := C2.out.2.2.2.1.at_ 0
      clear hs2 hg2
      have b1 := (C2.out.2.2.2.1.more (.cells #[.int .u32 a, .int .i64 len, .int .i64 fr] 77)).at_ 0
      have hz2 : B < w2.heap.size := C2.out.2.2.2.1.lt
      go_wp2_with (first | (at_builtin; refine wpList_append_own _ rfl (.tmp 20) (.tmp 23) 60 rfl w.heap.size 32 i0 (.agg #[.int .u32 0, .int .i64 0]) 2 16 (by kernel_rfl) II.out.1 II.out.2.1 II.out.2.2.1 II.out.2.2.2 rfl (by decide) _ _ _ rfl ((C2.out.2.2.2.2.1.alloc _).alloc _) ⟨w2.heap.size + 1, 0, none⟩ 1 1 [.int .u32 a, .int .i64 len] rfl ?c1 ?c2 ?c3 ?c4 ?c5 ?c6 ?_))
      case c1 => rfl
      case c2 =>
        intro j u hj
        rw [Addr.add_mid, Nat.zero_add, show w2.heap.size + 1 = (w2.alloc (.cells #[.int .u32 a, .int .i64 len, .int .i64 fr] 77)).heap.size from (size_new _ _).symm, new_cell]
        simpa using hj
      case c3 =>
        intro u hu
        simp only [List.mem_cons, List.not_mem_nil, or_false] at hu
        rcases hu with rfl | rfl <;> rfl
      case c4 => have := C2.out.1; unfold maxLen; omega
      case c5 => have := C2.out.1; omega
      case c6 =>
        have := C2.out.2.2.2.2.2.1.size
        rw [size_new, size_new]
        omega
      intro v' w10 hown' hgrow hnil
      obtain ⟨g2, cap2, rfl⟩ : ∃ g2 cap2, v' = .slice (some ⟨g2, 0, none⟩) (ss.length + 1) cap2 := by
        rcases hown'.2 with ⟨h0, -⟩ | ⟨g3, cap3, _, h0, _⟩
        · exact absurd h0 (by simpa using hnil)
        · exact ⟨g3, cap3, h0⟩
      have bx10 : Blk 60 w10 B #[.slice (some ⟨g, 0, none⟩) ss.length cap] := (hgrow.block B (by rw [size_new, size_new]; omega) (fun e => C2.out.2.2.2.2.2.2.1 (by simpa [Value.ownBlock] using e.symm))).trans ((C2.out.2.2.2.1.more _).more _)
      have hgB : g2 ≠ B := fun e => by
        obtain ⟨_, _, hk⟩ := Lib.ownsRow_kind hown' g2 rfl
        unfold Blk at bx10
        rw [e, bx10] at hk
        cases hk
      have k1 : KeepsWalks w2 w10 := ((KeepsWalks.alloc w2 _).trans (KeepsWalks.alloc _ _)).trans (KeepsWalks.of_grownBy hgrow (fun j ob hj ho => by
        obtain ⟨_, _, hk⟩ := Lib.ownsRow_kind ((C2.out.2.2.2.2.1.alloc (.cells #[.int .u32 a, .int .i64 len, .int .i64 fr] 77)).alloc (.cells #[.int .u32 a, .int .i64 len] 32)) j hj
        rw [ho] at hk
        cases hk
        rfl))
      have hb10 : Below w.heap.size w w10 := ((C2.out.2.2.2.2.2.1.alloc C2.out.2.2.2.2.2.1.size _).alloc (by have := C2.out.2.2.2.2.2.1.size; rw [size_new]; omega) _).grown hgrow (by have := C2.out.2.2.2.2.2.1.size; rw [size_new, size_new]; omega) (fun k e => by cases e; exact (C2.out.2.2.2.2.1.lt g rfl).1)
      have Z := Lib.hid (And.intro hown' (And.intro bx10 (And.intro hgB (And.intro k1 hb10))))
      have b4 := bx10.at_ 0
      have b5 := bx10.free 0
      clear hown' hgrow hnil bx10 hgB k1 hb10 b0 b1
      go_wp2_with fail
      go_roundw
      case rel =>
        have hT : Turn [B] w10 (w10.setCell ⟨B, 0, none⟩ (.slice (some ⟨g2, 0, none⟩) (ss.length + 1) cap2)) := Turn.setCell _ (by simp) _
        have hl : (ss ++ [(⟨a, len, fr⟩ : Rk)]).length = ss.length + 1 := by simp
        refine ⟨_, cnt2, ss ++ [⟨a, len, fr⟩], g2, cap2, C2.out.2.2.1.of_walks (Z.out.2.2.2.1.trans (KeepsWalks.setCell _ _ _)), by rw [hl]; have := C2.out.1; omega, C2.out.2.1, ?_, ?_, Z.out.2.2.1, C2.out.2.2.2.2.2.2.2.1, C2.out.2.2.2.2.2.2.2.2, ?_⟩
        · rw [hl]; exact Z.out.2.1.store 0 _
        · rw [hl, List.map_append, List.flatMap_append]
          exact ownsRow_setCell_other Z.out.1 (fun e => Z.out.2.2.1 (by simpa [Value.ownBlock] using e)) _
        · exact Z.out.2.2.2.2.trans (hT.below (fun i hi => by simp at hi; subst hi; exact C2.out.2.2.2.2.2.2.2.1) Z.out.2.2.2.2.size)
      case measure =>
        have := (C2.out.2.2.1.of_walks (Z.out.2.2.2.1.trans (KeepsWalks.setCell w10 ⟨B, 0, none⟩ (.slice (some ⟨g2, 0, none⟩) (ss.length + 1) cap2)))).left_eq
        omega
end Go.Proofs.Ytblhijgjidfioaa
