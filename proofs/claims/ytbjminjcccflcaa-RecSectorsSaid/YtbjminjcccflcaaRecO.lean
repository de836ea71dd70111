/-
  The contract of package rec's Of.
-/
import Derived.Test.YtbjminjcccflcaaRecY
import Derived.Maps.RangeWalk
import Derived.Laws.ResultCell
import Derived.Laws.Rows
namespace Go.Proofs.Ytbjminjcccflcaa
open Go.RowKit Rm

theorem val_two (x y : Nat) : val [x, y] = x * 256 + y := by simp [val]
theorem val_four (x y z u : Nat) : val [x, y, z, u] = ((x * 256 + y) * 256 + z) * 256 + u := by simp [val]
/-- a part of bytes -/
theorem BytesAt.part {w : World} {ad : Addr} {n : Nat} {bs : List Nat} (h : BytesAt w (some ad) n bs) (o m : Nat) (hm : o + m ≤ n) : BytesAt w (some (ad.add o)) m ((bs.drop o).take m) := by
  obtain ⟨h1, h2, h3, h4⟩ := h
  refine ⟨by simp; omega, by omega, fun c hc => h3 c (List.mem_of_mem_drop (List.mem_of_mem_take hc)), fun k hk => ?_⟩
  obtain ⟨ad', e, hc⟩ := h4 (o + k) (by omega)
  cases e
  refine ⟨_, rfl, ?_⟩
  rw [Addr.add_add, hc]
  congr 3
  have h5 : o + k < bs.length := by omega
  simp [List.getD, hk, h5]
theorem part_four {bs : List Nat} (h : bs.length = 48) (o : Nat) (ho : o + 4 ≤ 48) : (bs.drop o).take 4 = [bs.getD o 0, bs.getD (o + 1) 0, bs.getD (o + 2) 0, bs.getD (o + 3) 0] := by
  apply List.ext_getElem
  · simp; omega
  · intro k h1 h2
    have hk : k < 4 := by simpa using h2
    have : k = 0 ∨ k = 1 ∨ k = 2 ∨ k = 3 := by omega
    rcases this with rfl | rfl | rfl | rfl <;> simp [List.getD, show o < bs.length by omega, show o + 1 < bs.length by omega, show o + 2 < bs.length by omega, show o + 3 < bs.length by omega]
theorem part_two {bs : List Nat} (h : bs.length = 48) (o : Nat) (ho : o + 2 ≤ 48) : (bs.drop o).take 2 = [bs.getD o 0, bs.getD (o + 1) 0] := by
  apply List.ext_getElem
  · simp; omega
  · intro k h1 h2
    have hk : k < 2 := by simpa using h2
    have : k = 0 ∨ k = 1 := by omega
    rcases this with rfl | rfl <;> simp [List.getD, show o < bs.length by omega, show o + 1 < bs.length by omega]
/-- get of four bytes, of two -/
theorem get_four {w : World} {ad : Addr} {cap : Nat} {bs : List Nat} (h : BytesAt w (some ad) 48 bs) (o : Nat) (ho : o + 4 ≤ 48) :
    Calls Try.prog 21 #[.slice (some (ad.add o)) 4 cap] w fun e w' => e = .returned (.int .u32 (num4 bs o : Nat)) ∧ w = w' := by
  have k := get_any _ 4 cap _ w (h.part o 4 ho) (by omega)
  rwa [part_four h.1 o ho, val_four] at k
theorem get_two {w : World} {ad : Addr} {cap : Nat} {bs : List Nat} (h : BytesAt w (some ad) 48 bs) (o : Nat) (ho : o + 2 ≤ 48) :
    Calls Try.prog 21 #[.slice (some (ad.add o)) 2 cap] w fun e w' => e = .returned (.int .u32 (num2 bs o : Nat)) ∧ w = w' := by
  have k := get_any _ 2 cap _ w (h.part o 2 ho) (by omega)
  rwa [part_two h.1 o ho, val_two] at k
theorem BytesAt.at_ {w : World} {ad : Addr} {n : Nat} {bs : List Nat} (h : BytesAt w (some ad) n bs) {k : Nat} (hk : k < n) : w.cell? (ad.add k) = some (.int .u8 (bs.getD k 0 : Nat)) := by
  obtain ⟨ad', e, hc⟩ := h.2.2.2 k hk
  cases e
  exact hc

set_option maxHeartbeats 2000000 in
theorem of_short (A : Option Addr) (n cap : Nat) (w : World) (hn : n ≠ 48) (hn2 : n ≤ maxLen) :
    Calls Try.prog 9 #[.slice A n cap] w fun e w' => e = .returned (.tuple #[Rm.zero.val, .bool false]) ∧ Below w.heap.size w w' := by
  have d1 : ((n : Int) == 48) = false := beq_eq_false_iff_ne.2 (by omega)
  have hn3 : n ≤ 9223372036854775807 := by unfold maxLen at hn2; omega
  clear hn
  go_enter Try.func9, Try.ntmps9
  go_wp2
  refine bodyPost_ret (v := .tuple #[Rm.zero.val, .bool false]) ?_ rfl ⟨rfl, below_new _ _⟩
  simp [results, Try.results9, go_sem]
  rfl

theorem cut2 (b off cap : Nat) (hcap : 48 ≤ cap) (w : World) : (Instr.slice 32 (.slice (some ⟨b, off, none⟩) 48 cap) (some (.int .i64 2)) (some (.int .i64 4)) none).run Try.prog w = .ok (.slice (some ⟨b, off + 2, none⟩) 2 (cap - 2)) w := by
  have d1 : (4 : Int) ≤ (cap : Int) := by omega
  have d2 : ¬ cap = 2 := by omega
  go_simp
theorem cut4 (b off cap : Nat) (hcap : 48 ≤ cap) (w : World) : (Instr.slice 32 (.slice (some ⟨b, off, none⟩) 48 cap) (some (.int .i64 4)) (some (.int .i64 8)) none).run Try.prog w = .ok (.slice (some ⟨b, off + 4, none⟩) 4 (cap - 4)) w := by
  have d1 : (8 : Int) ≤ (cap : Int) := by omega
  have d2 : ¬ cap = 4 := by omega
  go_simp
theorem cut8 (b off cap : Nat) (hcap : 48 ≤ cap) (w : World) : (Instr.slice 32 (.slice (some ⟨b, off, none⟩) 48 cap) (some (.int .i64 8)) (some (.int .i64 12)) none).run Try.prog w = .ok (.slice (some ⟨b, off + 8, none⟩) 4 (cap - 8)) w := by
  have d1 : (12 : Int) ≤ (cap : Int) := by omega
  have d2 : ¬ cap = 8 := by omega
  go_simp
theorem cut12 (b off cap : Nat) (hcap : 48 ≤ cap) (w : World) : (Instr.slice 32 (.slice (some ⟨b, off, none⟩) 48 cap) (some (.int .i64 12)) (some (.int .i64 16)) none).run Try.prog w = .ok (.slice (some ⟨b, off + 12, none⟩) 4 (cap - 12)) w := by
  have d1 : (16 : Int) ≤ (cap : Int) := by omega
  have d2 : ¬ cap = 12 := by omega
  go_simp
theorem cut16 (b off cap : Nat) (hcap : 48 ≤ cap) (w : World) : (Instr.slice 32 (.slice (some ⟨b, off, none⟩) 48 cap) (some (.int .i64 16)) (some (.int .i64 20)) none).run Try.prog w = .ok (.slice (some ⟨b, off + 16, none⟩) 4 (cap - 16)) w := by
  have d1 : (20 : Int) ≤ (cap : Int) := by omega
  have d2 : ¬ cap = 16 := by omega
  go_simp
theorem cut24 (b off cap : Nat) (hcap : 48 ≤ cap) (w : World) : (Instr.slice 32 (.slice (some ⟨b, off, none⟩) 48 cap) (some (.int .i64 24)) (some (.int .i64 28)) none).run Try.prog w = .ok (.slice (some ⟨b, off + 24, none⟩) 4 (cap - 24)) w := by
  have d1 : (28 : Int) ≤ (cap : Int) := by omega
  have d2 : ¬ cap = 24 := by omega
  go_simp

/-- get of each part of 48 bytes -/
structure Gets (b off cap : Nat) (bs : List Nat) (x2 x4 x8 x12 x16 x24 : Nat) : Prop where
  g2 : ∀ wx : World, BytesAt wx (some ⟨b, off, none⟩) 48 bs → Calls Try.prog 21 #[.slice (some ⟨b, off + 2, none⟩) 2 (cap - 2)] wx fun e w' => e = .returned (.int .u32 (x2 : Nat)) ∧ wx = w'
  g4 : ∀ wx : World, BytesAt wx (some ⟨b, off, none⟩) 48 bs → Calls Try.prog 21 #[.slice (some ⟨b, off + 4, none⟩) 4 (cap - 4)] wx fun e w' => e = .returned (.int .u32 (x4 : Nat)) ∧ wx = w'
  g8 : ∀ wx : World, BytesAt wx (some ⟨b, off, none⟩) 48 bs → Calls Try.prog 21 #[.slice (some ⟨b, off + 8, none⟩) 4 (cap - 8)] wx fun e w' => e = .returned (.int .u32 (x8 : Nat)) ∧ wx = w'
  g12 : ∀ wx : World, BytesAt wx (some ⟨b, off, none⟩) 48 bs → Calls Try.prog 21 #[.slice (some ⟨b, off + 12, none⟩) 4 (cap - 12)] wx fun e w' => e = .returned (.int .u32 (x12 : Nat)) ∧ wx = w'
  g16 : ∀ wx : World, BytesAt wx (some ⟨b, off, none⟩) 48 bs → Calls Try.prog 21 #[.slice (some ⟨b, off + 16, none⟩) 4 (cap - 16)] wx fun e w' => e = .returned (.int .u32 (x16 : Nat)) ∧ wx = w'
  g24 : ∀ wx : World, BytesAt wx (some ⟨b, off, none⟩) 48 bs → Calls Try.prog 21 #[.slice (some ⟨b, off + 24, none⟩) 4 (cap - 24)] wx fun e w' => e = .returned (.int .u32 (x24 : Nat)) ∧ wx = w'
theorem gets (b off cap : Nat) (bs : List Nat) : Gets b off cap bs (num2 bs 2) (num4 bs 4) (num4 bs 8) (num4 bs 12) (num4 bs 16) (num4 bs 24) :=
  ⟨fun _ h => get_two h 2 (by omega), fun _ h => get_four h 4 (by omega), fun _ h => get_four h 8 (by omega), fun _ h => get_four h 12 (by omega), fun _ h => get_four h 16 (by omega), fun _ h => get_four h 24 (by omega)⟩

theorem rec_under : ∃ d, Try.prog.underlying 30 = some d ∧ d.isRow = true := ⟨_, rfl, rfl⟩
theorem rec_info (k : Int) (g l i a : Nat) (n : Int) (o : Bool) (s m : Nat) : (Try.prog.info? 30).map (·.size) = some (rcells k g l i a n o s m).size := by
  show _ = some 9
  kernel_rfl
theorem results_rec {fn : Func} {p u : Tmp} (h : fn.results = #[.cell p 30, .tmp u]) {tmps : Array Value} {w : World} {g : Nat} {k : Int} {g' l i a : Nat} {n : Int} {o : Bool} {s m : Nat} {v : Value} (hp : tmps.getD p undef = .pointer (some ⟨g, 0, none⟩)) (hu : tmps.getD u undef = v)
    (hb : Blk 30 w g (rcells k g' l i a n o s m)) : (results fn tmps).run Try.prog w = .ok (.tuple #[.agg (rcells k g' l i a n o s m), v]) w := by
  obtain ⟨d, h1, h2⟩ := rec_under
  rw [results_cell_tmp h, hp, hu]
  have hl := run_loadVar_row (P := Try.prog) w g 30 30 _ (0, 0) d hb h1 (by cases d <;> first | rfl | cases h2) (rec_info k g' l i a n o s m)
  simp [asAddr, hl]
theorem Blk.rec_there {w : World} {g : Nat} {t : TypeId} {k : Int} {g' l i a : Nat} {n : Int} {o : Bool} {s m : Nat} (h : Blk t w g (rcells k g' l i a n o s m)) : w.there g 0 9 := fun j hj => by
  rw [Nat.zero_add]
  refine ⟨?_, h.free j⟩
  rw [h.at_ j, Array.getElem?_eq_getElem (show j < (rcells k g' l i a n o s m).size from hj)]
  rfl
theorem Blk.rec_range {w : World} {g : Nat} {t : TypeId} {C : Array Value} (h : Blk t w g C) : w.rangeAt g 0 C.toList := fun j v hv => by
  rw [Nat.zero_add, h.at_ j]
  simpa using hv
theorem rec_one (k : Int) (g l i a : Nat) (n : Int) (o : Bool) (s m : Nat) : (rcells k g l i a n o s m).all (·.oneCell') = true := by simp [rcells, Value.oneCell']
theorem over_whole (vs : List Value) (C : Array Value) (h : C.size = vs.length) : over C 0 vs = vs.toArray := by
  apply Array.ext_getElem?
  intro k
  rw [over_get _ _ _ (by omega), Nat.zero_add]
  by_cases hk : k < vs.length
  · rw [if_pos (by omega)]; simp
  · rw [if_neg (by omega), Array.getElem?_eq_none (by omega), Array.getElem?_eq_none (by simp; omega)]
/-- a record laid over another -/
theorem Blk.rec_over {w : World} {b : Nat} {t : TypeId} {k : Int} {g l i a : Nat} {n : Int} {o : Bool} {s m : Nat} {k' : Int} {g' l' i' a' : Nat} {n' : Int} {o' : Bool} {s' m' : Nat} (h : Blk t w b (rcells k g l i a n o s m)) :
    Blk t (w.setCells b 0 (rcells k' g' l' i' a' n' o' s' m').toList) b (rcells k' g' l' i' a' n' o' s' m') := by
  have h2 := h.setCells (rcells k' g' l' i' a' n' o' s' m').toList 0
  rwa [over_whole _ _ (by rfl)] at h2
theorem of_none_right {bs : List Nat} {r : Rc} (hp : parse bs = r) (h : right r = false) : Rm.of bs = none := by
  unfold Rm.of
  rw [hp, if_neg (by simp [h])]
theorem of_none_bytes {bs : List Nat} {r : Rc} (hp : parse bs = r) (h : ¬ Rm.bytes r = bs) : Rm.of bs = none := by
  unfold Rm.of
  rw [hp, if_neg (by simp [h])]
theorem of_some {bs : List Nat} {r : Rc} (hp : parse bs = r) (hl : bs.length = 48) (hr : right r = true) (h : Rm.bytes r = bs) : Rm.of bs = some r := by
  unfold Rm.of
  rw [hp, if_pos ⟨hl, hr, h⟩]
theorem nil_at (w : World) : BytesAt w none 0 [] := ⟨rfl, maxLen_small (by omega), by simp, fun k hk => absurd hk (by omega)⟩

set_option maxHeartbeats 2000000 in
theorem of_long (b off cap : Nat) (hcap : 48 ≤ cap) (bs : List Nat) (w : World) (h : BytesAt w (some ⟨b, off, none⟩) 48 bs) :
    Calls Try.prog 9 #[.slice (some ⟨b, off, none⟩) 48 cap] w fun e w' => e = .returned (.tuple #[((Rm.of bs).getD Rm.zero).val, .bool (Rm.of bs).isSome]) ∧ Below w.heap.size w w' := by
  have s2 := cut2 b off cap hcap
  have s4 := cut4 b off cap hcap
  have s8 := cut8 b off cap hcap
  have s12 := cut12 b off cap hcap
  have s16 := cut16 b off cap hcap
  have s24 := cut24 b off cap hcap
  go_enter Try.func9, Try.ntmps9
  go_wp2_with fail
  have hZ := Blk.new w 30 #[.int .i64 0, .int .u32 0, .int .u32 0, .int .u32 0, .int .u32 0, .int .i64 0, .bool false, .int .u32 0, .int .u16 0]
  have hb := below_new w (.cells #[.int .i64 0, .int .u32 0, .int .u32 0, .int .u32 0, .int .u32 0, .int .i64 0, .bool false, .int .u32 0, .int .u16 0] 30)
  have hB := h.held hb
  have hsz := size_new w (.cells #[.int .i64 0, .int .u32 0, .int .u32 0, .int .u32 0, .int .u32 0, .int .i64 0, .bool false, .int .u32 0, .int .u16 0] 30)
  generalize w.alloc _ = w2 at *
  have c0 : w2.cell? ⟨b, off, none⟩ = some (.int .u8 (bs.getD 0 0 : Nat)) := hB.at_ (k := 0) (by omega)
  have c1 : w2.cell? ⟨b, off + 1, none⟩ = some (.int .u8 (bs.getD 1 0 : Nat)) := hB.at_ (k := 1) (by omega)
  have c20 : w2.cell? ⟨b, off + 20, none⟩ = some (.int .u8 (bs.getD 20 0 : Nat)) := hB.at_ (k := 20) (by omega)
  have Z := Lib.hid (And.intro hZ hb)
  clear hZ hb h
  have G := gets b off cap bs
  have e0 := hB.lt 0
  have e20 := hB.lt 20
  generalize hv0 : bs.getD 0 0 = v0 at *
  generalize hv1 : bs.getD 1 0 = v1 at *
  generalize hv20 : bs.getD 20 0 = v20 at *
  have hpf := parse_fits hB.2.2.1
  have hpx : parse bs = ⟨v0, num4 bs 4, num4 bs 8, num4 bs 12, num4 bs 16, v20, v1 == 1, num4 bs 24, num2 bs 2⟩ := by
    unfold parse
    rw [hv0, hv1, hv20]
  have q0 : IntKind.i64.wrap (v0 : Int) = v0 := by rw [IntKind.wrap_i64]; omega
  have q20 : IntKind.i64.wrap (v20 : Int) = v20 := by rw [IntKind.wrap_i64]; omega
  have hn2 := num2_lt hB.2.2.1 2
  clear hv0 hv1 hv20
  generalize num4 bs 4 = g at *
  generalize num4 bs 8 = l at *
  generalize num4 bs 12 = i at *
  generalize num4 bs 16 = a at *
  generalize num4 bs 24 = s at *
  generalize num2 bs 2 = m at *
  have q2 : IntKind.u16.wrap (m : Int) = m := by simp [IntKind.wrap, IntKind.bits, IntKind.signed]; omega
  have q1 : ((v1 : Int) == 1) = (v1 == 1) := by rw [Bool.eq_iff_iff]; simp; omega
  generalize (v1 == 1) = o at *
  have V := Lib.hid (And.intro hpx hpf)
  clear hpx hpf
  replace G := Lib.hid G
  have hBe : BytesAt (w2.alloc (.cells #[.int .i64 0, .int .u32 0, .int .u32 0, .int .u32 0, .int .u32 0, .int .i64 0, .bool false, .int .u32 0, .int .u16 0] 30)).drew (some ⟨b, off, none⟩) 48 bs := hB.held (below_new _ _).drew
  have hBd : BytesAt w2.drew (some ⟨b, off, none⟩) 48 bs := hB
  go_region_held3 (fun w' => w'.cell? ⟨b, off, none⟩ = some (.int .u8 (v0 : Nat)) ∧ w'.cell? ⟨b, off + 1, none⟩ = some (.int .u8 (v1 : Nat)) ∧ w'.cell? ⟨b, off + 20, none⟩ = some (.int .u8 (v20 : Nat)))
    (first | exact ⟨c0, c1, c20⟩ | exact ⟨held (below_new _ _) c0, held (below_new _ _) c1, held (below_new _ _) c20⟩ | go_keep)
    (first | (go_at_call 21; with_reducible refine (G.out.g2 _ (by first | exact hBd | exact hBe)).mono ?_; rintro e w' ⟨rfl, rfl⟩) | (go_at_call 21; with_reducible refine (G.out.g4 _ (by first | exact hBd | exact hBe)).mono ?_; rintro e w' ⟨rfl, rfl⟩) | (go_at_call 21; with_reducible refine (G.out.g8 _ (by first | exact hBd | exact hBe)).mono ?_; rintro e w' ⟨rfl, rfl⟩) | (go_at_call 21; with_reducible refine (G.out.g12 _ (by first | exact hBd | exact hBe)).mono ?_; rintro e w' ⟨rfl, rfl⟩) | (go_at_call 21; with_reducible refine (G.out.g16 _ (by first | exact hBd | exact hBe)).mono ?_; rintro e w' ⟨rfl, rfl⟩) | (go_at_call 21; with_reducible refine (G.out.g24 _ (by first | exact hBd | exact hBe)).mono ?_; rintro e w' ⟨rfl, rfl⟩))
  all_goals
    have hX := Blk.new w2 30 (rcells v0 g l i a v20 o s m)
    have hY : Blk 30 (w2.alloc (.cells (rcells v0 g l i a v20 o s m) 30)) w.heap.size (rcells 0 0 0 0 0 0 false 0 0) := Z.out.1.more _
    have hb2 := next Z.out.2 (below_new w2 (.cells (rcells v0 g l i a v20 o s m) 30))
    have hB2 := hB.held (below_new w2 (.cells (rcells v0 g l i a v20 o s m) 30))
    rw [hsz] at hX
    generalize hu : w2.alloc (.cells (rcells v0 g l i a v20 o s m) 30) = u at *
    have T := Lib.hid (And.intro hX.drew (And.intro hY.drew (And.intro hb2.drew (show BytesAt u.drew (some ⟨b, off, none⟩) 48 bs from hB2))))
    clear hBe hBd hB2 hX hY hb2 hu c0 c1 c20 q0 q1 q2 q20 hB Z G s2 s4 s8 s12 s16 s24
    generalize u.drew = x at *
    obtain ⟨D, hD1, hD2⟩ := rec_under
    have hl48 : bs.length = 48 := T.out.2.2.2.1
    have hfit : (⟨v0, g, l, i, a, v20, o, s, m⟩ : Rc).Fits := V.out.1 ▸ V.out.2
    have U := Lib.hid (And.intro hD1 (And.intro hD2 (And.intro hl48 hfit)))
    clear hD1 hD2 hl48 hfit
    cases hr : Rm.right ⟨v0, g, l, i, a, v20, o, s, m⟩
    · have N := Lib.hid (And.intro (sector_no v0 g l i a v20 o s m U.out.2.2.2.a hr) (of_none_right V.out.1 hr))
      clear hr
      go_wp2_with (first | (refine wpList_load_mid (P := Try.prog) rfl 30 (.tmp 4) rfl _ _ rfl _ _ T.out.1.rec_range U.out.1 U.out.2.1 (rec_info v0 g l i a v20 o s m) ?_))
      refine (N.out.1 _).mono ?_
      rintro e x2 ⟨rfl, hb3⟩
      have T2 := Lib.hid (And.intro (T.out.2.1.held hb3) (And.intro (next T.out.2.2.1 hb3) (T.out.2.2.2.held hb3)))
      have hne : decide ([] = bs) = false := decide_eq_false (fun h => by have := U.out.2.2.1; rw [← h] at this; cases this)
      clear hb3
      go_wp2_with fail
      refine (equal_any (nil_at _) T2.out.2.2).mono ?_
      rintro e w' ⟨rfl, rfl⟩
      rw [hne]
      go_wp2_with (refine wpList_store_mid (P := Try.prog) rfl 30 (.tmp 2) (.tmp 48) rfl w.heap.size 0 (rcells 0 0 0 0 0 0 false 0 0) rfl rfl T2.out.1.rec_there (rec_info 0 0 0 0 0 0 false 0 0) (rec_one 0 0 0 0 0 0 false 0 0) ?_)
      refine bodyPost_ret (v := .tuple #[Rm.zero.val, .bool false]) (results_rec (p := 2) (u := 3) (by kernel_rfl) rfl rfl T2.out.1.rec_over) rfl ⟨?_, ?_⟩
      · rw [N.out.2]; rfl
      · exact T2.out.2.1.trans ((Turn.setCells (L := [w.heap.size]) x2 (by simp) 0 _).below (by simp) T2.out.2.1.size)
    · have N := Lib.hid (And.intro (sector_yes v0 g l i a v20 o s m U.out.2.2.2 hr) hr)
      clear hr
      go_wp2_with (first | (refine wpList_load_mid (P := Try.prog) rfl 30 (.tmp 4) rfl _ _ rfl _ _ T.out.1.rec_range U.out.1 U.out.2.1 (rec_info v0 g l i a v20 o s m) ?_))
      refine (N.out.1 _).mono ?_
      rintro e x2 ⟨b2, rfl, -, hS, hb3⟩
      have hS2 : BytesAt x2 (some ⟨b2, 0, none⟩) 48 (Rm.bytes ⟨v0, g, l, i, a, v20, o, s, m⟩) := BytesAt.cls hS (bytes_lt _) (by rw [bytes_length]; omega)
      have T2 := Lib.hid (And.intro (T.out.2.1.held hb3) (And.intro (next T.out.2.2.1 hb3) (And.intro (T.out.2.2.2.held hb3) (And.intro hS2 (T.out.1.held hb3)))))
      clear hb3 hS hS2
      cases he : decide (Rm.bytes ⟨v0, g, l, i, a, v20, o, s, m⟩ = bs)
      · have HE := Lib.hid he
        clear he
        go_wp2_with fail
        refine (equal_any T2.out.2.2.2.1 T2.out.2.2.1).mono ?_
        rintro e w' ⟨rfl, rfl⟩
        rw [HE.out]
        go_wp2_with (refine wpList_store_mid (P := Try.prog) rfl 30 (.tmp 2) (.tmp 48) rfl w.heap.size 0 (rcells 0 0 0 0 0 0 false 0 0) rfl rfl T2.out.1.rec_there (rec_info 0 0 0 0 0 0 false 0 0) (rec_one 0 0 0 0 0 0 false 0 0) ?_)
        refine bodyPost_ret (v := .tuple #[Rm.zero.val, .bool false]) (results_rec (p := 2) (u := 3) (by kernel_rfl) rfl rfl T2.out.1.rec_over) rfl ⟨?_, ?_⟩
        · rw [of_none_bytes V.out.1 (of_decide_eq_false HE.out)]; rfl
        · exact T2.out.2.1.trans ((Turn.setCells (L := [w.heap.size]) x2 (by simp) 0 _).below (by simp) T2.out.2.1.size)
      · have HE := Lib.hid he
        clear he
        go_wp2_with fail
        refine (equal_any T2.out.2.2.2.1 T2.out.2.2.1).mono ?_
        rintro e w' ⟨rfl, rfl⟩
        rw [HE.out]
        go_wp2_with (first
          | (refine wpList_load_mid (P := Try.prog) rfl 30 (.tmp 4) rfl _ _ rfl _ _ T2.out.2.2.2.2.rec_range U.out.1 U.out.2.1 (rec_info v0 g l i a v20 o s m) ?_)
          | (refine wpList_store_mid (P := Try.prog) rfl 30 (.tmp 2) (.tmp 49) rfl w.heap.size 0 (rcells v0 g l i a v20 o s m) rfl rfl T2.out.1.rec_there (rec_info v0 g l i a v20 o s m) (rec_one v0 g l i a v20 o s m) ?_))
        refine bodyPost_ret (v := .tuple #[.agg (rcells v0 g l i a v20 o s m), .bool true]) (results_rec (p := 2) (u := 3) (by kernel_rfl) rfl rfl T2.out.1.rec_over) rfl ⟨?_, ?_⟩
        · rw [of_some V.out.1 U.out.2.2.1 N.out.2 (of_decide_eq_true HE.out)]; rfl
        · exact T2.out.2.1.trans ((Turn.setCells (L := [w.heap.size]) x2 (by simp) 0 _).below (by simp) T2.out.2.1.size)
end Go.Proofs.Ytbjminjcccflcaa
