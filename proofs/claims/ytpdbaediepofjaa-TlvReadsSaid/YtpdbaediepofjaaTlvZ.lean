/-
  The contract of package tlv's told.
-/
import Derived.Test.YtpdbaediepofjaaTlvY
import Derived.Deep.RegionHeld3
namespace Go.Proofs.Ytpdbaediepofjaa
open Go.RowKit Tm

/-- what told answers: the update that it made, and whether it can be told -/
def Tm.upOf (x : List Nat) (id : Nat) : Up := ⟨val ((x.drop 7 ++ [0, 0, 0, 0]).take 4), x.getD 0 0, if val ((x.drop 5).take 2) = 65535 then 0 else id, val ((x.drop 1).take 4), val ((x.drop 5).take 2)⟩
def Tm.fits (x : List Nat) : Bool := decide (7 ≤ x.length) && decide (x.length = 7 + nb (x.getD 0 0))
theorem told_no {x : List Nat} {id : Nat} (h : fits x = false) : told x id = none := by
  unfold fits at h
  unfold told
  by_cases h1 : x.length < 7
  · rw [if_pos h1]
  · rw [if_neg h1]
    by_cases h2 : x.length = 7 + nb (x.getD 0 0)
    · rw [decide_eq_true h2, decide_eq_true (show 7 ≤ x.length by omega)] at h; cases h
    · rw [if_pos h2]
theorem told_yes {x : List Nat} {id : Nat} (h : fits x = true) : told x id = if right (upOf x id) then some (upOf x id) else none := by
  unfold fits at h
  simp only [Bool.and_eq_true, decide_eq_true_eq] at h
  unfold told
  rw [if_neg (by omega), if_neg (by omega)]
  rfl

theorem up_under : ∃ d, Try.prog.underlying 31 = some d ∧ d.isRow = true := ⟨_, rfl, rfl⟩
theorem up_info (a : Nat) (len : Int) (id seq met : Nat) : (Try.prog.info? 31).map (·.size) = some (ucs a len id seq met).size := by
  show _ = some 5
  kernel_rfl
theorem results_up {fn : Func} {p u : Tmp} (h : fn.results = #[.cell p 31, .tmp u]) {tmps : Array Value} {w : World} {g : Nat} {a : Nat} {len : Int} {id seq met : Nat} {v : Value} (hp : tmps.getD p undef = .pointer (some ⟨g, 0, none⟩)) (hu : tmps.getD u undef = v)
    (hb : Blk 31 w g (ucs a len id seq met)) : (results fn tmps).run Try.prog w = .ok (.tuple #[.agg (ucs a len id seq met), v]) w := by
  obtain ⟨d, h1, h2⟩ := up_under
  rw [results_cell_tmp h, hp, hu]
  have hl := run_loadVar_row (P := Try.prog) w g 31 31 _ (0, 0) d hb h1 (by cases d <;> first | rfl | cases h2) (up_info a len id seq met)
  simp [asAddr, hl]
theorem Blk.up_there {w : World} {g : Nat} {t : TypeId} {a : Nat} {len : Int} {id seq met : Nat} (h : Blk t w g (ucs a len id seq met)) : w.there g 0 5 := fun j hj => by
  rw [Nat.zero_add]
  refine ⟨?_, h.free j⟩
  rw [h.at_ j, Array.getElem?_eq_getElem (show j < (ucs a len id seq met).size from hj)]
  rfl
theorem Blk.range {w : World} {g : Nat} {t : TypeId} {C : Array Value} (h : Blk t w g C) : w.rangeAt g 0 C.toList := fun j v hv => by
  rw [Nat.zero_add, h.at_ j]
  simpa using hv
theorem up_one (a : Nat) (len : Int) (id seq met : Nat) : (ucs a len id seq met).all (·.oneCell') = true := by simp [ucs, Value.oneCell']
theorem over_whole (vs : List Value) (C : Array Value) (h : C.size = vs.length) : over C 0 vs = vs.toArray := by
  apply Array.ext_getElem?
  intro k
  rw [over_get _ _ _ (by omega), Nat.zero_add]
  by_cases hk : k < vs.length
  · rw [if_pos (by omega)]; simp
  · rw [if_neg (by omega), Array.getElem?_eq_none (by omega), Array.getElem?_eq_none (by simp; omega)]
theorem Blk.up_over {w : World} {b : Nat} {t : TypeId} {a : Nat} {len : Int} {id seq met : Nat} {a' : Nat} {len' : Int} {id' seq' met' : Nat} (h : Blk t w b (ucs a len id seq met)) :
    Blk t (w.setCells b 0 (ucs a' len' id' seq' met').toList) b (ucs a' len' id' seq' met') := by
  have h2 := h.setCells (ucs a' len' id' seq' met').toList 0
  rwa [over_whole _ _ (by rfl)] at h2

set_option maxHeartbeats 2000000 in
theorem told_short {A : Option Addr} {n cap : Nat} {bs : List Nat} {w : World} (h : Sl w A n cap bs) (hf : fits bs = false) (id : Nat) :
    Calls Try.prog 24 #[.slice A n cap, .int .u32 id] w fun e w' => e = .returned (.tuple #[.agg (ucs 0 0 0 0 0), .bool false]) ∧ Below w.heap.size w w' := by
  have hl := h.bytes.1
  have hmx := h.bytes.2.1
  have hmx' : n ≤ 9223372036854775807 := by unfold maxLen at hmx; omega
  clear hmx
  have hZ : Blk 31 (w.alloc (.cells #[.int .u32 0, .int .i64 0, .int .u32 0, .int .u32 0, .int .u16 0] 31)) w.heap.size (ucs 0 0 0 0 0) := Blk.new w _ _
  have hb := below_new w (.cells #[.int .u32 0, .int .i64 0, .int .u32 0, .int .u32 0, .int .u16 0] 31)
  have h1 := h.held hb
  by_cases h7 : n < 7
  · have d1 : decide ((n : Int) < 7) = true := decide_eq_true (by omega)
    have T := Lib.hid (And.intro hZ hb)
    clear hZ hb h h1 hf hl
    go_enter Try.func24, Try.ntmps24
    go_wp2_with fail
    generalize w.alloc _ = w2 at *
    exact bodyPost_ret (v := .tuple #[.agg (ucs 0 0 0 0 0), .bool false]) (results_up (p := 4) (u := 5) (by kernel_rfl) rfl rfl T.out.1) rfl ⟨rfl, T.out.2⟩
  · obtain ⟨b, off, rfl⟩ := h.plain (by omega)
    have d1 : decide ((n : Int) < 7) = false := decide_eq_false (by omega)
    have hx := h.bytes.lt 0
    have c0 : (w.alloc (.cells #[.int .u32 0, .int .i64 0, .int .u32 0, .int .u32 0, .int .u16 0] 31)).cell? ⟨b, off, none⟩ = some (.int .u8 (bs.getD 0 0 : Nat)) := h1.at_ (k := 0) (by omega)
    have hne : ¬ n = 7 + nb (bs.getD 0 0) := fun e => by
      unfold fits at hf
      rw [hl, decide_eq_true e, decide_eq_true (by omega : 7 ≤ n)] at hf
      cases hf
    generalize bs.getD 0 0 = x0 at *
    have d2 : ((n : Int) == ((7 + nb x0 : Nat) : Int)) = false := beq_eq_false_iff_ne.2 (by omega)
    have T := Lib.hid (And.intro hZ hb)
    clear hZ hb h h1 hf hl hne
    go_enter Try.func24, Try.ntmps24
    go_wp2_with fail
    generalize w.alloc _ = w2 at *
    refine (bodyBytes_any x0 (by omega) _).mono ?_
    rintro e w' ⟨rfl, rfl⟩
    generalize 7 + nb x0 = q at *
    go_wp2_with (first | (refine wpList_store_mid (P := Try.prog) rfl 31 (.tmp 4) (.tmp 21) rfl w.heap.size 0 (ucs 0 0 0 0 0) rfl rfl T.out.1.up_there (up_info 0 0 0 0 0) (up_one 0 0 0 0 0) ?_) | fail)
    refine bodyPost_ret (v := .tuple #[.agg (ucs 0 0 0 0 0), .bool false]) (results_up (p := 4) (u := 5) (by kernel_rfl) rfl rfl T.out.1.up_over) rfl ⟨rfl, ?_⟩
    exact T.out.2.trans ((Turn.setCells (L := [w.heap.size]) w2 (by simp) 0 _).below (by simp) T.out.2.size)
end Go.Proofs.Ytpdbaediepofjaa
