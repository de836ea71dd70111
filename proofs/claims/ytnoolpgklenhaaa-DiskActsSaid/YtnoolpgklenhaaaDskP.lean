/-
  Package disk's spoilt sectors.
-/
import Derived.Test.YtnoolpgklenhaaaDskB
import Derived.Laws.BitsAllLaws
import Derived.Deep.Cut
import Derived.Deep.RegionHeld3
import Derived.Deep.CutBlock
import Derived.Deep.CutRange
namespace Go.Proofs.Ytnoolpgklenhaaa
open Go.RowKit

/-! ### a region that draws its order, an operation at a time, each written out -/
section
variable {P : Program} {Q : Exit → Act → World → Prop} {md : Region.Mode} {S : World → Prop}
theorem list_at {α : Type} {l rest : List α} {i : Nat} {o : α} (h : l.drop i = o :: rest) : l.toArray[i]? = some o := by
  have e : (l.drop i)[0]? = some o := by rw [h]; rfl
  rw [List.getElem?_drop] at e
  simpa using e
theorem take_list {l rest : List Oper} {i : Nat} {oi : Oper} {v : Value} {fuel : Nat} {listed : Array Bool} {a : Act} {w : World} (hi : l.drop i = oi :: rest)
    (hs : Region.noSelect l.toArray = true) (hf : Region.free md l.toArray listed i = true) (hr : (Region.ready md l.toArray listed).contains i = true)
    (hQ : ∀ c a w, Q (.panic c) (a.put oi.dst v) w → Q (.panic c) a w) (hy : YieldsIf P l.toArray S oi v a) (hS : S w)
    (h : wpAnyH P md l.toArray Q S fuel (listed.setIfInBounds i true) (a.put oi.dst v) w) : wpAnyH P md l.toArray Q S (fuel + 1) listed a w :=
  wpAnyH_take (list_at hi) hs hf hr hQ hy hS h
theorem ready_list {l rest : List Oper} {fuel : Nat} {listed : Array Bool} {a : Act} {w : World} {i : Nat} {o : Oper} (ho : l.drop i = o :: rest) (hr : Region.ready md l.toArray listed = [i])
    (h : ∀ K' : Act → World → Prop, Shut (∀ a w, S w → (S w → wpAnyH P md l.toArray Q S fuel (listed.setIfInBounds i true) a w) → K' a w) → if Region.wanted o (yielded l.toArray a.tmps) = true then Oper.wp P o a w K' Q else K' (a.put o.dst undef) w) :
    wpAnyH P md l.toArray Q S (fuel + 1) listed a w :=
  wpAnyH_ready hr (by simp) (AllReadyH.cons (list_at ho) h AllReadyH.nil)
end

/-- the m-th bit of a byte, counted from the highest one, turned -/
def flipB (b : UInt8) (m : Nat) : UInt8 := UInt8.ofNat (b.toNat ^^^ (128 / 2 ^ m))
/-- a sector's bit turned -/
def flipS (s : List UInt8) (bit : Nat) : List UInt8 := s.set (bit / 8) (flipB (s.getD (bit / 8) 0) (bit % 8))
/-- the bits that turn's k lowest bits stand for, turned -/
def spoil (s : List UInt8) (first turn : Nat) : Nat → List UInt8
  | 0 => s
  | k + 1 => if first + k < 384 ∧ turn / 2 ^ k % 2 = 1 then flipS (spoil s first turn k) (first + k) else spoil s first turn k
theorem flipS_length (s : List UInt8) (bit : Nat) : (flipS s bit).length = s.length := by simp [flipS]
theorem spoil_length (s : List UInt8) (first turn : Nat) : ∀ k, (spoil s first turn k).length = s.length
  | 0 => rfl
  | k + 1 => by unfold spoil; split <;> simp [flipS_length, spoil_length s first turn k]
theorem flipB_toNat (b : UInt8) (m : Nat) : (flipB b m).toNat = b.toNat ^^^ (128 / 2 ^ m) := by
  unfold flipB
  rw [UInt8.toNat_ofNat']
  apply Nat.mod_eq_of_lt
  have h1 : b.toNat < 2 ^ 8 := b.toNat_lt
  have h2 : 128 / 2 ^ m < 2 ^ 8 := Nat.lt_of_le_of_lt (Nat.div_le_self _ _) (by omega)
  exact Nat.xor_lt_two_pow h1 h2
/-- where turning begins -/
def firstOf (a : Int) : Nat := (a % 18446744073709551616 % 384).toNat
theorem firstOf_lt (a : Int) : firstOf a < 384 := by unfold firstOf; omega

theorem sec_set (s : List UInt8) (j : Nat) (b : UInt8) : (sec s).toArray.setIfInBounds j (.int .u8 (b.toNat : Int)) = (sec (s.set j b)).toArray := by simp [sec]
theorem sec_at {s : List UInt8} {j : Nat} (hj : j < s.length) : (sec s).toArray[j]? = some (.int .u8 ((s.getD j 0).toNat : Int)) := by
  simp [sec, hj]
theorem bit32 (t k : Nat) (ht : t < 4294967296) : (bits .and .u32 ((t : Int) / 2 ^ k) 1 == 1) = decide (t / 2 ^ k % 2 = 1) := by
  have h1 : t / 2 ^ k < 4294967296 := Nat.lt_of_le_of_lt (Nat.div_le_self _ _) ht
  rw [show ((t : Int) / 2 ^ k) = ((t / 2 ^ k : Nat) : Int) from by simp [Int.natCast_ediv], show (1 : Int) = ((1 : Nat) : Int) from rfl, u32_and_nat _ 1 h1 (by omega), nat_mask1]
  rw [Bool.eq_iff_iff]; simp only [beq_iff_eq, decide_eq_true_eq]; omega
theorem flip_eq (s : List UInt8) (j m : Nat) : bits .xor .u8 (((s.getD j 0).toNat : Nat) : Int) (128 / 2 ^ m) = ((flipB (s.getD j 0) m).toNat : Int) := by
  rw [show ((128 : Int) / 2 ^ m) = ((128 / 2 ^ m : Nat) : Int) from by simp [Int.natCast_ediv], u8_xor_nat _ _ (s.getD j 0).toNat_lt (Nat.lt_of_le_of_lt (Nat.div_le_self _ _) (by omega)), flipB_toNat]
theorem spoil_yes {s : List UInt8} {F t k : Nat} (h : F + k < 384) (hb : t / 2 ^ k % 2 = 1) : spoil s F t (k + 1) = flipS (spoil s F t k) (F + k) := by rw [spoil, if_pos ⟨h, hb⟩]
theorem spoil_no {s : List UInt8} {F t k : Nat} (h : ¬ (F + k < 384 ∧ t / 2 ^ k % 2 = 1)) : spoil s F t (k + 1) = spoil s F t k := by rw [spoil, if_neg h]
theorem first_eq (a : Int) : (IntKind.u64.wrap a).tmod 384 = (firstOf a : Int) := by
  have h : IntKind.u64.wrap a = a % 18446744073709551616 := by simp [IntKind.wrap, IntKind.bits, IntKind.signed]
  rw [h, Int.tmod_eq_emod_of_nonneg (by omega)]
  unfold firstOf
  omega

set_option maxHeartbeats 1000000 in
set_option maxRecDepth 100000 in
theorem spoilt_any (w : World) (s : List UInt8) (hs : s.length = 48) (a : Int) (t : Nat) (ht : t < 4294967296) :
    Calls Try.prog 19 #[.agg (sec s).toArray, .int .i64 a, .int .u32 (t : Int)] w fun e w' => e = .returned (.agg (sec (spoil s (firstOf a) t 32)).toArray) ∧ Below w.heap.size w w' := by
  go_enter Try.func19, Try.ntmps19
  go_wp2_with fail
  rw [first_eq]
  have hF := firstOf_lt a
  generalize hF0 : firstOf a = F at *
  have HF := Lib.hid hF0
  clear hF0
  generalize IntKind.u64.wrap a = A
  have hX1 := Blk.new w 53 (sec s).toArray
  have hb1 := below_new w (.cells (sec s).toArray 53)
  have hs1 := size_new w (.cells (sec s).toArray 53)
  generalize w.alloc (.cells (sec s).toArray 53) = w1 at *
  have hX2 := Blk.new w1 53 z48
  have hX3 := hX1.more (.cells z48 53)
  have hb2 := next hb1 (below_new w1 (.cells z48 53))
  have K := Lib.hid (And.intro hX3 (And.intro (hs1 ▸ hX2) hb2))
  clear hX1 hX2 hX3 hb1 hb2 hs1
  dsimp only [z48] at K
  generalize w1.alloc _ = w2 at *
  go_loopw [13] (fun i u => ∃ k : Nat, k ≤ 32 ∧ i = .int .u64 k ∧ (Blk 53 u w.heap.size (sec (spoil s F t k)).toArray ∧ Blk 53 u (w.heap.size + 1) z48 ∧ Below w.heap.size w u)) (fun i _ => 32 - (intOf i).toNat)
  case atStart => exact ⟨0, by omega, rfl, K.out⟩
  case round =>
    clear K
    obtain ⟨k, hk, rfl, hX, hY, hb⟩ := hrel
    have Z := Lib.hid (And.intro hX (And.intro hY hb))
    clear hX hY hb
    by_cases hlt : k < 32
    · by_cases hc : F + k < 384
      · have d1 : decide ((F : Int) + k < 384) = true := decide_eq_true (by omega)
        have hl : (spoil s F t k).length = 48 := by rw [spoil_length, hs]
        have c0 : wr.cell? ⟨w.heap.size, (F + k) / 8, none⟩ = some (.int .u8 (((spoil s F t k).getD ((F + k) / 8) 0).toNat : Int)) := (Z.out.1.at_ _).trans (sec_at (by omega))
        have f0 : wr.frozen? ⟨w.heap.size, (F + k) / 8, none⟩ = false := Z.out.1.free _
        cases hbit : (bits .and .u32 ((t : Int) / 2 ^ k) 1 == 1)
        · have E : Hid (spoil s F t (k + 1) = spoil s F t k) := Lib.hid (spoil_no (fun h => by rw [bit32 t k ht] at hbit; simp [h.2] at hbit))
          go_wp2_with fail
          go_roundw
          case rel => exact ⟨k + 1, by omega, by go_num, by rw [E.out]; exact Z.out⟩
          case measure => simp [intOf]; omega
        · have E : Hid (spoil s F t (k + 1) = flipS (spoil s F t k) (F + k)) := Lib.hid (spoil_yes hc (by rw [bit32 t k ht] at hbit; simpa using hbit))
          go_wp2_with fail
          go_roundw
          case rel =>
            obtain ⟨hX, hY, hb⟩ := Z.out
            have e1 := flip_eq (spoil s F t k) ((F + k) / 8) ((F + k) % 8)
            rw [List.getD_eq_getElem?_getD] at e1
            have hX2 := hX.store ((F + k) / 8) (.int .u8 ((flipB ((spoil s F t k).getD ((F + k) / 8) 0) ((F + k) % 8)).toNat : Int))
            rw [sec_set] at hX2
            refine ⟨k + 1, by omega, by go_num, ?_⟩
            rw [E.out, e1]
            exact ⟨hX2, hY.away (by simp) _, hb.setCell (by simp) _⟩
          case measure => simp [intOf]; omega
      · have d1 : decide ((F : Int) + k < 384) = false := decide_eq_false (by omega)
        have E : Hid (spoil s F t (k + 1) = spoil s F t k) := Lib.hid (spoil_no (fun h => hc h.1))
        go_wp2_with fail
        go_roundw
        case rel => exact ⟨k + 1, by omega, by go_num, by rw [E.out]; exact Z.out⟩
        case measure => simp [intOf]; omega
    · obtain rfl : k = 32 := by omega
      have hl : (spoil s F t 32).length = 48 := by rw [spoil_length, hs]
      generalize hsp : spoil s F t 32 = s' at *
      have HS := Lib.hid hsp
      clear hsp
      go_wp2_with (first
        | (refine wpList_load_mid (P := Try.prog) rfl 53 (.tmp 3) rfl _ _ rfl (sec s') _ (Z.out.1.range_all) sector_under rfl (secInfo hl) ?_)
        | (refine wpList_store_mid (P := Try.prog) rfl 53 (.tmp 6) (.tmp 38) rfl _ 0 (sec s').toArray rfl rfl (Z.out.2.1.there_z48 hl) (secInfo' hl) (all_oneCell_toArray (sec_one _)) ?_))
      go_frame
      obtain ⟨hX, hY, hb⟩ := Z.out
      have hY2 := hY.stored hl
      refine bodyPost_ret (v := .agg (sec s').toArray) (results_cell_row (p := 6) (by kernel_rfl) _ _ (w.heap.size + 1) 53 _ (0, 0) _ rfl hY2 sector_under rfl (by simpa using secInfo hl)) rfl ⟨?_, ?_⟩
      · obtain rfl := HF.out
        rw [HS.out]
      · exact hb.trans ((Turn.setCells (L := [w.heap.size + 1]) wr (by simp) 0 _).below (by simp) hb.size)

/-! ### of -/
/-- what becomes of a sector by a pick -/
def picked (how at_ : Int) (turn : Nat) (was written : List UInt8) : List UInt8 := if how = 0 then was else if how = 1 then written else spoil written (firstOf at_) turn 32
theorem picked_length {how at_ : Int} {turn : Nat} {was written : List UInt8} (h1 : was.length = 48) (h2 : written.length = 48) : (picked how at_ turn was written).length = 48 := by
  unfold picked
  split
  · exact h1
  · split
    · exact h2
    · rw [spoil_length, h2]
/-- the blocks of of: its three arguments, and its result -/
def OfBlks (w u : World) (how at_ : Int) (t : Nat) (s s' : List UInt8) : Prop :=
  Blk 39 u w.heap.size #[.int .i64 how, .int .i64 at_, .int .u32 (t : Int)] ∧ Blk 53 u (w.heap.size + 1) (sec s).toArray ∧ Blk 53 u (w.heap.size + 2) (sec s').toArray ∧ Blk 53 u (w.heap.size + 3) z48 ∧ Below w.heap.size w u
theorem of_blks (w : World) (how at_ : Int) (t : Nat) (s s' : List UInt8) : OfBlks w ((((w.alloc (.cells #[.int .i64 how, .int .i64 at_, .int .u32 (t : Int)] 39)).alloc (.cells (sec s).toArray 53)).alloc (.cells (sec s').toArray 53)).alloc (.cells z48 53)) how at_ t s s' := by
  have hX1 := Blk.new w 39 #[.int .i64 how, .int .i64 at_, .int .u32 (t : Int)]
  have hb1 := below_new w (.cells #[.int .i64 how, .int .i64 at_, .int .u32 (t : Int)] 39)
  have hs1 := size_new w (.cells #[.int .i64 how, .int .i64 at_, .int .u32 (t : Int)] 39)
  generalize w.alloc (.cells #[.int .i64 how, .int .i64 at_, .int .u32 (t : Int)] 39) = w1 at *
  have hX2 := Blk.new w1 53 (sec s).toArray
  have hs2 := size_new w1 (.cells (sec s).toArray 53)
  replace hX1 := hX1.more (.cells (sec s).toArray 53)
  have hb2 := next hb1 (below_new w1 (.cells (sec s).toArray 53))
  generalize w1.alloc (.cells (sec s).toArray 53) = w2 at *
  have hX3 := Blk.new w2 53 (sec s').toArray
  have hs3 := size_new w2 (.cells (sec s').toArray 53)
  replace hX1 := hX1.more (.cells (sec s').toArray 53)
  replace hX2 := hX2.more (.cells (sec s').toArray 53)
  have hb3 := next hb2 (below_new w2 (.cells (sec s').toArray 53))
  generalize w2.alloc (.cells (sec s').toArray 53) = w3 at *
  have hX4 := Blk.new w3 53 z48
  rw [show w3.heap.size = w.heap.size + 3 by omega] at hX4
  rw [show w2.heap.size = w.heap.size + 2 by omega] at hX3
  rw [show w1.heap.size = w.heap.size + 1 by omega] at hX2
  exact ⟨hX1.more _, hX2.more _, hX3.more _, hX4, next hb3 (below_new w3 _)⟩

set_option maxHeartbeats 1000000 in
set_option maxRecDepth 100000 in
theorem of_any (w : World) (how at_ : Int) (t : Nat) (ht : t < 4294967296) (s s' : List UInt8) (hs : s.length = 48) (hs' : s'.length = 48) :
    Calls Try.prog 16 #[.agg #[.int .i64 how, .int .i64 at_, .int .u32 (t : Int)], .agg (sec s).toArray, .agg (sec s').toArray] w fun e w' => e = .returned (.agg (sec (picked how at_ t s s')).toArray) ∧ Below w.heap.size w w' := by
  have hl := picked_length (how := how) (at_ := at_) (turn := t) hs hs'
  by_cases h0 : how = 0
  · have E : Hid (picked how at_ t s s' = s) := Lib.hid (by simp [picked, h0])
    have d0 : (how == 0) = true := by simp [h0]
    clear h0
    go_enter Try.func16, Try.ntmps16
    go_upto_region 1 with (fail)
    have Z := Lib.hid (of_blks w how at_ t s s')
    dsimp only [z48] at Z
    generalize World.alloc _ (.cells _ 53) = u at *
    have p0 : u.cell? ⟨w.heap.size, 0, none⟩ = some (.int .i64 how) := Z.out.1.at_ 0
    go_wp2_with (first
      | (refine wpList_load_mid (P := Try.prog) rfl 53 (.tmp 4) rfl _ _ rfl (sec s) _ (Z.out.2.1.range_all) sector_under rfl (secInfo hs) ?_)
      | (refine wpList_store_mid (P := Try.prog) rfl 53 (.tmp 6) (.tmp 11) rfl _ 0 (sec s).toArray rfl rfl (Z.out.2.2.2.1.there_z48 hs) (secInfo' hs) (all_oneCell_toArray (sec_one _)) ?_))
    go_frame
    obtain ⟨hP, hX, hY, hR, hb⟩ := Z.out
    have hR2 := hR.stored hs
    refine bodyPost_ret (v := .agg (sec s).toArray) (results_cell_row (p := 6) (by kernel_rfl) _ _ (w.heap.size + 3) 53 _ (0, 0) _ rfl hR2 sector_under rfl (by simpa using secInfo hs)) rfl ⟨by rw [E.out], ?_⟩
    exact hb.trans ((Turn.setCells (L := [w.heap.size + 3]) u (by simp) 0 _).below (by simp) hb.size)
  by_cases h1 : how = 1
  · have E : Hid (picked how at_ t s s' = s') := Lib.hid (by simp [picked, h1])
    have d0 : (how == 0) = false := by simp [h0]
    have d1 : (how == 1) = true := by simp [h1]
    clear h0 h1
    go_enter Try.func16, Try.ntmps16
    go_upto_region 1 with (fail)
    have Z := Lib.hid (of_blks w how at_ t s s')
    dsimp only [z48] at Z
    generalize World.alloc _ (.cells _ 53) = u at *
    have p0 : u.cell? ⟨w.heap.size, 0, none⟩ = some (.int .i64 how) := Z.out.1.at_ 0
    go_wp2_with (first
      | (refine wpList_load_mid (P := Try.prog) rfl 53 (.tmp 5) rfl _ _ rfl (sec s') _ (Z.out.2.2.1.range_all) sector_under rfl (secInfo hs') ?_)
      | (refine wpList_store_mid (P := Try.prog) rfl 53 (.tmp 6) (.tmp 14) rfl _ 0 (sec s').toArray rfl rfl (Z.out.2.2.2.1.there_z48 hs') (secInfo' hs') (all_oneCell_toArray (sec_one _)) ?_))
    go_frame
    obtain ⟨hP, hX, hY, hR, hb⟩ := Z.out
    have hR2 := hR.stored hs'
    refine bodyPost_ret (v := .agg (sec s').toArray) (results_cell_row (p := 6) (by kernel_rfl) _ _ (w.heap.size + 3) 53 _ (0, 0) _ rfl hR2 sector_under rfl (by simpa using secInfo hs')) rfl ⟨by rw [E.out], ?_⟩
    exact hb.trans ((Turn.setCells (L := [w.heap.size + 3]) u (by simp) 0 _).below (by simp) hb.size)
  · have E : Hid (picked how at_ t s s' = spoil s' (firstOf at_) t 32) := Lib.hid (by simp [picked, h0, h1])
    have hsl : (spoil s' (firstOf at_) t 32).length = 48 := by rw [spoil_length, hs']
    have d0 : (how == 0) = false := by simp [h0]
    have d1 : (how == 1) = false := by simp [h1]
    clear h0 h1
    go_enter Try.func16, Try.ntmps16
    go_upto_region 1 with (fail)
    have Z := Lib.hid (of_blks w how at_ t s s')
    dsimp only [z48] at Z
    generalize World.alloc _ (.cells _ 53) = u at *
    have p0 : u.cell? ⟨w.heap.size, 0, none⟩ = some (.int .i64 how) := Z.out.1.at_ 0
    have p1 : u.cell? ⟨w.heap.size, 1, none⟩ = some (.int .i64 at_) := Z.out.1.at_ 1
    have p2 : u.cell? ⟨w.heap.size, 2, none⟩ = some (.int .u32 (t : Int)) := Z.out.1.at_ 2
    go_wp2_with (first
      | (refine wpList_load_mid (P := Try.prog) rfl 53 (.tmp 5) rfl _ _ rfl (sec s') _ (Z.out.2.2.1.range_all) sector_under rfl (secInfo hs') ?_)
      | (go_at_call 19; (refine (spoilt_any _ s' hs' at_ t ht).mono ?_); rintro e u2 ⟨rfl, hb2⟩; have Z2 := Lib.hid hb2; clear hb2)
      | (refine wpList_store_mid (P := Try.prog) rfl 53 (.tmp 6) (.tmp 20) rfl _ 0 (sec (spoil s' (firstOf at_) t 32)).toArray rfl rfl ((Z.out.2.2.2.1.held Z2.out).there_z48 hsl) (secInfo' hsl) (all_oneCell_toArray (sec_one _)) ?_))
    go_frame
    obtain ⟨hP, hX, hY, hR, hb⟩ := Z.out
    have hR2 := (hR.held Z2.out).stored hsl
    refine bodyPost_ret (v := .agg (sec (spoil s' (firstOf at_) t 32)).toArray) (results_cell_row (p := 6) (by kernel_rfl) _ _ (w.heap.size + 3) 53 _ (0, 0) _ rfl hR2 sector_under rfl (by simpa using secInfo hsl)) rfl ⟨by rw [E.out], ?_⟩
    exact (next hb Z2.out).trans ((Turn.setCells (L := [w.heap.size + 3]) u2 (by simp) 0 _).below (by simp) (next hb Z2.out).size)
end Go.Proofs.Ytnoolpgklenhaaa
