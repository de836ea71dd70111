/-
  Package disk's Write.
-/
import Derived.Test.YtnoolpgklenhaaaDskB
import Derived.Laws.CopyOwn
import Derived.OwnWalk
namespace Go.Proofs.Ytnoolpgklenhaaa
open Go.RowKit

/-- A slice of just these bytes. -/
def Bys (w : World) (A : Option Addr) (len : Nat) (bs : List UInt8) : Prop :=
  bs.length = len ∧ (0 < len → ∃ ad, A = some ad ∧ ∀ j v, (sec bs)[j]? = some v → w.cell? (ad.add j) = some v)
theorem Bys.held {w w' : World} {A : Option Addr} {len : Nat} {bs : List UInt8} (h : Bys w A len bs) (hb : Below w.heap.size w w') : Bys w' A len bs :=
  ⟨h.1, fun h0 => by
    obtain ⟨ad, e, hc⟩ := h.2 h0
    exact ⟨ad, e, fun j v hv => Go.Proofs.Ytnoolpgklenhaaa.held hb (hc j v hv)⟩⟩
theorem Bys.turn {w w' : World} {A : Option Addr} {len : Nat} {bs : List UInt8} {L : List Nat} (h : Bys w A len bs) (t : Turn L w w') (hA : ∀ ad, A = some ad → ad.block ∉ L) : Bys w' A len bs :=
  ⟨h.1, fun h0 => by
    obtain ⟨ad, e, hc⟩ := h.2 h0
    exact ⟨ad, e, fun j v hv => t.cell (hc j v hv) (by rw [add_block]; exact hA ad e)⟩⟩
theorem Bys.of_blk {w : World} {g : Nat} {bs : List UInt8} {t : TypeId} (h : Blk t w g (sec bs).toArray) : Bys w (some ⟨g, 0, none⟩) bs.length bs :=
  ⟨rfl, fun _ => ⟨_, rfl, fun j v hv => by rw [Addr.add_mid, Nat.zero_add, h.at_ j]; simpa using hv⟩⟩

theorem Bys.cell {w : World} {A : Option Addr} {n : Nat} {bs : List UInt8} (h : Bys w A n bs) {k : Nat} (hk : k < n) : ∃ ad, A = some ad ∧ w.cell? (ad.add k) = some (.int .u8 ((bs.getD k 0).toNat : Int)) := by
  obtain ⟨ad, e, hc⟩ := h.2 (by omega)
  have hl : k < bs.length := by rw [h.1]; exact hk
  exact ⟨ad, e, hc k _ (by rw [sec_get, List.getElem?_eq_getElem hl]; simp [hl])⟩

section
variable {w : World} {d S M n : Nat} {safe : Nat → List UInt8} {wn : Int → Option (List UInt8)} {well : Int} {A : Option Addr} {bs : List UInt8} {len cap : Nat} {i : Int}

theorem write_off (h : Dk w d S M n safe wn well) (h1 : i < 0 ∨ (n : Int) ≤ i) : Calls Try.prog 12 #[.pointer (some ⟨d, 0, none⟩), .int .i64 i, .slice A len cap] w fun e w' => e = .returned (.int .i64 1) ∧ w = w' := by
  have H := Lib.hid h
  clear h
  go_enter Try.func12, Try.ntmps12
  go_wp2_with fail
  refine (has_no H.out h1).mono ?_
  rintro e w' ⟨rfl, rfl⟩
  go_wp2
  go_ret
  exact ⟨rfl, rfl⟩
theorem write_len (h : Dk w d S M n safe wn well) (h0 : 0 ≤ i) (h1 : i < n) (hl : len ≠ 48) : Calls Try.prog 12 #[.pointer (some ⟨d, 0, none⟩), .int .i64 i, .slice A len cap] w fun e w' => e = .returned (.int .i64 1) ∧ w = w' := by
  have d1 : ((len : Int) == 48) = false := beq_eq_false_iff_ne.2 (by omega)
  have H := Lib.hid h
  clear h hl
  go_enter Try.func12, Try.ntmps12
  go_wp2_with fail
  refine (has_yes H.out h0 h1).mono ?_
  rintro e w' ⟨rfl, rfl⟩
  go_wp2
  go_ret
  exact ⟨rfl, rfl⟩
theorem write_fails (h : Dk w d S M n safe wn 0) (h0 : 0 ≤ i) (h1 : i < n) : Calls Try.prog 12 #[.pointer (some ⟨d, 0, none⟩), .int .i64 i, .slice A 48 cap] w fun e w' =>
    e = .returned (.int .i64 4) ∧ Dk w' d S M n safe wn (-1) ∧ Turn [d, M] w w' := by
  have H := Lib.hid h
  clear h
  go_enter Try.func12, Try.ntmps12
  go_wp2_with fail
  refine (has_yes H.out h0 h1).mono ?_
  rintro e w' ⟨rfl, rfl⟩
  go_wp2_with fail
  refine (fails_yes H.out).mono ?_
  rintro e w1 ⟨rfl, hD, hT, -⟩
  have K := Lib.hid (And.intro hD hT)
  clear hD hT
  go_wp2
  go_ret
  exact ⟨rfl, K.out.1, K.out.2.mono (by simp)⟩
theorem uint8_info : (Try.prog.info? 5).map (·.size) = some 1 := by kernel_rfl
theorem Dk.upd (h : Dk w d S M n safe wn well) {w' : World} {bs : List UInt8} (hb : bs.length = 48) {i : Int} (h0 : 0 ≤ i) (h1 : i < n) (hM : Mp Try.prog 3 w' M (upd (fun z => (wn z).map fun s => Value.agg (sec s).toArray) i (.agg (sec bs).toArray)))
    (hg : w.grownBy w' (some M)) : Dk w' d S M n safe (Go.Proofs.Ytnoolpgklenhaaa.upd wn i bs) well := by
  refine ⟨(hg.block d h.head.lt (by simp; exact h.dM)).trans h.head, ?_, ?_, h.len, fun z s hz => ?_, h.n1, h.n2, h.w1, h.w2⟩
  · obtain ⟨C, h3, h4⟩ := h.rows
    exact ⟨C, (hg.block S h.ltS (by simp; exact h.SM)).trans h3, h4⟩
  · have e : (fun z => ((Go.Proofs.Ytnoolpgklenhaaa.upd wn i bs) z).map fun s => Value.agg (sec s).toArray) = Go.Proofs.Ytnoolpgklenhaaa.upd (fun z => (wn z).map fun s => Value.agg (sec s).toArray) i (.agg (sec bs).toArray) := by
      funext z
      by_cases e : z = i
      · subst e; simp [upd_same]
      · simp [upd_other _ e]
    rw [e]; exact hM
  · by_cases e : z = i
    · subst e; rw [upd_same] at hz; cases hz; exact ⟨h0, h1, hb⟩
    · rw [upd_other _ e] at hz; exact h.wlen z s hz
theorem splice_all (s : List UInt8) (cur : List Value) (h : cur.length = s.length) : splice cur 0 (sec s) = sec s := by
  unfold splice
  simp [sec_length, ← h]

set_option maxHeartbeats 1000000 in
theorem write_ok (h : Dk w d S M n safe wn well) (hw : well ≠ 0) (h0 : 0 ≤ i) (h1 : i < n) (hb : Bys w A 48 bs) (hA : ∀ ad, A = some ad → ad.block ≠ d) : Calls Try.prog 12 #[.pointer (some ⟨d, 0, none⟩), .int .i64 i, .slice A 48 cap] w fun e w' =>
    e = .returned (.int .i64 0) ∧ Dk w' d S M n safe (upd wn i bs) (dec well) ∧ Turn [d, M] w w' := by
  have n2 := h.n2
  have H := Lib.hid h
  have HB := Lib.hid hb
  clear h hb
  go_enter Try.func12, Try.ntmps12
  go_wp2_with fail
  refine (has_yes H.out h0 h1).mono ?_
  rintro e w' ⟨rfl, rfl⟩
  go_wp2_with fail
  refine (fails_no H.out hw).mono ?_
  rintro e w1 ⟨rfl, hD, hT, -⟩
  have HB1 := Lib.hid (HB.out.turn hT (by simpa using hA))
  have K := Lib.hid (And.intro hD hT)
  clear hD hT HB H hA
  go_wp2_with fail
  have hX := Blk.new w1 53 z48
  have hN := below_new w1 (.cells z48 53)
  have hS := size_new w1 (.cells z48 53)
  generalize w1.alloc (.cells z48 53) = w2 at *
  have hD2 := K.out.1.held hN
  have hT2 := K.out.2.and_below hN
  obtain ⟨hlen, hcells⟩ := HB1.out.held hN
  obtain ⟨ad, rfl, hcell⟩ := hcells (by omega)
  have hg1 : w1.heap.size ≠ d := Nat.ne_of_gt K.out.1.head.lt
  have hg2 : w1.heap.size ≠ S := Nat.ne_of_gt K.out.1.ltS
  have hg3 : w1.heap.size ≠ M := Nat.ne_of_gt K.out.1.map.lt
  clear HB1 hcells
  have hwg : w.heap.size ≤ w1.heap.size := K.out.2.size
  clear K
  generalize w1.heap.size = g at *
  have hrun := run_copy_row (P := Try.prog) w2 28 28 3 5 g 0 48 48 ad 48 cap z48 53 (sec bs) (by kernel_rfl) uint8_info hX (by rw [sec_length, hlen]; rfl) hcell (by rw [sec_length, hlen]; decide) (sec_one bs)
  have e : (z48.toList.take 0 ++ sec bs ++ z48.toList.drop (0 + (sec bs).length)).toArray = (sec bs).toArray := by
    have := splice_all bs z48.toList (by rw [hlen]; rfl)
    unfold splice at this
    rw [List.append_assoc, this]
  rw [e] at hrun
  have hX3 : Blk 53 (w2.setRow g (sec bs).toArray) g (sec bs).toArray := setRow_heap w2 g _ _ _ _ hX
  have hT3 : Turn [g] w2 (w2.setRow g (sec bs).toArray) := ⟨rfl, rfl, rfl, by simp [World.setRow], fun i _ hn => setRow_other w2 g i _ (by simpa using hn)⟩
  have hD3 := hD2.turn hT3 (by simpa using hg1.symm) (by simpa using hg2.symm) (by simpa using hg3.symm)
  rw [hrun]
  clear hrun hcell hX e
  have hT4 : Turn [d, M] w (w2.setRow g (sec bs).toArray) := (hT2.mono (by simp)).fresh hT3 hwg
  generalize w2.setRow g (sec bs).toArray = w3 at *
  have hR : w3.rangeAt g 0 (sec bs) := fun j v hv => by rw [Nat.zero_add, hX3.at_ j]; simpa using hv
  have cM := hD3.head.at_ 1
  have cM0 : w3.cell? ⟨d, 1, none⟩ = some (.map (some M)) := cM
  clear cM
  obtain ⟨w4, hr, hM', hg4, hs4⟩ := hD3.drew.map.store (t := 49) (e := 53) (by kernel_rfl) (by kernel_rfl) (N := n) (by unfold maxLen; omega) (fun z hz => by
    simp only [Option.isSome_map] at hz
    obtain ⟨s, hs⟩ := Option.isSome_iff_exists.1 hz
    have := hD3.wlen z s hs
    omega) (i := i) (int_wf (by omega) (by omega)) (.agg (sec bs).toArray)
  have hD4 := hD3.drew.upd hlen h0 h1 hM' hg4
  have cM4 : w4.cell? ⟨d, 1, none⟩ = some (.map (some M)) := hD4.head.at_ 1
  have hR4 : w4.rangeAt g 0 (sec bs) := fun j v hv => by
    rw [World.cell?_of_block (hg4.block g hX3.lt (by simpa using hg3))]
    exact hR j v hv
  have hT5 : Turn [d, M] w w4 := hT4.drew.trans (Turn.of_grown hg4 (by simp))
  have Z := Lib.hid (And.intro hD4 hT5)
  have hu := sector_under
  have hi := secInfo hlen
  clear hD4 hT5 hX3 hT3 hD3 hT4 hD2 hT2 hN hS hM' hg4 hs4
  go_wp2_with fail
  go_region_held3 (fun w' => w'.cell? ⟨d, 1, none⟩ = some (.map (some M)) ∧ w'.rangeAt g 0 (sec bs)) (exact ⟨by assumption, by assumption⟩) (fail)
  go_wp2
  go_ret
  exact ⟨rfl, Z.out⟩
end
end Go.Proofs.Ytnoolpgklenhaaa
