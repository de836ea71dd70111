/-
  Package disk's Read, and slices.Clone at bytes.
-/
import Derived.Test.YtnoolpgklenhaaaDskW
import Derived.OwnWalk
import Derived.Maps.AppendAt
namespace Go.Proofs.Ytnoolpgklenhaaa
open Go.RowKit

theorem byte_parts : (Try.prog.info? 5).map (fun i => (i.zero, i.size, i.bytes)) = some (some (.int .u8 0), 1, 1) := by kernel_rfl
theorem ownsRow_bys {w : World} {base : Nat} {v : Value} {s : List UInt8} (h : w.ownsRow base 5 1 v s.length (sec s)) (hs : 0 < s.length) : ∃ g cap, v = .slice (some ⟨g, 0, none⟩) s.length cap ∧ base ≤ g ∧ Bys w (some ⟨g, 0, none⟩) s.length s := by
  rcases h.2 with ⟨_, h0⟩ | ⟨g, cap, cur, rfl, hb, hg, h1, h2, h3, h4⟩
  · omega
  · refine ⟨g, cap, rfl, hb, rfl, fun _ => ⟨_, rfl, fun j u hu => ?_⟩⟩
    rw [Addr.add_mid, Nat.zero_add, cell_of_row w g j cur _ _ hg]
    rw [← h4, Nat.mul_one, List.getElem?_take] at hu
    split at hu
    · simpa using hu
    · cases hu

set_option maxHeartbeats 400000 in
theorem clone_any (w : World) (ad : Addr) (s : List UInt8) (cap : Nat) (hs : 0 < s.length) (hs2 : s.length ≤ 140737488355328) (hc : ∀ j v, (sec s)[j]? = some v → w.cell? (ad.add j) = some v) :
    Calls Try.prog 18 #[.slice (some ad) s.length cap] w fun e w' => ∃ g cap', e = .returned (.slice (some ⟨g, 0, none⟩) s.length cap') ∧ w.heap.size ≤ g ∧ Bys w' (some ⟨g, 0, none⟩) s.length s ∧ Below w.heap.size w w' := by
  have HC := Lib.hid hc
  clear hc
  obtain ⟨i0, hi0, hz0, hz1, hz2⟩ := info_parts byte_parts
  have II := Lib.hid (And.intro hi0 (And.intro hz0 (And.intro hz1 hz2)))
  clear hi0 hz0 hz1 hz2
  have hq := Lib.run_eql_slice_nil (P := Try.prog) w 28 5 (some ad) s.length cap 0 0 (by kernel_rfl)
  go_enter Try.func18, Try.ntmps18
  go_wp2_with (first | (at_builtin; have own0 := World.ownsRow_made (base := w.heap.size) (e := 5) (size := 1) w #[] 0 (Nat.le_refl _) (by unfold maxLen; omega) rfl; (refine wpList_append_own _ rfl (.tmp 5) (.tmp 6) 28 rfl w.heap.size 5 i0 (.int .u8 0) 1 1 (by kernel_rfl) II.out.1 II.out.2.1 II.out.2.2.1 II.out.2.2.2 rfl (by decide) _ 0 [] rfl own0 ad s.length cap (sec s) rfl ?c1 ?c2 (sec_one s) ?c3 ?c4 ?c5 ?_)))
  case c1 => rw [sec_length, Nat.mul_one]
  case c2 => exact fun j u hu => held (below_new w _) (HC.out j u hu)
  case c3 => unfold maxLen; omega
  case c4 => omega
  case c5 => simp
  intro v' w1 hown hg hnil
  have Z := Lib.hid (And.intro hown hg)
  clear hown hg hnil hq
  go_wp2_with fail
  go_ret
  obtain ⟨hown, hg⟩ := Z.out
  obtain ⟨g, cap', rfl, hbg, hB⟩ := ownsRow_bys hown hs
  exact ⟨g, cap', rfl, hbg, hB, (below_new w _).grown hg (by simp) (fun k hk => by simp [Value.ownBlock] at hk; omega)⟩

theorem zero_sector (w : World) : (zeroValue 53).run Try.prog w = .ok (.agg z48) w := by kernel_rfl
theorem z48_sec : z48 = (sec (List.replicate 48 0)).toArray := by
  unfold sec
  simp [z48, List.replicate]

/-- what Read answers: a slice of its own of the bytes s -/
def ReadAns (w : World) (s : List UInt8) (e : Ending) (w' : World) : Prop :=
  ∃ g cap, e = .returned (.tuple #[.slice (some ⟨g, 0, none⟩) 48 cap, .int .i64 0]) ∧ w.heap.size ≤ g ∧ Bys w' (some ⟨g, 0, none⟩) 48 s ∧ Below w.heap.size w w'

section
variable {w : World} {d S M n : Nat} {safe : Nat → List UInt8} {wn : Int → Option (List UInt8)} {well : Int}
theorem read_off (h : Dk w d S M n safe wn well) {i : Int} (h1 : i < 0 ∨ (n : Int) ≤ i) : Calls Try.prog 13 #[.pointer (some ⟨d, 0, none⟩), .int .i64 i] w fun e w' => e = .returned (.tuple #[.slice none 0 0, .int .i64 1]) ∧ w = w' := by
  have H := Lib.hid h
  clear h
  go_enter Try.func13, Try.ntmps13
  go_wp2_with fail
  refine (has_no H.out h1).mono ?_
  rintro e w' ⟨rfl, rfl⟩
  go_wp2
  go_ret2
  exact ⟨rfl, rfl⟩
set_option maxHeartbeats 1000000 in
theorem read_ok (h : Dk w d S M n safe wn well) {i : Nat} (hi : i < n) : Calls Try.prog 13 #[.pointer (some ⟨d, 0, none⟩), .int .i64 i] w (ReadAns w (synced safe wn i)) := by
  have n2 := h.n2
  have cM : w.cell? ⟨d, 1, none⟩ = some (.map (some M)) := h.head.at_ 1
  have c0 : w.cell? ⟨d, 0, none⟩ = some (.slice (some ⟨S, 0, none⟩) n n) := h.head.at_ 0
  have hl := h.map.look_ok (t := 49) (e := 53) (by kernel_rfl) (by kernel_rfl) (zero_sector w) (i := (i : Int)) (int_wf (by omega) (by omega))
  have hlen := h.synced_len hi
  have hlt := h.head.lt
  cases hw : wn i with
  | some s =>
    have E : Hid (synced safe wn i = s) := Lib.hid (by unfold synced; rw [hw]; rfl)
    rw [E.out] at hlen
    simp only [hw, Option.map_some, Option.getD_some, Option.isSome_some] at hl
    have H := Lib.hid h
    clear h hw
    go_enter Try.func13, Try.ntmps13
    go_wp2_with fail
    refine (has_yes H.out (i := (i : Int)) (by omega) (by omega)).mono ?_
    rintro e w' ⟨rfl, rfl⟩
    go_wp2_with (first | (refine wpList_store_mid (P := Try.prog) rfl 53 (.tmp 6) (.tmp 19) rfl _ 0 (sec s).toArray rfl rfl (z48_there' _ _ hlen) (secInfo' hlen) (all_oneCell_toArray (sec_one s)) ?_))
    obtain ⟨hN, hX, -⟩ := new_stored w 53 hlen
    dsimp only [z48] at hN hX
    generalize (World.setCells (w.alloc _) w.heap.size 0 (sec s)) = w2 at *
    have hc := clone_any w2 ⟨w.heap.size, 0, none⟩ s 48 (by omega) (by omega) (fun j v hv => by rw [Addr.add_mid, Nat.zero_add, hX.at_ j]; simpa using hv)
    rw [hlen] at hc
    refine hc.mono ?_
    rintro e w3 ⟨g, cap, rfl, hg, hB, hb3⟩
    have Z := Lib.hid (And.intro hN (And.intro hg (And.intro hB hb3)))
    clear hN hg hB hb3 hX hc hl
    go_wp2_with fail
    go_ret2
    obtain ⟨hN, hg, hB, hb3⟩ := Z.out
    rw [E.out]
    exact ⟨g, cap, rfl, Nat.le_trans hN.size hg, hB, next hN hb3⟩
  | none =>
    have E : Hid (synced safe wn i = safe i) := Lib.hid (by unfold synced; rw [hw]; rfl)
    rw [E.out] at hlen
    simp only [hw, Option.map_none, Option.getD_none, Option.isSome_none, z48_sec] at hl
    have hl0 : (List.replicate 48 (0 : UInt8)).length = 48 := by simp
    generalize List.replicate 48 (0 : UInt8) = s0 at *
    have H := Lib.hid h
    clear h hw
    go_enter Try.func13, Try.ntmps13
    go_wp2_with fail
    refine (has_yes H.out (i := (i : Int)) (by omega) (by omega)).mono ?_
    rintro e w' ⟨rfl, rfl⟩
    go_wp2_with (first
      | (refine wpList_store_mid (P := Try.prog) rfl 53 (.tmp 6) (.tmp 19) rfl _ 0 (sec s0).toArray rfl rfl (z48_there' _ _ hl0) (secInfo' hl0) (all_oneCell_toArray (sec_one s0)) ?_
         obtain ⟨hN, hX, -⟩ := new_stored w 53 hl0
         dsimp only [z48] at hN hX
         rw [List.toList_toArray]
         generalize (World.setCells (w.alloc _) w.heap.size 0 (sec s0)) = w2 at *
         have c2 : w2.cell? ⟨d, 0, none⟩ = some (.slice (some ⟨S, 0, none⟩) n n) := (H.out.held hN).head.at_ 0
         have X := Lib.hid (And.intro hN hX)
         clear hN hX)
      | (refine wpList_load_mid (P := Try.prog) rfl 53 (.tmp 28) rfl _ _ rfl (sec (safe i)) _ ((H.out.held X.out.1).range hi) sector_under rfl (secInfo hlen) ?_)
      | (refine wpList_store_mid (P := Try.prog) rfl 53 (.tmp 6) (.tmp 29) rfl _ 0 (sec (safe i)).toArray rfl rfl (X.out.2.there_all hlen hl0) (secInfo' hlen) (all_oneCell_toArray (sec_one _)) ?_))
    obtain ⟨hN, hX⟩ := X.out
    have hX3 := hX.restored hlen hl0
    have hN3 : Below w.heap.size w (w2.setCells w.heap.size 0 (sec (safe i))) := hN.trans ((Turn.setCells (L := [w.heap.size]) w2 (by simp) 0 _).below (by simp) hN.size)
    generalize w2.setCells w.heap.size 0 (sec (safe i)) = w4 at *
    have hc := clone_any w4 ⟨w.heap.size, 0, none⟩ (safe i) 48 (by omega) (by omega) (fun j v hv => by rw [Addr.add_mid, Nat.zero_add, hX3.at_ j]; simpa using hv)
    rw [hlen] at hc
    refine hc.mono ?_
    rintro e w3 ⟨g, cap, rfl, hg, hB, hb3⟩
    have Z := Lib.hid (And.intro hN3 (And.intro hg (And.intro hB hb3)))
    clear hN hg hB hb3 hX hc hl hX3 hN3
    go_wp2_with fail
    go_ret2
    obtain ⟨hN, hg, hB, hb3⟩ := Z.out
    rw [E.out]
    exact ⟨g, cap, rfl, Nat.le_trans hN.size hg, hB, next hN hb3⟩
end
end Go.Proofs.Ytnoolpgklenhaaa
