/-
  Package disk's Crash.
  Package net: Crash; Boot of what runs, Own of what doesn't.
  Of one way alone how far it is.
  NetDown: its two Rounds.
-/
import Derived.Test.YtkchckeecfalhaaGreatS29
import Derived.Test.YtkchckeecfalhaaGreatS01
import Derived.Deep.Slices
namespace Go.Proofs.YtkchckeecfalhaaGreat.Cr
open Go.RowKit

abbrev Pk := Int × Int × Nat
/-- A slice of just these picks. -/
def PicksAt (u : World) (A : Option Addr) (ps : List Pk) : Prop :=
  ∀ j p, ps[j]? = some p → p.2.2 < 4294967296 ∧ ∃ ad, A = some ad ∧ u.cell? (ad.add (j * 3)) = some (.int .i64 p.1) ∧ u.cell? (ad.add (j * 3 + 1)) = some (.int .i64 p.2.1) ∧ u.cell? (ad.add (j * 3 + 2)) = some (.int .u32 (p.2.2 : Int))
/-- how many sectors below i aren't safe -/
def unsafeBelow (wn : Int → Option (List UInt8)) : Nat → Nat
  | 0 => 0
  | i + 1 => unsafeBelow wn i + (if (wn i).isSome then 1 else 0)
/-- what becomes of sector i in a crash -/
def crashed (safe : Nat → List UInt8) (wn : Int → Option (List UInt8)) (ps : List Pk) (i : Nat) : List UInt8 :=
  match wn i with
  | none => safe i
  | some s => match ps[unsafeBelow wn i]? with
    | none => safe i
    | some p => picked p.1 p.2.1 p.2.2 (safe i) s
/-- .. while those from k on are still to come -/
def crashing (safe : Nat → List UInt8) (wn : Int → Option (List UInt8)) (ps : List Pk) (k i : Nat) : List UInt8 := if i < k then crashed safe wn ps i else safe i

theorem PicksAt.turn {u u' : World} {A : Option Addr} {ps : List Pk} {L : List Nat} (h : PicksAt u A ps) (t : Turn L u u') (hA : ∀ ad, A = some ad → ad.block ∉ L) : PicksAt u' A ps := by
  intro j p hp
  obtain ⟨h1, ad, e, c0, c1, c2⟩ := h j p hp
  exact ⟨h1, ad, e, t.cell c0 (by rw [add_block]; exact hA ad e), t.cell c1 (by rw [add_block]; exact hA ad e), t.cell c2 (by rw [add_block]; exact hA ad e)⟩
theorem PicksAt.held {u u' : World} {A : Option Addr} {ps : List Pk} (h : PicksAt u A ps) (hb : Below u.heap.size u u') : PicksAt u' A ps := by
  intro j p hp
  obtain ⟨h1, ad, e, c0, c1, c2⟩ := h j p hp
  exact ⟨h1, ad, e, Go.Proofs.YtkchckeecfalhaaGreat.held hb c0, Go.Proofs.YtkchckeecfalhaaGreat.held hb c1, Go.Proofs.YtkchckeecfalhaaGreat.held hb c2⟩
theorem PicksAt.tail {u : World} {ad : Addr} {p : Pk} {ps : List Pk} (h : PicksAt u (some ad) (p :: ps)) : PicksAt u (some (ad.add 3)) ps := by
  intro j q hq
  obtain ⟨h1, ad', e, c0, c1, c2⟩ := h (j + 1) q (by simpa using hq)
  cases e
  refine ⟨h1, _, rfl, ?_, ?_, ?_⟩
  · rw [Deep.add_add, show 3 + j * 3 = (j + 1) * 3 by omega]; exact c0
  · rw [Deep.add_add, show 3 + (j * 3 + 1) = (j + 1) * 3 + 1 by omega]; exact c1
  · rw [Deep.add_add, show 3 + (j * 3 + 2) = (j + 1) * 3 + 2 by omega]; exact c2
theorem PicksAt.nil {u : World} {A : Option Addr} : PicksAt u A [] := fun j p hp => by simp at hp

theorem run_tail1 (u : World) (ad : Addr) {m cap : Nat} {A2 : Option Addr} (h1 : 1 ≤ m) (h3 : A2 = (if cap = 1 then some ad else some (ad.add 3))) :
    (Instr.slice 29 (.slice (some ad) m cap) (some (.int .i64 1)) none none).run Tryz.prog u = .ok (.slice A2 (m - 1) (cap - 1)) u := by
  have hu : Tryz.prog.underlying 29 = some (.slice 238) := by kernel_rfl
  have hz : (sizeOf 238).run Tryz.prog u = .ok 3 u := by kernel_rfl
  have hb : (Instr.sliceBound (.int .i64 1) m .sliceB).run Tryz.prog u = .ok 1 u := run_sliceBound u .i64 1 m .sliceB (by omega) (by omega)
  subst h3
  simp only [Instr.slice, Sem.run_bind, run_underlying hu, Result.andThen_ok, Instr.sliceBounds, Sem.run_pure]
  simp [hb]
theorem tail_picks {u : World} {ad : Addr} {cap : Nat} {rest : List Pk} (h : PicksAt u (some (ad.add 3)) rest) (hl : rest.length ≤ cap - 1) : PicksAt u (if cap = 1 then some ad else some (ad.add 3)) rest := by
  by_cases hc : cap = 1
  · obtain rfl : rest = [] := List.eq_nil_of_length_eq_zero (by omega)
    exact PicksAt.nil
  · rw [if_neg hc]; exact h
theorem A2_block {A2 : Option Addr} {ad : Addr} {cap : Nat} {L : List Nat} (h : A2 = if cap = 1 then some ad else some (ad.add 3)) (had : ad.block ∉ L) : ∀ a, A2 = some a → a.block ∉ L := by
  intro a ha
  rw [h] at ha
  by_cases hc : cap = 1
  · rw [if_pos hc] at ha; cases ha; exact had
  · rw [if_neg hc] at ha; cases ha; rw [add_block]; exact had
theorem _root_.Go.Proofs.YtkchckeecfalhaaGreat.Blk.three {w : World} {g : Nat} {t : TypeId} {a b c : Value} (h : Blk t w g #[a, b, c]) (x y z : Value) : Blk t (((w.setCell ⟨g, 0, none⟩ x).setCell ⟨g, 1, none⟩ y).setCell ⟨g, 2, none⟩ z).drew g #[x, y, z] :=
  (((h.store 0 x).store 1 y).store 2 z).drew
theorem crashing_none {safe : Nat → List UInt8} {wn : Int → Option (List UInt8)} {ps : List Pk} {k : Nat} (h : wn k = none) : crashing safe wn ps (k + 1) = crashing safe wn ps k := by
  funext i
  unfold crashing
  by_cases h1 : i < k
  · rw [if_pos h1, if_pos (by omega)]
  · by_cases h2 : i = k
    · subst h2; rw [if_pos (by omega), if_neg (by omega)]; unfold crashed; rw [h]
    · rw [if_neg (by omega), if_neg (by omega)]
theorem crashing_some {safe : Nat → List UInt8} {wn : Int → Option (List UInt8)} {ps : List Pk} {k : Nat} : crashing safe wn ps (k + 1) = fun j => if j = k then crashed safe wn ps k else crashing safe wn ps k j := by
  funext i
  unfold crashing
  by_cases h2 : i = k
  · subst h2; rw [if_pos (by omega), if_pos rfl]
  · rw [if_neg h2]
    by_cases h1 : i < k
    · rw [if_pos h1, if_pos (by omega)]
    · rw [if_neg (by omega), if_neg (by omega)]
theorem crashing_at {safe : Nat → List UInt8} {wn : Int → Option (List UInt8)} {ps : List Pk} {k : Nat} : crashing safe wn ps k k = safe k := by unfold crashing; rw [if_neg (by omega)]
theorem below_none {wn : Int → Option (List UInt8)} {k : Nat} (h : wn k = none) : unsafeBelow wn (k + 1) = unsafeBelow wn k := by rw [unsafeBelow, h]; rfl
theorem below_some {wn : Int → Option (List UInt8)} {k : Nat} {s : List UInt8} (h : wn k = some s) : unsafeBelow wn (k + 1) = unsafeBelow wn k + 1 := by rw [unsafeBelow, h]; rfl

section
variable {w : World} {d S M n : Nat} {safe : Nat → List UInt8} {wn : Int → Option (List UInt8)} {well : Int}
/-- how Crash's loop stands -/
def CrashRel (w : World) (d S M n : Nat) (safe : Nat → List UInt8) (wn : Int → Option (List UInt8)) (well : Int) (ps : List Pk) (cap : Nat) (v i : Value) (u : World) : Prop :=
  ∃ (k : Nat) (A : Option Addr) (cap' : Nat), k ≤ n ∧ i = .int .i64 k ∧ v = .slice A (ps.length - unsafeBelow wn k) cap' ∧ ps.length - unsafeBelow wn k ≤ cap' ∧ cap' ≤ cap ∧ PicksAt u A (ps.drop (unsafeBelow wn k)) ∧ (ps = [] ∨ ∀ ad, A = some ad → ad.block ∉ [d, S, M]) ∧
    Dk u d S M n (crashing safe wn ps k) wn well ∧ Turn [d, S, M] w u

set_option maxHeartbeats 2000000 in
set_option maxRecDepth 100000 in
theorem crash_any (h : Dk w d S M n safe wn well) (A : Option Addr) (ps : List Pk) (cap : Nat) (hps : PicksAt w A ps) (hA : ps = [] ∨ ∀ ad, A = some ad → ad.block ∉ [d, S, M]) (hl : ps.length ≤ cap) (hc : cap ≤ 9223372036854775807) :
    Calls Tryz.prog 79 #[.pointer (some ⟨d, 0, none⟩), .slice A ps.length cap] w fun e w' => e = .returned (.tuple #[]) ∧ Dk w' d S M n (crashed safe wn ps) (fun _ => none) (-1) ∧ Turn [d, S, M] w w' := by
  have n2 := h.n2
  have K := Lib.hid (show CrashRel w d S M n safe wn well ps cap (.slice A ps.length cap) (.int .i64 0) w from ⟨0, A, cap, by omega, rfl, rfl, by simpa [unsafeBelow] using hl, Nat.le_refl _, hps, hA, by
    have e : crashing safe wn ps 0 = safe := by funext i; simp [crashing]
    rw [e]; exact h, Turn.refl _ _⟩)
  have H := Lib.hid h
  clear h hps hA
  go_enter Tryz.func79, Tryz.ntmps79
  go_wp2_with fail
  refine (size_any H.out).mono ?_
  rintro e w' ⟨rfl, rfl⟩
  go_wp2_with fail
  go_loopw [1, 10] (fun v i u => CrashRel w d S M n safe wn well ps cap v i u) (fun _ i _ => n - (intOf i).toNat)
  case atStart => exact K.out
  case round =>
    clear K H
    obtain ⟨k, A', cap', hk, rfl, rfl, hl', hc', hP, hA, hD, hT⟩ := hrel
    have cM : wr.cell? ⟨d, 1, none⟩ = some (.map (some M)) := hD.head.at_ 1
    have c0 : wr.cell? ⟨d, 0, none⟩ = some (.slice (some ⟨S, 0, none⟩) n n) := hD.head.at_ 0
    have hlt0 := hD.head.lt
    by_cases hkn : k < n
    · have hl := hD.map.look_ok (t := 208) (e := 235) (by kernel_rfl) (by kernel_rfl) (zero_sector wr) (i := (k : Int)) (int_wf (by omega) (by omega))
      cases hw : wn k with
      | none =>
        simp only [hw, Option.map_none, Option.getD_none, Option.isSome_none, z48_sec] at hl
        have hl0 : (List.replicate 48 (0 : UInt8)).length = 48 := by simp
        generalize List.replicate 48 (0 : UInt8) = s0 at *
        have Z := Lib.hid (And.intro hl' (And.intro hc' (And.intro hP (And.intro hA (And.intro hD (And.intro hT hw))))))
        clear hl' hc' hP hA hD hT hw
        go_wp2_with (first
          | (refine wpList_store_mid (P := Tryz.prog) rfl 235 (.tmp 5) (.tmp 20) rfl _ 0 (sec s0).toArray rfl rfl (z48_there' _ _ hl0) (secInfo' hl0) (all_oneCell_toArray (sec_one s0)) ?_
             obtain ⟨hN, hX, -⟩ := new_stored wr 235 hl0
             dsimp only [z48] at hN hX
             rw [List.toList_toArray]
             generalize (World.setCells (wr.alloc _) wr.heap.size 0 (sec s0)) = w2 at *
             have X := Lib.hid (And.intro hN hX)
             clear hN hX))
        go_roundw
        case rel =>
          obtain ⟨hl', hc', hP, hA, hD, hT, hw⟩ := Z.out
          have hN := X.out.1
          refine ⟨k + 1, A', cap', by omega, by go_num, by rw [below_none hw], by rw [below_none hw]; exact hl', hc', by rw [below_none hw]; exact hP.held hN, hA, by rw [crashing_none hw]; exact hD.held hN, hT.and_below hN⟩
        case measure => simp [intOf]; omega
      | some s =>
        have hs := (hD.wlen _ _ hw).2.2
        have hsk := hD.len k hkn
        rw [crashing_at] at hsk
        simp only [hw, Option.map_some, Option.getD_some, Option.isSome_some] at hl
        by_cases hb : unsafeBelow wn k < ps.length
        · obtain ⟨⟨how, at_, turn⟩, hp⟩ : ∃ p, ps[unsafeBelow wn k]? = some p := ⟨_, List.getElem?_eq_getElem hb⟩
          have E : Hid (crashed safe wn ps k = picked how at_ turn (safe k) s) := Lib.hid (by unfold crashed; rw [hw, hp])
          have hrest : ps.drop (unsafeBelow wn k) = (how, at_, turn) :: ps.drop (unsafeBelow wn k + 1) := by
            rw [List.drop_eq_getElem_cons hb]
            congr 1
            rw [List.getElem?_eq_getElem hb] at hp
            exact Option.some.inj hp
          rw [hrest] at hP
          obtain ⟨ht, ad, rfl, p0, p1, p2⟩ := hP 0 _ rfl
          simp only [Nat.zero_mul, Nat.zero_add] at p0 p1 p2
          have hPt := hP.tail
          have had := hA.resolve_left (fun e => by rw [e] at hb; simp at hb) ad rfl
          have Z := Lib.hid (And.intro hl' (And.intro hc' (And.intro hPt (And.intro hA (And.intro hD (And.intro hT hw))))))
          have m1 : ps.length - unsafeBelow wn k ≤ cap' := hl'
          have m2 : 1 ≤ ps.length - unsafeBelow wn k := by omega
          have m3 : cap' ≤ 9223372036854775807 := by omega
          have m4 : ps.length - unsafeBelow wn k - 1 = ps.length - (unsafeBelow wn k + 1) := by omega
          have PP := Lib.hid (And.intro p0 (And.intro p1 p2))
          clear hl' hc' hP hA hD hT hw hp hrest p0 p1 p2 hPt
          generalize ps.length - unsafeBelow wn k = m at *
          have M4 := Lib.hid m4
          clear m4
          obtain ⟨A2, hA2⟩ : ∃ A2, A2 = (if cap' = 1 then some ad else some (ad.add 3)) := ⟨_, rfl⟩
          have hrunS := fun u => run_tail1 u ad m2 hA2
          have HA2 := Lib.hid hA2
          clear hA2
          go_wp2_with (first
            | (refine wpList_store_mid (P := Tryz.prog) rfl 235 (.tmp 5) (.tmp 20) rfl _ 0 (sec s).toArray rfl rfl (z48_there' _ _ hs) (secInfo' hs) (all_oneCell_toArray (sec_one s)) ?_
               obtain ⟨hN, hX, -⟩ := new_stored wr 235 hs
               dsimp only [z48] at hN hX
               rw [List.toList_toArray]
               generalize (World.setCells (wr.alloc _) wr.heap.size 0 (sec s)) = w2 at *
               have X := Lib.hid (And.intro hN hX)
               clear hN hX))
          have hN3 := below_new w2 (.cells #[.int .i64 0, .int .i64 0, .int .u32 0] 238)
          have hB3 := Blk.new w2 238 #[.int .i64 0, .int .i64 0, .int .u32 0]
          generalize w2.alloc (.cells #[.int .i64 0, .int .i64 0, .int .u32 0] 238) = w3 at *
          obtain ⟨p0, p1, p2⟩ := PP.out
          replace p0 := held hN3 (held X.out.1 p0)
          replace p1 := held hN3 (held X.out.1 p1)
          replace p2 := held hN3 (held X.out.1 p2)
          have gne : ad.block ≠ w2.heap.size := by
            have h1 := cell_lt (PP.out.1)
            rw [add_block] at h1
            have h2 := X.out.1.size
            omega
          have Y := Lib.hid (And.intro hN3 hB3)
          have B4 := hB3.three (.int .i64 how) (.int .i64 at_) (.int .u32 turn)
          have T4 : Turn [w2.heap.size] w3.drew (((w3.setCell ⟨w2.heap.size, 0, none⟩ (.int .i64 how)).setCell ⟨w2.heap.size, 1, none⟩ (.int .i64 at_)).setCell ⟨w2.heap.size, 2, none⟩ (.int .u32 turn)).drew :=
            ((Turn.setCell _ (by simp) _).trans (Turn.setCell _ (by simp) _)).trans (Turn.setCell _ (by simp) _)
          refine wp_region_held_drew (S := fun w' => w'.cell? ad = some (.int .i64 how) ∧ w'.cell? (ad.add 1) = some (.int .i64 at_) ∧ w'.cell? (ad.add 2) = some (.int .u32 turn)) (by kernel_rfl) ⟨p0, p1, p2⟩ (fun hHeld => ?_)
          have e1 : ∀ f, ad.add (f + 1) = ⟨ad.block, ad.off + (f + 1), none⟩ := fun f => by unfold Addr.add; simp
          refine take_list (i := 0) (v := .slice (some ad) m cap') rfl (by kernel_rfl) (by kernel_rfl) (by kernel_rfl) (fun _ _ _ h => h) (.inl ⟨rfl, ?_⟩) hHeld ?_
          · (intro w hSw; go_simp)
          go_frame
          refine take_list (i := 1) (v := .pointer (some ad)) rfl (by kernel_rfl) (by kernel_rfl) (by kernel_rfl) (fun _ _ _ h => h) (.inl ⟨rfl, ?_⟩) hHeld ?_
          · (intro w hSw; go_simp)
          go_frame
          refine take_list (i := 2) (v := .agg #[.int .i64 how, .int .i64 at_, .int .u32 turn]) rfl (by kernel_rfl) (by kernel_rfl) (by kernel_rfl) (fun _ _ _ h => h) (.inl ⟨rfl, ?_⟩) hHeld ?_
          · (intro w hSw; rw [e1 0, e1 1] at hSw; go_simp)
          go_frame
          refine take_list (i := 3) (v := .slice (some ad) m cap') rfl (by kernel_rfl) (by kernel_rfl) (by kernel_rfl) (fun _ _ _ h => h) (.inl ⟨rfl, ?_⟩) hHeld ?_
          · (intro w hSw; go_simp)
          go_frame
          refine take_list (i := 4) (v := .slice A2 (m - 1) (cap' - 1)) rfl (by kernel_rfl) (by kernel_rfl) (by kernel_rfl) (fun _ _ _ h => h) (.inl ⟨rfl, ?_⟩) hHeld ?_
          · (intro w hSw; go_simp)
          go_frame
          have g0 : w3.cell? ⟨w2.heap.size, 0, none⟩ = some (.int .i64 0) := hB3.at_ 0
          have g1 : w3.cell? ⟨w2.heap.size, 1, none⟩ = some (.int .i64 0) := hB3.at_ 1
          have g2 : w3.cell? ⟨w2.heap.size, 2, none⟩ = some (.int .u32 0) := hB3.at_ 2
          have f0 := hB3.free 0
          have f1 := hB3.free 1
          have f2 := hB3.free 2
          refine ready_list (i := 5) rfl (by kernel_rfl) (fun K hK => ?_)
          go_simp
          refine hK.out _ _ ⟨T4.cell p0 (by simpa using gne), T4.cell p1 (by rw [add_block]; simpa using gne), T4.cell p2 (by rw [add_block]; simpa using gne)⟩ (fun hHeld => ?_)
          clear hK K
          refine take_list (i := 6) (v := .slice A2 (m - 1) (cap' - 1)) rfl (by kernel_rfl) (by kernel_rfl) (by kernel_rfl) (fun _ _ _ h => h) (.inl ⟨rfl, ?_⟩) hHeld ?_
          · (intro w hSw; go_simp)
          go_frame
          refine wpAnyH_done (by kernel_rfl) ?_ _
          have hN4 : Below w2.heap.size w2 (((w3.setCell ⟨w2.heap.size, 0, none⟩ (.int .i64 how)).setCell ⟨w2.heap.size, 1, none⟩ (.int .i64 at_)).setCell ⟨w2.heap.size, 2, none⟩ (.int .u32 turn)).drew := hN3.drew.trans (T4.below (by simp) hN3.size)
          clear hHeld hN3 hB3 p0 p1 p2 g0 g1 g2 f0 f1 f2 Y T4 e1 hrunS
          generalize (((w3.setCell ⟨w2.heap.size, 0, none⟩ (.int .i64 how)).setCell ⟨w2.heap.size, 1, none⟩ (.int .i64 at_)).setCell ⟨w2.heap.size, 2, none⟩ (.int .u32 turn)).drew = w4 at *
          go_wp2_with fail
          have hNN := next (X.out.1) hN4
          have hD3 := Z.out.2.2.2.2.1.held hNN
          have hX3 := X.out.2.held hN4
          have hXl := picked_length (how := how) (at_ := at_) (turn := turn) hsk hs
          have q0 : w4.cell? ⟨d, 0, none⟩ = some (.slice (some ⟨S, 0, none⟩) n n) := hD3.head.at_ 0
          have q1 : w4.cell? ⟨w2.heap.size, 0, none⟩ = some (.int .i64 how) := B4.at_ 0
          have q2 : w4.cell? ⟨w2.heap.size, 1, none⟩ = some (.int .i64 at_) := B4.at_ 1
          have q3 : w4.cell? ⟨w2.heap.size, 2, none⟩ = some (.int .u32 turn) := B4.at_ 2
          have q4 : w4.drew.rangeAt wr.heap.size 0 (sec s) := hX3.range_all
          have q5 : w4.drew.there S (k * 48) (sec (picked how at_ turn (safe k) s)).length := by rw [sec_length, hXl]; exact hD3.there hkn
          have q6 : w4.drew.rangeAt S (k * 48) (sec (safe k)) := by
            have h := hD3.range hkn
            rw [crashing_at] at h
            exact h
          have hu := sector_under
          have hi := secInfo hs
          have hi2 := secInfo hsk
          have hi3 := secInfo hXl
          have ho := sec_one (picked how at_ turn (safe k) s)
          have Y := Lib.hid (And.intro hNN (And.intro hD3 (And.intro hX3 B4)))
          clear hNN hD3 hX3 B4 hN4 cM c0
          refine wp_region_held_drew (S := fun w' => w'.cell? ⟨d, 0, none⟩ = some (.slice (some ⟨S, 0, none⟩) n n) ∧ w'.cell? ⟨w2.heap.size, 0, none⟩ = some (.int .i64 how) ∧ w'.cell? ⟨w2.heap.size, 1, none⟩ = some (.int .i64 at_) ∧ w'.cell? ⟨w2.heap.size, 2, none⟩ = some (.int .u32 turn) ∧ w'.rangeAt wr.heap.size 0 (sec s)) (by kernel_rfl) ⟨q0, q1, q2, q3, q4⟩ (fun hHeld => ?_)
          refine take_list (i := 0) (v := .pointer (some ⟨d, 0, none⟩)) rfl (by kernel_rfl) (by kernel_rfl) (by kernel_rfl) (fun _ _ _ h => h) (.inl ⟨rfl, ?_⟩) hHeld ?_
          · (intro w hSw; (try dsimp only at hSw); go_simp)
          go_frame
          refine take_list (i := 1) (v := .pointer (some ⟨d, 0, none⟩)) rfl (by kernel_rfl) (by kernel_rfl) (by kernel_rfl) (fun _ _ _ h => h) (.inl ⟨rfl, ?_⟩) hHeld ?_
          · (intro w hSw; (try dsimp only at hSw); go_simp)
          go_frame
          refine take_list (i := 2) (v := .pointer (some ⟨d, 0, none⟩)) rfl (by kernel_rfl) (by kernel_rfl) (by kernel_rfl) (fun _ _ _ h => h) (.inl ⟨rfl, ?_⟩) hHeld ?_
          · (intro w hSw; (try dsimp only at hSw); go_simp)
          go_frame
          refine take_list (i := 3) (v := .slice (some ⟨S, 0, none⟩) n n) rfl (by kernel_rfl) (by kernel_rfl) (by kernel_rfl) (fun _ _ _ h => h) (.inl ⟨rfl, ?_⟩) hHeld ?_
          · (intro w hSw; (try dsimp only at hSw); go_simp)
          go_frame
          refine take_list (i := 4) (v := .int .i64 k) rfl (by kernel_rfl) (by kernel_rfl) (by kernel_rfl) (fun _ _ _ h => h) (.inl ⟨rfl, ?_⟩) hHeld ?_
          · (intro w hSw; (try dsimp only at hSw); go_simp)
          go_frame
          refine take_list (i := 5) (v := .agg #[.int .i64 how, .int .i64 at_, .int .u32 turn]) rfl (by kernel_rfl) (by kernel_rfl) (by kernel_rfl) (fun _ _ _ h => h) (.inl ⟨rfl, ?_⟩) hHeld ?_
          · (intro w hSw; (try dsimp only at hSw); go_simp)
          go_frame
          refine take_list (i := 6) (v := .pointer (some ⟨d, 0, none⟩)) rfl (by kernel_rfl) (by kernel_rfl) (by kernel_rfl) (fun _ _ _ h => h) (.inl ⟨rfl, ?_⟩) hHeld ?_
          · (intro w hSw; (try dsimp only at hSw); go_simp)
          go_frame
          refine take_list (i := 7) (v := .pointer (some ⟨d, 0, none⟩)) rfl (by kernel_rfl) (by kernel_rfl) (by kernel_rfl) (fun _ _ _ h => h) (.inl ⟨rfl, ?_⟩) hHeld ?_
          · (intro w hSw; (try dsimp only at hSw); go_simp)
          go_frame
          refine take_list (i := 8) (v := .pointer (some ⟨d, 0, none⟩)) rfl (by kernel_rfl) (by kernel_rfl) (by kernel_rfl) (fun _ _ _ h => h) (.inl ⟨rfl, ?_⟩) hHeld ?_
          · (intro w hSw; (try dsimp only at hSw); go_simp)
          go_frame
          refine take_list (i := 9) (v := .slice (some ⟨S, 0, none⟩) n n) rfl (by kernel_rfl) (by kernel_rfl) (by kernel_rfl) (fun _ _ _ h => h) (.inl ⟨rfl, ?_⟩) hHeld ?_
          · (intro w hSw; (try dsimp only at hSw); go_simp)
          go_frame
          refine take_list (i := 10) (v := .int .i64 k) rfl (by kernel_rfl) (by kernel_rfl) (by kernel_rfl) (fun _ _ _ h => h) (.inl ⟨rfl, ?_⟩) hHeld ?_
          · (intro w hSw; (try dsimp only at hSw); go_simp)
          go_frame
          refine take_list (i := 11) (v := .pointer (some ⟨S, k * 48, none⟩)) rfl (by kernel_rfl) (by kernel_rfl) (by kernel_rfl) (fun _ _ _ h => h) (.inl ⟨rfl, ?_⟩) hHeld ?_
          · (intro w hSw; (try dsimp only at hSw); go_simp)
          go_frame
          refine take_list (i := 13) (v := .agg (sec s).toArray) rfl (by kernel_rfl) (by kernel_rfl) (by kernel_rfl) (fun _ _ _ h => h) (yieldsIf_load_mid rfl _ _ rfl _ _ rfl (sec s) _ (fun _ h => h.2.2.2.2) sector_under rfl (secInfo hs)) hHeld ?_
          go_frame
          refine ready_list (i := 12) rfl (by kernel_rfl) (fun K hK => ?_)
          rw [if_pos (by rfl)]
          refine wp_load_mid _ _ rfl _ _ rfl (sec (safe k)) _ q6 sector_under rfl (secInfo hsk) ?_
          go_frame
          refine hK.out _ _ hHeld (fun hHeld => ?_)
          clear hK K
          refine ready_list (i := 14) rfl (by kernel_rfl) (fun K hK => ?_)
          go_simp
          refine (of_any _ how at_ turn ht (safe k) s hsk hs).mono ?_
          rintro e w5 ⟨rfl, hb5⟩
          have hD5 := (show Dk w4.drew d S M n _ wn well from Y.out.2.1.drew).held hb5
          have hX5 := (show Blk _ w4.drew _ _ from Y.out.2.2.1).held hb5
          have hB5 := (show Blk _ w4.drew _ _ from Y.out.2.2.2).held hb5
          have hD6 := hD5.row hkn hXl
          have hT6 : Turn [S] w5 (w5.setCells S (k * 48) (sec (picked how at_ turn (safe k) s))) := Turn.setCells w5 (by simp) _ _
          have hB6 := hB5.turn hT6 (by have := Z.out.2.2.2.2.1.ltS; have := X.out.1.size; simp; omega)
          have hX6 := hX5.turn hT6 (by have := Z.out.2.2.2.2.1.ltS; simp; omega)
          refine hK.out _ _ ⟨hD5.head.at_ 0, hB5.at_ 0, hB5.at_ 1, hB5.at_ 2, hX5.range_all⟩ (fun hHeld => ?_)
          clear hK K
          refine take_list (i := 15) (v := .pointer (some ⟨S, k * 48, none⟩)) rfl (by kernel_rfl) (by kernel_rfl) (by kernel_rfl) (fun _ _ _ h => h) (.inl ⟨rfl, ?_⟩) hHeld ?_
          · (intro w hSw; (try dsimp only at hSw); go_simp)
          go_frame
          refine ready_list (i := 16) rfl (by kernel_rfl) (fun K hK => ?_)
          rw [if_pos (by rfl)]
          refine wp_store_mid _ _ _ rfl _ _ (sec (picked how at_ turn (safe k) s)).toArray rfl rfl (by rw [List.size_toArray, sec_length, hXl]; exact hD5.there hkn) (secInfo' hXl) (all_oneCell_toArray (sec_one _)) ?_
          rw [List.toList_toArray]
          refine hK.out _ _ ⟨hD6.head.at_ 0, hB6.at_ 0, hB6.at_ 1, hB6.at_ 2, hX6.range_all⟩ (fun hHeld => ?_)
          clear hK K
          refine wpAnyH_done (by kernel_rfl) ?_ _
          go_frame
          have V := Lib.hid (And.intro hb5 (And.intro hD6 hT6))
          clear hD5 hX5 hB5 hD6 hT6 hB6 hX6 hHeld hb5
          go_wp2_with fail
          go_roundw
          case rel =>
            obtain ⟨hl', hc', hP, hA, hD, hT, hw⟩ := Z.out
            obtain ⟨hb5, hD6, hT6⟩ := V.out
            have A2x := HA2.out
            have hl2 : (ps.drop (unsafeBelow wn k + 1)).length ≤ cap' - 1 := by
              rw [List.length_drop]
              have := M4.out
              omega
            have hTall2 : Turn [d, S, M] wr (w5.setCells S (k * 48) (sec (picked how at_ turn (safe k) s))) := (((Turn.of_below _ Y.out.1).drew).and_below hb5).trans (hT6.mono (by simp))
            have hTall : Turn [d, S, M] w (w5.setCells S (k * 48) (sec (picked how at_ turn (safe k) s))) := ((hT.and_below Y.out.1).drew.and_below hb5).trans (hT6.mono (by simp))
            refine ⟨k + 1, A2, cap' - 1, by omega, by go_num, by rw [below_some hw]; rw [M4.out], by rw [below_some hw]; have := M4.out; omega, by omega, ?_, ?_, by rw [crashing_some, E.out]; exact hD6, hTall⟩
            · rw [below_some hw, A2x]; exact tail_picks (hP.turn hTall2 (fun a e => by cases e; rw [add_block]; exact had)) hl2
            · exact .inr (A2_block A2x had)
          case measure => simp [intOf]; omega
        · have E : Hid (crashed safe wn ps k = picked 0 0 0 (safe k) s) := Lib.hid (by unfold crashed; rw [hw, List.getElem?_eq_none (by omega)]; rfl)
          have Z := Lib.hid (And.intro hl' (And.intro hc' (And.intro hP (And.intro hA (And.intro hD (And.intro hT hw))))))
          have e0 : ps.length - unsafeBelow wn k = 0 := by omega
          simp only [e0]
          clear hl' hc' hP hA hD hT hw
          go_wp2_with (first
            | (refine wpList_store_mid (P := Tryz.prog) rfl 235 (.tmp 5) (.tmp 20) rfl _ 0 (sec s).toArray rfl rfl (z48_there' _ _ hs) (secInfo' hs) (all_oneCell_toArray (sec_one s)) ?_
               obtain ⟨hN, hX, -⟩ := new_stored wr 235 hs
               dsimp only [z48] at hN hX
               rw [List.toList_toArray]
               generalize (World.setCells (wr.alloc _) wr.heap.size 0 (sec s)) = w2 at *
               have X := Lib.hid (And.intro hN hX)
               clear hN hX))
          have hN3 := below_new w2 (.cells #[.int .i64 0, .int .i64 0, .int .u32 0] 238)
          have hB3 := Blk.new w2 238 #[.int .i64 0, .int .i64 0, .int .u32 0]
          generalize w2.alloc (.cells #[.int .i64 0, .int .i64 0, .int .u32 0] 238) = w3 at *
          have hNN := next (X.out.1) hN3
          have hD3 := Z.out.2.2.2.2.1.held hNN
          have hX3 := X.out.2.held hN3
          have hXl := picked_length (how := 0) (at_ := 0) (turn := 0) hsk hs
          have q0 : w3.cell? ⟨d, 0, none⟩ = some (.slice (some ⟨S, 0, none⟩) n n) := hD3.head.at_ 0
          have q1 : w3.cell? ⟨w2.heap.size, 0, none⟩ = some (.int .i64 0) := hB3.at_ 0
          have q2 : w3.cell? ⟨w2.heap.size, 1, none⟩ = some (.int .i64 0) := hB3.at_ 1
          have q3 : w3.cell? ⟨w2.heap.size, 2, none⟩ = some (.int .u32 0) := hB3.at_ 2
          have q4 : w3.drew.rangeAt wr.heap.size 0 (sec s) := hX3.range_all
          have q5 : w3.drew.there S (k * 48) (sec (picked 0 0 0 (safe k) s)).length := by rw [sec_length, hXl]; exact hD3.there hkn
          have q6 : w3.drew.rangeAt S (k * 48) (sec (safe k)) := by
            have h := hD3.range hkn
            rw [crashing_at] at h
            exact h
          have hu := sector_under
          have hi := secInfo hs
          have hi2 := secInfo hsk
          have hi3 := secInfo hXl
          have ho := sec_one (picked 0 0 0 (safe k) s)
          have Y := Lib.hid (And.intro hNN (And.intro hD3 (And.intro hX3 hB3)))
          clear hNN hD3 hX3 hB3 hN3 cM c0
          refine wp_region_held_drew (S := fun w' => w'.cell? ⟨d, 0, none⟩ = some (.slice (some ⟨S, 0, none⟩) n n) ∧ w'.cell? ⟨w2.heap.size, 0, none⟩ = some (.int .i64 0) ∧ w'.cell? ⟨w2.heap.size, 1, none⟩ = some (.int .i64 0) ∧ w'.cell? ⟨w2.heap.size, 2, none⟩ = some (.int .u32 0) ∧ w'.rangeAt wr.heap.size 0 (sec s)) (by kernel_rfl) ⟨q0, q1, q2, q3, q4⟩ (fun hHeld => ?_)
          refine take_list (i := 0) (v := .pointer (some ⟨d, 0, none⟩)) rfl (by kernel_rfl) (by kernel_rfl) (by kernel_rfl) (fun _ _ _ h => h) (.inl ⟨rfl, ?_⟩) hHeld ?_
          · (intro w hSw; (try dsimp only at hSw); go_simp)
          go_frame
          refine take_list (i := 1) (v := .pointer (some ⟨d, 0, none⟩)) rfl (by kernel_rfl) (by kernel_rfl) (by kernel_rfl) (fun _ _ _ h => h) (.inl ⟨rfl, ?_⟩) hHeld ?_
          · (intro w hSw; (try dsimp only at hSw); go_simp)
          go_frame
          refine take_list (i := 2) (v := .pointer (some ⟨d, 0, none⟩)) rfl (by kernel_rfl) (by kernel_rfl) (by kernel_rfl) (fun _ _ _ h => h) (.inl ⟨rfl, ?_⟩) hHeld ?_
          · (intro w hSw; (try dsimp only at hSw); go_simp)
          go_frame
          refine take_list (i := 3) (v := .slice (some ⟨S, 0, none⟩) n n) rfl (by kernel_rfl) (by kernel_rfl) (by kernel_rfl) (fun _ _ _ h => h) (.inl ⟨rfl, ?_⟩) hHeld ?_
          · (intro w hSw; (try dsimp only at hSw); go_simp)
          go_frame
          refine take_list (i := 4) (v := .int .i64 k) rfl (by kernel_rfl) (by kernel_rfl) (by kernel_rfl) (fun _ _ _ h => h) (.inl ⟨rfl, ?_⟩) hHeld ?_
          · (intro w hSw; (try dsimp only at hSw); go_simp)
          go_frame
          refine take_list (i := 5) (v := .agg #[.int .i64 0, .int .i64 0, .int .u32 0]) rfl (by kernel_rfl) (by kernel_rfl) (by kernel_rfl) (fun _ _ _ h => h) (.inl ⟨rfl, ?_⟩) hHeld ?_
          · (intro w hSw; (try dsimp only at hSw); go_simp)
          go_frame
          refine take_list (i := 6) (v := .pointer (some ⟨d, 0, none⟩)) rfl (by kernel_rfl) (by kernel_rfl) (by kernel_rfl) (fun _ _ _ h => h) (.inl ⟨rfl, ?_⟩) hHeld ?_
          · (intro w hSw; (try dsimp only at hSw); go_simp)
          go_frame
          refine take_list (i := 7) (v := .pointer (some ⟨d, 0, none⟩)) rfl (by kernel_rfl) (by kernel_rfl) (by kernel_rfl) (fun _ _ _ h => h) (.inl ⟨rfl, ?_⟩) hHeld ?_
          · (intro w hSw; (try dsimp only at hSw); go_simp)
          go_frame
          refine take_list (i := 8) (v := .pointer (some ⟨d, 0, none⟩)) rfl (by kernel_rfl) (by kernel_rfl) (by kernel_rfl) (fun _ _ _ h => h) (.inl ⟨rfl, ?_⟩) hHeld ?_
          · (intro w hSw; (try dsimp only at hSw); go_simp)
          go_frame
          refine take_list (i := 9) (v := .slice (some ⟨S, 0, none⟩) n n) rfl (by kernel_rfl) (by kernel_rfl) (by kernel_rfl) (fun _ _ _ h => h) (.inl ⟨rfl, ?_⟩) hHeld ?_
          · (intro w hSw; (try dsimp only at hSw); go_simp)
          go_frame
          refine take_list (i := 10) (v := .int .i64 k) rfl (by kernel_rfl) (by kernel_rfl) (by kernel_rfl) (fun _ _ _ h => h) (.inl ⟨rfl, ?_⟩) hHeld ?_
          · (intro w hSw; (try dsimp only at hSw); go_simp)
          go_frame
          refine take_list (i := 11) (v := .pointer (some ⟨S, k * 48, none⟩)) rfl (by kernel_rfl) (by kernel_rfl) (by kernel_rfl) (fun _ _ _ h => h) (.inl ⟨rfl, ?_⟩) hHeld ?_
          · (intro w hSw; (try dsimp only at hSw); go_simp)
          go_frame
          refine take_list (i := 13) (v := .agg (sec s).toArray) rfl (by kernel_rfl) (by kernel_rfl) (by kernel_rfl) (fun _ _ _ h => h) (yieldsIf_load_mid rfl _ _ rfl _ _ rfl (sec s) _ (fun _ h => h.2.2.2.2) sector_under rfl (secInfo hs)) hHeld ?_
          go_frame
          refine ready_list (i := 12) rfl (by kernel_rfl) (fun K hK => ?_)
          rw [if_pos (by rfl)]
          refine wp_load_mid _ _ rfl _ _ rfl (sec (safe k)) _ q6 sector_under rfl (secInfo hsk) ?_
          go_frame
          refine hK.out _ _ hHeld (fun hHeld => ?_)
          clear hK K
          refine ready_list (i := 14) rfl (by kernel_rfl) (fun K hK => ?_)
          go_simp
          refine (of_any _ 0 0 0 (by omega) (safe k) s hsk hs).mono ?_
          rintro e w5 ⟨rfl, hb5⟩
          have hD5 := (show Dk w3.drew d S M n _ wn well from Y.out.2.1.drew).held hb5
          have hX5 := (show Blk _ w3.drew _ _ from Y.out.2.2.1).held hb5
          have hB5 := (show Blk _ w3.drew _ _ from Y.out.2.2.2).held hb5
          have hD6 := hD5.row hkn hXl
          have hT6 : Turn [S] w5 (w5.setCells S (k * 48) (sec (picked 0 0 0 (safe k) s))) := Turn.setCells w5 (by simp) _ _
          have hB6 := hB5.turn hT6 (by have := Z.out.2.2.2.2.1.ltS; have := X.out.1.size; simp; omega)
          have hX6 := hX5.turn hT6 (by have := Z.out.2.2.2.2.1.ltS; simp; omega)
          refine hK.out _ _ ⟨hD5.head.at_ 0, hB5.at_ 0, hB5.at_ 1, hB5.at_ 2, hX5.range_all⟩ (fun hHeld => ?_)
          clear hK K
          refine take_list (i := 15) (v := .pointer (some ⟨S, k * 48, none⟩)) rfl (by kernel_rfl) (by kernel_rfl) (by kernel_rfl) (fun _ _ _ h => h) (.inl ⟨rfl, ?_⟩) hHeld ?_
          · (intro w hSw; (try dsimp only at hSw); go_simp)
          go_frame
          refine ready_list (i := 16) rfl (by kernel_rfl) (fun K hK => ?_)
          rw [if_pos (by rfl)]
          refine wp_store_mid _ _ _ rfl _ _ (sec (picked 0 0 0 (safe k) s)).toArray rfl rfl (by rw [List.size_toArray, sec_length, hXl]; exact hD5.there hkn) (secInfo' hXl) (all_oneCell_toArray (sec_one _)) ?_
          rw [List.toList_toArray]
          refine hK.out _ _ ⟨hD6.head.at_ 0, hB6.at_ 0, hB6.at_ 1, hB6.at_ 2, hX6.range_all⟩ (fun hHeld => ?_)
          clear hK K
          refine wpAnyH_done (by kernel_rfl) ?_ _
          go_frame
          have V := Lib.hid (And.intro hb5 (And.intro hD6 hT6))
          clear hD5 hX5 hB5 hD6 hT6 hB6 hX6 hHeld hb5
          go_wp2_with fail
          go_roundw
          case rel =>
            obtain ⟨hl', hc', hP, hA, hD, hT, hw⟩ := Z.out
            obtain ⟨hb5, hD6, hT6⟩ := V.out
            have hnil : ps.drop (unsafeBelow wn k + 1) = [] := List.drop_eq_nil_of_le (by omega)
            have hTall : Turn [d, S, M] w (w5.setCells S (k * 48) (sec (picked 0 0 0 (safe k) s))) := ((hT.and_below Y.out.1).drew.and_below hb5).trans (hT6.mono (by simp))
            refine ⟨k + 1, A', cap', by omega, by go_num, by rw [below_some hw]; rw [show ps.length - (unsafeBelow wn k + 1) = 0 by omega], by rw [below_some hw]; omega, by omega, ?_, ?_, by rw [crashing_some, E.out]; exact hD6, hTall⟩
            · rw [below_some hw, hnil]; exact PicksAt.nil
            · exact hA
          case measure => simp [intOf]; omega
    · obtain rfl : k = n := by omega
      obtain ⟨w4, hcl, hM4, hg4, -⟩ := hD.map.clear (t := 208) (e := 235) (by kernel_rfl) 0
      have hH4 : Blk _ w4 d _ := (hg4.block d hD.head.lt (by simpa using hD.dM)).trans hD.head
      have d2 : w4.cell? ⟨d, 2, none⟩ = some (.int .i64 well) := hH4.at_ 2
      have f2 : w4.frozen? ⟨d, 2, none⟩ = false := hH4.free 2
      have Z := Lib.hid (And.intro hD (And.intro hT (And.intro hM4 (And.intro hg4 hH4))))
      clear hl' hc' hP hA hD hT hM4 hg4 hH4
      go_wp2_with fail
      go_end0
      obtain ⟨hD, hT, hM4, hg4, hH4⟩ := Z.out
      obtain ⟨C, h1, h2, h3⟩ := hD.rows
      have hS4 : w4.heap[S]? = wr.heap[S]? := hg4.block S hD.ltS (by simpa using hD.SM)
      refine ⟨rfl, ⟨hH4.store 2 (.int .i64 (-1)), ⟨C, ?_, h2, fun i hi j v hv => h3 i hi j v ?_⟩, hM4.of_block (Below.heap_setCell _ _ _ _ hD.dM.symm), fun i hi => ?_, fun z s hz => (by cases hz), hD.n1, hD.n2, by omega, by omega⟩, (hT.trans (.of_grown hg4 (by simp))).trans (Turn.setCell _ (by simp) _)⟩
      · exact (Below.heap_setCell _ _ _ _ hD.dS.symm).trans (hS4.trans h1)
      · unfold crashing; rw [if_pos hi]; exact hv
      · have := hD.len i hi
        unfold crashing at this; rw [if_pos hi] at this; exact this
end
end Go.Proofs.YtkchckeecfalhaaGreat.Cr

namespace Go.Proofs.YtkchckeecfalhaaGreat
open Go.RowKit Go.Maps Rm
attribute [local go_sem] Oper.semAt_some

/-- a machine that has crashed: what its disk says -/
def Ma.dead (m : Ma) : Dz := match m.r with
  | none => m.z
  | some x => ⟨x.M.id, x.room, x.M.sm⟩
def Sv.dead (s : Sv) : Dz := match s.r with
  | none => s.z
  | some x => ⟨x.M.id, x.room, x.M.sm⟩
theorem Ma.dead_sv (m : Ma) : m.sv.dead = m.dead := by
  obtain ⟨d, r, F, c, z⟩ := m
  cases r <;> rfl
theorem Ma.ok.lies {w : World} {m : Ma} (h : m.ok w) : ∃ S Mp rest, m.F = [m.d, S, Mp] ++ rest ∧ Lies w m.d S Mp m.dead.id m.dead.room m.dead.sm := by
  unfold Ma.dead
  cases hr : m.r with
  | none =>
    obtain ⟨S, Mp, e, hl⟩ := h.none hr
    exact ⟨S, Mp, [], by simpa using e, hl⟩
  | some x =>
    obtain ⟨S, Mp, rest, e, hl⟩ := (h.some hr).lies
    rw [h.disk hr] at e hl
    exact ⟨S, Mp, rest, e, hl⟩
section
variable {w : World} {N MB n : Nat} {ms : Nat → Ma} {v : Value} {xs : List Pe} {os : List Dg}
set_option maxRecDepth 100000 in
set_option maxHeartbeats 1000000 in
theorem net_crash (h : Nt w N MB n ms v) {i : Nat} (hi : i < n) {A : Option Addr} {ps : List Cr.Pk} {cap : Nat} (hps : Cr.PicksAt w A ps) (hA : ∀ ad, A = some ad → ad.block ≠ MB ∧ ad.block ∉ (ms i).F) (hl : ps.length ≤ cap) (hc : cap ≤ 9223372036854775807) :
    Calls Tryz.prog 33 #[.pointer (some ⟨N, 0, none⟩), .int .i64 i, .slice A ps.length cap] w fun e w' => e = .returned (.int .i64 0) ∧ ∃ S Mp rest, (ms i).F = [(ms i).d, S, Mp] ++ rest ∧ Nt w' N MB n (puts ms i ⟨(ms i).d, none, [(ms i).d, S, Mp], (ms i).c, (ms i).dead⟩) v ∧ Turn (MB :: (ms i).F) w w' := by
  have H1 := net_has_in h hi
  have c0 : w.cell? ⟨N, 0, none⟩ = some (.slice (some ⟨MB, 0, none⟩) n n) := h.head.at_ 0
  have hin : (i : Int) < (n : Int) := by omega
  have hk := h.mas.ok i hi
  obtain ⟨S, Mp, rest, hF, hLi⟩ := hk.lies
  have c1 : w.cell? ⟨MB, i * 10, none⟩ = some (ms i).rv := h.cell hi (j := 0) rfl
  have c2 : w.cell? ⟨MB, i * 10 + 1, none⟩ = some (.pointer (some ⟨(ms i).d, 0, none⟩)) := h.cell hi (j := 1) rfl
  have f1 : w.frozen? ⟨MB, i * 10, none⟩ = false := by
    obtain ⟨C, hC, _⟩ := h.mas.rows
    exact hC.free _
  have t1 : Turn [MB] w (w.setCell ⟨MB, i * 10, none⟩ (.pointer none)) := Turn.setCell w (by simp) _
  have hMF := h.mas.mb i hi
  obtain ⟨dn, safe, hD, g1, g2, g3⟩ := hLi.turn t1 (fun x hx => by
    have : x ∈ (ms i).F := by rw [hF]; exact List.mem_append_left _ hx
    simp
    exact fun e => hMF (e ▸ this))
  have hps1 := hps.turn t1 (fun ad e => by simp; exact (hA ad e).1)
  have HC := Cr.crash_any hD A ps cap hps1 (.inr fun ad e hm => (hA ad e).2 (by rw [hF]; exact List.mem_append_left _ hm)) hl hc
  have hcr : Cr.crashed safe (fun _ => none) ps = safe := by funext k; rfl
  rw [hcr] at HC
  obtain ⟨C, hC, hs, hr⟩ := h.mas.rows
  have hX := And.intro (hC.store (i * 10) (.pointer none)) (And.intro hs hr)
  have c2' : (w.setCell ⟨MB, i * 10, none⟩ (.pointer none)).cell? ⟨MB, i * 10 + 1, none⟩ = some (.pointer (some ⟨(ms i).d, 0, none⟩)) := by
    rw [hX.1.at_, Array.getElem?_setIfInBounds, if_neg (by omega), ← hC.at_]
    exact c2
  obtain ⟨dd, hdd⟩ : ∃ dd, (ms i).d = dd := ⟨_, rfl⟩
  rw [hdd] at HC c2 c2'
  obtain ⟨rv, hrv⟩ : ∃ rv, (ms i).r.map (fun x => (⟨x.R, 0, none⟩ : Addr)) = rv := ⟨_, rfl⟩
  have c1' : w.cell? ⟨MB, i * 10, none⟩ = some (.pointer rv) := by rw [← hrv]; exact c1
  have X := Lib.hid (And.intro h (And.intro hF (And.intro g1 (And.intro g2 (And.intro g3 (And.intro hX (And.intro t1 (And.intro hdd hMF))))))))
  clear h hF g1 g2 g3 hX t1 hdd hMF hD hLi hk hps hps1 hA hl hc hcr hC hs hr c1 hrv c2
  go_enter Tryz.func33, Tryz.ntmps33
  go_wp2_with fail
  refine H1.mono ?_
  rintro e w2 ⟨rfl, rfl⟩
  clear H1
  go_wp2_with fail
  refine HC.mono ?_
  rintro e w3 ⟨rfl, hD3, t3⟩
  have R := Lib.hid (And.intro hD3 t3)
  clear HC hD3 t3 c0 c1' c2' f1
  go_wp2_with fail
  go_ret
  obtain ⟨h, hF, g1, g2, g3, ⟨hC, hs, hr⟩, t1, hdd, hMF⟩ := X.out
  obtain ⟨hD3, t3⟩ := R.out
  have hM3 : MB ∉ [dd, S, Mp] := fun hm => hMF (by rw [hF, hdd]; exact List.mem_append_left _ hm)
  have tt : Turn (MB :: (ms i).F) w2 w3 := (t1.mono fun x hx => by simp at hx; simp [hx]).trans (t3.mono fun x hx => List.mem_cons_of_mem _ (by rw [hF, hdd]; exact List.mem_append_left _ hx))
  refine ⟨rfl, S, Mp, rest, hF, h.by_one hi ⟨_, hC.turn t3 hM3, by rw [Array.size_setIfInBounds, hs], fun k hk2 q x hx => ?_⟩ tt (.of_none rfl (by rw [hdd]) (by rw [hdd]; exact ⟨dn, safe, hD3, g1, g2, by rw [← hdd]; exact g3⟩)) (fun y hy => .inl (by rw [hF]; exact List.mem_append_left _ hy)), tt⟩
  have hq : q < 10 := by
    obtain ⟨h1, _⟩ := List.getElem?_eq_some_iff.1 hx
    exact h1
  rw [Array.getElem?_setIfInBounds]
  by_cases e : k = i
  · rw [e, puts_same] at hx
    by_cases e2 : q = 0
    · subst e2
      rw [e, if_pos (by omega), if_pos (by rw [hs]; omega)]
      exact hx
    · rw [if_neg (by omega), e]
      refine hr i hi q x ?_
      have : q = 1 ∨ q = 2 ∨ q = 3 ∨ q = 4 ∨ q = 5 ∨ q = 6 ∨ q = 7 ∨ q = 8 ∨ q = 9 := by omega
      rcases this with rfl | rfl | rfl | rfl | rfl | rfl | rfl | rfl | rfl <;> exact hx
  · rw [puts_other e] at hx
    rw [if_neg (by omega)]
    exact hr k hk2 q x hx
end
section
variable {w0 w w' : World} {N n : Nat} {st : Nat → Sv} {os : List Dg}
theorem bn_crash (h : Bn w0 w N n st os) {i : Nat} (hi : i < n) {A : Option Addr} {ps : List Cr.Pk} {cap : Nat} (hps : Cr.PicksAt w A ps) (hA : ∀ ad, A = some ad → ad.block < w0.heap.size) (hl : ps.length ≤ cap) (hc : cap ≤ 9223372036854775807) :
    Calls Tryz.prog 33 #[.pointer (some ⟨N, 0, none⟩), .int .i64 i, .slice A ps.length cap] w fun e w' => e = .returned (.int .i64 0) ∧ Bn w0 w' N n (sets st i ⟨(st i).d, none, (st i).c, (st i).dead⟩) os := by
  obtain ⟨MB, ms, v, xs, hW, hst, b1, b2, b3, b4, hB, hl2⟩ := h.ex
  refine (net_crash hW.nt hi hps (fun ad e => ⟨fun e2 => by have := hA ad e; omega, fun hm => by have := hA ad e; have := b3 i hi _ hm; omega⟩) hl hc).mono ?_
  rintro e w' ⟨rfl, S, Mp, rest, hF, hN, t⟩
  refine ⟨rfl, .one hW hst b1 b2 b3 b4 hB hl2 hi ?_ hN t (fun y hy => .inl (by rw [hF]; exact List.mem_append_left _ hy))⟩
  rw [← hst i hi, Ma.dead_sv]
  rfl
theorem bn_boot_runs (h : Bn w0 w N n st os) {i : Nat} (hi : i < n) {d : Nat} {x : Rv} {c : Nat → Int} {z : Dz} (hs : st i = ⟨d, some x, c, z⟩) : Calls Tryz.prog 22 #[.pointer (some ⟨N, 0, none⟩), .int .i64 i] w fun e w' => e = .returned (.int .i64 3) ∧ w' = w := by
  obtain ⟨MB, ms, v, xs, hW, hst, b1, b2, b3, b4, hB, hl⟩ := h.ex
  obtain ⟨room, sp, M⟩ := x
  obtain ⟨R, hm⟩ := Ma.sv_some ((hst i hi).trans hs)
  have H1 := net_has_in hW.nt hi
  have H2 := net_runs hW.nt hi
  rw [hm] at H2
  replace H2 : Calls Tryz.prog 66 #[.pointer (some ⟨N, 0, none⟩), .int .i64 i] w fun e w' => e = .returned (.bool true) ∧ w' = w := H2
  clear hm hW hst b1 b2 b3 b4 hB hl h hs
  go_enter Tryz.func22, Tryz.ntmps22
  go_wp2_with fail
  refine H1.mono ?_
  rintro e w2 ⟨rfl, rfl⟩
  go_wp2_with fail
  refine H2.mono ?_
  rintro e w2 ⟨rfl, rfl⟩
  go_wp2_with fail
  go_ret
  exact ⟨rfl, rfl⟩
theorem bn_own_down (h : Bn w0 w N n st os) {i : Nat} (hi : i < n) (hr : (st i).r = none) (a : Nat) (len : Int) (on : Bool) : Calls Tryz.prog 31 #[.pointer (some ⟨N, 0, none⟩), .int .i64 i, .agg #[.int .u32 a, .int .i64 len], .bool on] w fun e w' => e = .returned (.int .i64 3) ∧ Below w.heap.size w w' := by
  have hb := below_new w (.cells #[.int .u32 a, .int .i64 len] 58)
  obtain ⟨MB, ms, v, xs, hW, hst, b1, b2, b3, b4, hB, hl⟩ := (h.held hb).ex
  have hm := Ma.sv_none (d := (st i).d) (c := (st i).c) (z := (st i).z) ((hst i hi).trans (by rw [← hr]))
  have HR := net_runs hW.nt hi
  rw [hm] at HR
  replace HR : Calls Tryz.prog 66 #[.pointer (some ⟨N, 0, none⟩), .int .i64 i] (w.alloc (.cells #[.int .u32 a, .int .i64 len] 58)) fun e w' => e = .returned (.bool false) ∧ w' = (w.alloc (.cells #[.int .u32 a, .int .i64 len] 58)) := HR
  have HB := Lib.hid hb
  clear hm hW hst b1 b2 b3 b4 hB hl h hr hb
  go_enter Tryz.func31, Tryz.ntmps31
  go_wp2_with fail
  refine HR.mono ?_
  rintro e w2 ⟨rfl, rfl⟩
  go_wp2_with fail
  go_ret
  exact ⟨rfl, HB.out⟩
end
end Go.Proofs.YtkchckeecfalhaaGreat

namespace Go.Proofs.YtkchckeecfalhaaGreat
open Go.RowKit Go.Maps Rm Fm Sb

theorem pick_one {M : Mr} {a : Nat} {n : Int} {fr : Nat} {r : Rt} {v : Int} (hfr : fr < 9) (hf : ∀ k : Nat, k ≠ fr → M.f ⟨a, n, k⟩ = none) (hr : M.reachF a n fr = some (r, v)) : M.pick a n = some r := by
  have h : ∀ k, k ≠ fr → M.reachF a n k = none := fun k hk => by
    unfold Mr.reachF
    rw [hf k hk]
  have e : M.openL a n 9 = [(r, v)] := by
    unfold Mr.openL
    rw [show List.range 9 = [0, 1, 2, 3, 4, 5, 6, 7, 8] from rfl]
    have : fr = 0 ∨ fr = 1 ∨ fr = 2 ∨ fr = 3 ∨ fr = 4 ∨ fr = 5 ∨ fr = 6 ∨ fr = 7 ∨ fr = 8 := by omega
    rcases this with rfl | rfl | rfl | rfl | rfl | rfl | rfl | rfl | rfl <;>
      simp [hr, h 0, h 1, h 2, h 3, h 4, h 5, h 6, h 7, h 8]
  unfold Mr.pick
  rw [e]
  simp [pickL, nearest]
theorem cAt_cL {fr : Nat} (hk : fr < 8) (z : Int) : cAt (cL fr z) (fr : Int) = z := by
  unfold cAt cL
  rw [if_neg (by omega)]
  simp
theorem far_zero {z : Int} (h1 : 1 ≤ z) (h2 : z ≤ 1000) : far ((0 : Nat) : Int) z = z := by
  unfold far clampCost
  (repeat' split) <;> omega
/-- how far it is by the one way -/
theorem dist_ms {d id : Nat} {now' e : Int} {p : Pk} {k fr s : Nat} {z : Int} {f : Ways} (hk : fr < 8) (h1 : 1 ≤ z) (h2 : z ≤ 1000) (hf : f ⟨p.a, p.n, fr⟩ = some ⟨fr, k, s, 0, e⟩) (ho : ∀ q : Nat, q ≠ fr → f ⟨p.a, p.n, q⟩ = none) :
    (Ms d id (cL fr z) f now').dist p.a p.n = (z, true) := by
  have hc := cAt_cL hk z
  have hr : (Ms d id (cL fr z) f now').reachF p.a p.n fr = some (⟨fr, k, s, 0, e⟩, z) := by
    unfold Mr.reachF
    rw [show (Ms d id (cL fr z) f now').f = f from rfl, hf]
    simp only
    rw [show (Ms d id (cL fr z) f now').c = cL fr z from rfl, hc, far_zero h1 h2, if_neg]
    rintro (e | e | e)
    · omega
    · exact e rfl
    · omega
  have hp := pick_one (M := Ms d id (cL fr z) f now') (by omega) ho hr
  have hw : (Ms d id (cL fr z) f now').owns ⟨p.a, p.n⟩ = false := rfl
  unfold Mr.dist
  rw [hw, hp]
  show (far ((0 : Nat) : Int) (cAt (cL fr z) (fr : Int)), true) = (z, true)
  rw [hc, far_zero h1 h2]
theorem hear_ms {d id : Nat} {now' : Int} {p : Pk} {k fr s : Nat} {c : Nat → Int} {f : Ways} (hid : k ≠ id) :
    ((Ms d id c f now').hear fr p.a p.n k s 0) = Ms d id c (putR f ⟨p.a, p.n, fr⟩ ⟨fr, k, s, 0, now' + 3⟩) now' := by
  unfold Mr.hear
  have ho : (Ms d id c f now').owns ⟨p.a, p.n⟩ = false := rfl
  have h1 : ¬ ((Ms d id c f now').owns ⟨p.a, p.n⟩ = true ∨ k = (Ms d id c f now').id) := by
    rw [ho]
    rintro (e | e)
    · cases e
    · exact hid e
  rw [if_neg h1, if_neg (by decide)]
  exact if_pos rfl
theorem dist_put {d id : Nat} {now' e : Int} {p : Pk} {k fr s : Nat} {z : Int} (hk : fr < 8) (h1 : 1 ≤ z) (h2 : z ≤ 1000) :
    (Ms d id (cL fr z) (putR (fun _ => none) ⟨p.a, p.n, fr⟩ ⟨fr, k, s, 0, e⟩) now').dist p.a p.n = (z, true) :=
  dist_ms hk h1 h2 (by unfold putR; rw [if_pos rfl]) (fun q hq => by unfold putR; rw [if_neg (by intro e; injection e with e1 e2 e3; omega)])
theorem cL_cut {k : Nat} (hk : k < 8) (z : Int) : (fun i => if i < 8 then cL k z i else 0) = cL k z := by
  funext i
  unfold cL
  split
  · rfl
  · rw [if_neg (by omega)]
theorem mrB_cL (id d : Nat) {k : Nat} (hk : k < 8) (z : Int) : mrB id d sm0 (cL k z) = Ms d id (cL k z) (fun _ => none) 0 := by rw [mrB_ms, cL_cut hk]
theorem cL_range {k : Nat} {z : Int} (h0 : 0 ≤ z) (h1 : z ≤ 1000) : ∀ i, 0 ≤ cL k z i ∧ cL k z i ≤ 1000 := fun i => by unfold cL; split <;> omega
end Go.Proofs.YtkchckeecfalhaaGreat

namespace Go.Proofs.YtkchckeecfalhaaGreat
open Go.RowKit Go.Maps Rm Fm Sb

theorem mask_low (z : Int) (m : Nat) (hm : m < 65536) : ∃ c : Nat, c ≤ m ∧ bits .and .i64 z (m : Int) = (c : Int) := by
  have e0 : (BitVec.ofInt 64 (m : Int)).toNat = m := by simp; omega
  have h1 : (BitVec.ofInt 64 z &&& BitVec.ofInt 64 (m : Int)).toNat ≤ m := by
    rw [BitVec.toNat_and, e0]
    exact Nat.and_le_right
  refine ⟨(BitVec.ofInt 64 z &&& BitVec.ofInt 64 (m : Int)).toNat, h1, ?_⟩
  have e : bits .and .i64 z (m : Int) = IntKind.i64.wrap ((BitVec.ofInt 64 z &&& BitVec.ofInt 64 (m : Int)).toNat : Int) := rfl
  rw [e]
  generalize (BitVec.ofInt 64 z &&& BitVec.ofInt 64 (m : Int)).toNat = n at *
  simp only [IntKind.wrap, IntKind.bits, IntKind.signed]
  simp
  omega
/-- a machine that doesn't run -/
def svD (d : Nat) (c : Nat → Int) (z : Dz) : Sv := ⟨d, none, c, z⟩
def downP (d : Nat → Nat) (z : Int) : Nat → (Nat → Sv) → List Dg → Prop
  | 0, st, os => st = two (svO (pz 0) (d 0) 1 30 90000 (cL 1 z) 0 0 0 0 (z31 0)) (svD (d 1) (cL 0 z) (z31 1)) ∧ os = []
  | _, st, os => st = two (svO (pz 0) (d 0) 1 29 90000 (cL 1 z) 1 1 1 8 (z31 0)) (svD (d 1) (cL 0 z) (z31 1)) ∧ os = [(0, 1, pg (pz 0) 1 1)]
def downQ (d : Nat → Nat) (z : Int) : Nat → (Nat → Sv) → List Dg → Prop
  | 0, st, os => st = two (svO (pz 0) (d 0) 1 29 90000 (cL 1 z) 1 1 1 8 (z31 0)) (svD (d 1) (cL 0 z) (z31 1)) ∧ os = []
  | 1, st, os => downP d z 2 st os
  | _, _, _ => False
section
variable {w0 w : World} {N : Nat} {d : Nat → Nat} {z : Int}
theorem down_round (hz : z ≠ 0) (h : Bn w0 w N 2 (two (svO (pz 0) (d 0) 1 30 90000 (cL 1 z) 0 0 0 0 (z31 0)) (svD (d 1) (cL 0 z) (z31 1))) []) :
    Calls Tryz.prog 24 #[.pointer (some ⟨N, 0, none⟩)] w fun e w' => e = .returned (.tuple #[]) ∧
      Bn w0 w' N 2 (two (svO (pz 0) (d 0) 1 29 90000 (cL 1 z) 1 1 1 8 (z31 0)) (svD (d 1) (cL 0 z) (z31 1))) [] := by
  refine (bn_round (P := downP d z) (Q := downQ d z) h ⟨rfl, rfl⟩ (fun k st os wr hk hP hB => ?_) (fun st os hP => ?_) (fun j st os hQ => ?_) (fun j st os wr hQ hB => ?_)).mono ?_
  · have : k = 0 ∨ k = 1 := by omega
    rcases this with rfl | rfl
    · obtain ⟨rfl, rfl⟩ := hP
      refine (bn_tick_mo hB (i := 0) (by omega) (room := 29) (m := 1) rfl (pz_ok (by omega)) (by decide) (by omega) Mo1.first (by omega) (Mr.advN_le1 _)).mono ?_
      rintro e w' ⟨rfl, h2⟩
      rw [pg_enc (pz_right (by omega)) (by omega) (by omega), sends_cL (by omega) hz] at h2
      exact ⟨0, _, _, rfl, ⟨rfl, rfl⟩, h2.two rfl rfl⟩
    · obtain ⟨rfl, rfl⟩ := hP
      refine (bn_tick_down hB (i := 1) (by omega) rfl).mono ?_
      rintro e w' ⟨rfl, rfl⟩
      exact ⟨3, _, _, rfl, ⟨rfl, rfl⟩, hB⟩
  · obtain ⟨rfl, rfl⟩ := hP
    exact ⟨rfl, rfl⟩
  · match j, hQ with
    | 0, hQ => rw [hQ.2]; rfl
    | 1, hQ => obtain ⟨-, rfl⟩ := hQ; rfl
  · match j, hQ with
    | 0, hQ =>
      obtain ⟨rfl, rfl⟩ := hQ
      refine (bn_deliver_down hB (k := 0) (by simp) (fr := 0) (i := 1) rfl (fun _ => rfl) 1024).mono ?_
      rintro e w' ⟨rfl, h2⟩
      exact ⟨0, _, _, rfl, ⟨rfl, rfl⟩, h2⟩
  · rintro e w' ⟨rfl, st', os', ⟨rfl, rfl⟩, h2⟩
    exact ⟨rfl, h2⟩
end
def upP (d : Nat → Nat) (z : Int) : Nat → (Nat → Sv) → List Dg → Prop
  | 0, st, os => st = two (svO (pz 0) (d 0) 1 29 90000 (cL 1 z) 1 1 1 8 (z31 0)) (svS (d 1) 2 31 90000 (cL 0 z) (fun _ => none) 0 (z31 1)) ∧ os = []
  | 1, st, os => st = two (svO (pz 0) (d 0) 1 29 90000 (cL 1 z) 2 1 1 8 (z31 0)) (svS (d 1) 2 31 90000 (cL 0 z) (fun _ => none) 0 (z31 1)) ∧ os = [(0, 1, pg (pz 0) 1 1)]
  | _, st, os => st = two (svO (pz 0) (d 0) 1 29 90000 (cL 1 z) 2 1 1 8 (z31 0)) (svS (d 1) 2 30 90000 (cL 0 z) (fun _ => none) 1 (z31 1)) ∧ os = [(0, 1, pg (pz 0) 1 1)]
def upQ (d : Nat → Nat) (z : Int) : Nat → (Nat → Sv) → List Dg → Prop
  | 0, st, os => st = two (svO (pz 0) (d 0) 1 29 90000 (cL 1 z) 2 1 1 8 (z31 0)) (svS (d 1) 2 30 89000 (cL 0 z) (putR (fun _ => none) ⟨(pz 0).a, (pz 0).n, 0⟩ ⟨0, 1, 1, 0, 1 + 3⟩) 1 (z31 1)) ∧ os = []
  | 1, st, os => upP d z 2 st os
  | _, _, _ => False
section
variable {w0 w : World} {N : Nat} {d : Nat → Nat} {z : Int}
theorem up_round (h1 : 1 ≤ z) (h2 : z ≤ 1000) (h : Bn w0 w N 2 (two (svO (pz 0) (d 0) 1 29 90000 (cL 1 z) 1 1 1 8 (z31 0)) (svS (d 1) 2 31 90000 (cL 0 z) (fun _ => none) 0 (z31 1))) []) :
    Calls Tryz.prog 24 #[.pointer (some ⟨N, 0, none⟩)] w fun e w' => e = .returned (.tuple #[]) ∧
      Bn w0 w' N 2 (two (svO (pz 0) (d 0) 1 29 90000 (cL 1 z) 2 1 1 8 (z31 0)) (svS (d 1) 2 30 89000 (cL 0 z) (putR (fun _ => none) ⟨(pz 0).a, (pz 0).n, 0⟩ ⟨0, 1, 1, 0, 1 + 3⟩) 1 (z31 1))) [] := by
  refine (bn_round (P := upP d z) (Q := upQ d z) h ⟨rfl, rfl⟩ (fun k st os wr hk hP hB => ?_) (fun st os hP => ?_) (fun j st os hQ => ?_) (fun j st os wr hQ hB => ?_)).mono ?_
  · have : k = 0 ∨ k = 1 := by omega
    rcases this with rfl | rfl
    · obtain ⟨rfl, rfl⟩ := hP
      refine (bn_tick_mo hB (i := 0) (by omega) (room := 29) (m := 0) rfl (pz_ok (by omega)) (by decide) (by omega) (Mo1.next_big ⟨by omega, by decide⟩) (by omega) (Nat.le_of_eq (Mo1.advN_zero ⟨by omega, by decide⟩))).mono ?_
      rintro e w' ⟨rfl, h2⟩
      rw [pg_enc (pz_right (by omega)) (by omega) (by omega), sends_cL (by omega) (by omega)] at h2
      exact ⟨0, _, _, rfl, ⟨rfl, rfl⟩, h2.two rfl rfl⟩
    · obtain ⟨rfl, rfl⟩ := hP
      refine (bn_tick_ms hB (i := 1) (by omega) (room := 30) rfl (by decide)).mono ?_
      rintro e w' ⟨rfl, h2⟩
      exact ⟨0, _, _, rfl, ⟨rfl, rfl⟩, h2.two rfl rfl⟩
  · obtain ⟨rfl, rfl⟩ := hP
    exact ⟨rfl, rfl⟩
  · match j, hQ with
    | 0, hQ => rw [hQ.2]; rfl
    | 1, hQ => obtain ⟨-, rfl⟩ := hQ; rfl
  · match j, hQ with
    | 0, hQ =>
      obtain ⟨rfl, rfl⟩ := hQ
      refine (bn_deliver_pg hB (k := 0) (by simp) (fr := 0) (i := 1) rfl (by omega) (sp := 89000) rfl (pz_right (by omega)) (pz_ok (by omega)) (by omega) (by omega) (by omega) (by show cAt (cL 0 z) 0 ≠ 0; unfold cAt cL; simp; omega)).mono ?_
      rintro e w' ⟨rfl, h3⟩
      rw [show (Ms (d 1) 2 (cL 0 z) (fun _ => none) 1).hear 0 (pz 0).a (pz 0).n 1 1 0 = _ from hear_ms (by omega)] at h3
      exact ⟨0, _, _, rfl, ⟨rfl, rfl⟩, h3.two rfl rfl⟩
  · rintro e w' ⟨rfl, st', os', ⟨rfl, rfl⟩, h2⟩
    exact ⟨rfl, h2⟩
end
end Go.Proofs.YtkchckeecfalhaaGreat

