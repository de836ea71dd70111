/-
  Package disk's Crash.
-/
import Derived.Test.YtnoolpgklenhaaaDskP
import Derived.Test.YtnoolpgklenhaaaDskR
import Derived.Deep.Slices
namespace Go.Proofs.Ytnoolpgklenhaaa
open Go.RowKit

abbrev Pk := Int × Int × Nat
/-- A slice of just these picks. -/
def PicksAt (u : World) (A : Option Addr) (ps : List Pk) : Prop :=
  ∀ j p, ps[j]? = some p → p.2.2 < 4294967296 ∧ ∃ ad, A = some ad ∧ u.cell? (ad.add (j * 3)) = some (.int .i64 p.1) ∧ u.cell? (ad.add (j * 3 + 1)) = some (.int .i64 p.2.1) ∧ u.cell? (ad.add (j * 3 + 2)) = some (.int .u32 (p.2.2 : Int))
/-- how many sectors below i aren't safe -/
def unsafeBelow (wn : Int → Option (List UInt8)) : Nat → Nat
  | 0 => 0
  | i + 1 => unsafeBelow wn i + (if (wn i).isSome then 1 else 0)
/-- what becomes of sector i in a crash -/
def crashed (safe : Nat → List UInt8) (wn : Int → Option (List UInt8)) (ps : List Pk) (i : Nat) : List UInt8 :=
  match wn i with
  | none => safe i
  | some s => match ps[unsafeBelow wn i]? with
    | none => safe i
    | some p => picked p.1 p.2.1 p.2.2 (safe i) s
/-- .. while those from k on are still to come -/
def crashing (safe : Nat → List UInt8) (wn : Int → Option (List UInt8)) (ps : List Pk) (k i : Nat) : List UInt8 := if i < k then crashed safe wn ps i else safe i

theorem PicksAt.turn {u u' : World} {A : Option Addr} {ps : List Pk} {L : List Nat} (h : PicksAt u A ps) (t : Turn L u u') (hA : ∀ ad, A = some ad → ad.block ∉ L) : PicksAt u' A ps := by
  intro j p hp
  obtain ⟨h1, ad, e, c0, c1, c2⟩ := h j p hp
  exact ⟨h1, ad, e, t.cell c0 (by rw [add_block]; exact hA ad e), t.cell c1 (by rw [add_block]; exact hA ad e), t.cell c2 (by rw [add_block]; exact hA ad e)⟩
theorem PicksAt.held {u u' : World} {A : Option Addr} {ps : List Pk} (h : PicksAt u A ps) (hb : Below u.heap.size u u') : PicksAt u' A ps := by
  intro j p hp
  obtain ⟨h1, ad, e, c0, c1, c2⟩ := h j p hp
  exact ⟨h1, ad, e, Go.Proofs.Ytnoolpgklenhaaa.held hb c0, Go.Proofs.Ytnoolpgklenhaaa.held hb c1, Go.Proofs.Ytnoolpgklenhaaa.held hb c2⟩
theorem PicksAt.tail {u : World} {ad : Addr} {p : Pk} {ps : List Pk} (h : PicksAt u (some ad) (p :: ps)) : PicksAt u (some (ad.add 3)) ps := by
  intro j q hq
  obtain ⟨h1, ad', e, c0, c1, c2⟩ := h (j + 1) q (by simpa using hq)
  cases e
  refine ⟨h1, _, rfl, ?_, ?_, ?_⟩
  · rw [Deep.add_add, show 3 + j * 3 = (j + 1) * 3 by omega]; exact c0
  · rw [Deep.add_add, show 3 + (j * 3 + 1) = (j + 1) * 3 + 1 by omega]; exact c1
  · rw [Deep.add_add, show 3 + (j * 3 + 2) = (j + 1) * 3 + 2 by omega]; exact c2
theorem PicksAt.nil {u : World} {A : Option Addr} : PicksAt u A [] := fun j p hp => by simp at hp

theorem run_tail1 (u : World) (ad : Addr) {m cap : Nat} {A2 : Option Addr} (h1 : 1 ≤ m) (h3 : A2 = (if cap = 1 then some ad else some (ad.add 3))) :
    (Instr.slice 31 (.slice (some ad) m cap) (some (.int .i64 1)) none none).run Try.prog u = .ok (.slice A2 (m - 1) (cap - 1)) u := by
  have hu : Try.prog.underlying 31 = some (.slice 39) := by kernel_rfl
  have hz : (sizeOf 39).run Try.prog u = .ok 3 u := by kernel_rfl
  have hb : (Instr.sliceBound (.int .i64 1) m .sliceB).run Try.prog u = .ok 1 u := run_sliceBound u .i64 1 m .sliceB (by omega) (by omega)
  subst h3
  simp only [Instr.slice, Sem.run_bind, run_underlying hu, Result.andThen_ok, Instr.sliceBounds, Sem.run_pure]
  simp [hb]
theorem tail_picks {u : World} {ad : Addr} {cap : Nat} {rest : List Pk} (h : PicksAt u (some (ad.add 3)) rest) (hl : rest.length ≤ cap - 1) : PicksAt u (if cap = 1 then some ad else some (ad.add 3)) rest := by
  by_cases hc : cap = 1
  · obtain rfl : rest = [] := List.eq_nil_of_length_eq_zero (by omega)
    exact PicksAt.nil
  · rw [if_neg hc]; exact h
theorem A2_block {A2 : Option Addr} {ad : Addr} {cap : Nat} {L : List Nat} (h : A2 = if cap = 1 then some ad else some (ad.add 3)) (had : ad.block ∉ L) : ∀ a, A2 = some a → a.block ∉ L := by
  intro a ha
  rw [h] at ha
  by_cases hc : cap = 1
  · rw [if_pos hc] at ha; cases ha; exact had
  · rw [if_neg hc] at ha; cases ha; rw [add_block]; exact had
theorem Blk.three {w : World} {g : Nat} {t : TypeId} {a b c : Value} (h : Blk t w g #[a, b, c]) (x y z : Value) : Blk t (((w.setCell ⟨g, 0, none⟩ x).setCell ⟨g, 1, none⟩ y).setCell ⟨g, 2, none⟩ z).drew g #[x, y, z] :=
  (((h.store 0 x).store 1 y).store 2 z).drew
theorem crashing_none {safe : Nat → List UInt8} {wn : Int → Option (List UInt8)} {ps : List Pk} {k : Nat} (h : wn k = none) : crashing safe wn ps (k + 1) = crashing safe wn ps k := by
  funext i
  unfold crashing
  by_cases h1 : i < k
  · rw [if_pos h1, if_pos (by omega)]
  · by_cases h2 : i = k
    · subst h2; rw [if_pos (by omega), if_neg (by omega)]; unfold crashed; rw [h]
    · rw [if_neg (by omega), if_neg (by omega)]
theorem crashing_some {safe : Nat → List UInt8} {wn : Int → Option (List UInt8)} {ps : List Pk} {k : Nat} : crashing safe wn ps (k + 1) = fun j => if j = k then crashed safe wn ps k else crashing safe wn ps k j := by
  funext i
  unfold crashing
  by_cases h2 : i = k
  · subst h2; rw [if_pos (by omega), if_pos rfl]
  · rw [if_neg h2]
    by_cases h1 : i < k
    · rw [if_pos h1, if_pos (by omega)]
    · rw [if_neg (by omega), if_neg (by omega)]
theorem crashing_at {safe : Nat → List UInt8} {wn : Int → Option (List UInt8)} {ps : List Pk} {k : Nat} : crashing safe wn ps k k = safe k := by unfold crashing; rw [if_neg (by omega)]
theorem below_none {wn : Int → Option (List UInt8)} {k : Nat} (h : wn k = none) : unsafeBelow wn (k + 1) = unsafeBelow wn k := by rw [unsafeBelow, h]; rfl
theorem below_some {wn : Int → Option (List UInt8)} {k : Nat} {s : List UInt8} (h : wn k = some s) : unsafeBelow wn (k + 1) = unsafeBelow wn k + 1 := by rw [unsafeBelow, h]; rfl

section
variable {w : World} {d S M n : Nat} {safe : Nat → List UInt8} {wn : Int → Option (List UInt8)} {well : Int}
/-- how Crash's loop stands -/
def CrashRel (w : World) (d S M n : Nat) (safe : Nat → List UInt8) (wn : Int → Option (List UInt8)) (well : Int) (ps : List Pk) (cap : Nat) (v i : Value) (u : World) : Prop :=
  ∃ (k : Nat) (A : Option Addr) (cap' : Nat), k ≤ n ∧ i = .int .i64 k ∧ v = .slice A (ps.length - unsafeBelow wn k) cap' ∧ ps.length - unsafeBelow wn k ≤ cap' ∧ cap' ≤ cap ∧ PicksAt u A (ps.drop (unsafeBelow wn k)) ∧ (ps = [] ∨ ∀ ad, A = some ad → ad.block ∉ [d, S, M]) ∧
    Dk u d S M n (crashing safe wn ps k) wn well ∧ Turn [d, S, M] w u

set_option maxHeartbeats 2000000 in
set_option maxRecDepth 100000 in
theorem crash_any (h : Dk w d S M n safe wn well) (A : Option Addr) (ps : List Pk) (cap : Nat) (hps : PicksAt w A ps) (hA : ps = [] ∨ ∀ ad, A = some ad → ad.block ∉ [d, S, M]) (hl : ps.length ≤ cap) (hc : cap ≤ 9223372036854775807) :
    Calls Try.prog 9 #[.pointer (some ⟨d, 0, none⟩), .slice A ps.length cap] w fun e w' => e = .returned (.tuple #[]) ∧ Dk w' d S M n (crashed safe wn ps) (fun _ => none) (-1) ∧ Turn [d, S, M] w w' := by
  have n2 := h.n2
  have K := Lib.hid (show CrashRel w d S M n safe wn well ps cap (.slice A ps.length cap) (.int .i64 0) w from ⟨0, A, cap, by omega, rfl, rfl, by simpa [unsafeBelow] using hl, Nat.le_refl _, hps, hA, by
    have e : crashing safe wn ps 0 = safe := by funext i; simp [crashing]
    rw [e]; exact h, Turn.refl _ _⟩)
  have H := Lib.hid h
  clear h hps hA
  go_enter Try.func9, Try.ntmps9
  go_wp2_with fail
  refine (size_any H.out).mono ?_
  rintro e w' ⟨rfl, rfl⟩
  go_wp2_with fail
  go_loopw [1, 10] (fun v i u => CrashRel w d S M n safe wn well ps cap v i u) (fun _ i _ => n - (intOf i).toNat)
  case atStart => exact K.out
  case round =>
    clear K H
    obtain ⟨k, A', cap', hk, rfl, rfl, hl', hc', hP, hA, hD, hT⟩ := hrel
    have cM : wr.cell? ⟨d, 1, none⟩ = some (.map (some M)) := hD.head.at_ 1
    have c0 : wr.cell? ⟨d, 0, none⟩ = some (.slice (some ⟨S, 0, none⟩) n n) := hD.head.at_ 0
    have hlt0 := hD.head.lt
    by_cases hkn : k < n
    · have hl := hD.map.look_ok (t := 49) (e := 53) (by kernel_rfl) (by kernel_rfl) (zero_sector wr) (i := (k : Int)) (int_wf (by omega) (by omega))
      cases hw : wn k with
      | none =>
        simp only [hw, Option.map_none, Option.getD_none, Option.isSome_none, z48_sec] at hl
        have hl0 : (List.replicate 48 (0 : UInt8)).length = 48 := by simp
        generalize List.replicate 48 (0 : UInt8) = s0 at *
        have Z := Lib.hid (And.intro hl' (And.intro hc' (And.intro hP (And.intro hA (And.intro hD (And.intro hT hw))))))
        clear hl' hc' hP hA hD hT hw
        go_wp2_with (first
          | (refine wpList_store_mid (P := Try.prog) rfl 53 (.tmp 5) (.tmp 20) rfl _ 0 (sec s0).toArray rfl rfl (z48_there' _ _ hl0) (secInfo' hl0) (all_oneCell_toArray (sec_one s0)) ?_
             obtain ⟨hN, hX, -⟩ := new_stored wr 53 hl0
             dsimp only [z48] at hN hX
             rw [List.toList_toArray]
             generalize (World.setCells (wr.alloc _) wr.heap.size 0 (sec s0)) = w2 at *
             have X := Lib.hid (And.intro hN hX)
             clear hN hX))
        go_roundw
        case rel =>
          obtain ⟨hl', hc', hP, hA, hD, hT, hw⟩ := Z.out
          have hN := X.out.1
          refine ⟨k + 1, A', cap', by omega, by go_num, by rw [below_none hw], by rw [below_none hw]; exact hl', hc', by rw [below_none hw]; exact hP.held hN, hA, by rw [crashing_none hw]; exact hD.held hN, hT.and_below hN⟩
        case measure => simp [intOf]; omega
      | some s =>
        have hs := (hD.wlen _ _ hw).2.2
        have hsk := hD.len k hkn
        rw [crashing_at] at hsk
        simp only [hw, Option.map_some, Option.getD_some, Option.isSome_some] at hl
        by_cases hb : unsafeBelow wn k < ps.length
        · obtain ⟨⟨how, at_, turn⟩, hp⟩ : ∃ p, ps[unsafeBelow wn k]? = some p := ⟨_, List.getElem?_eq_getElem hb⟩
          have E : Hid (crashed safe wn ps k = picked how at_ turn (safe k) s) := Lib.hid (by unfold crashed; rw [hw, hp])
          have hrest : ps.drop (unsafeBelow wn k) = (how, at_, turn) :: ps.drop (unsafeBelow wn k + 1) := by
            rw [List.drop_eq_getElem_cons hb]
            congr 1
            rw [List.getElem?_eq_getElem hb] at hp
            exact Option.some.inj hp
          rw [hrest] at hP
          obtain ⟨ht, ad, rfl, p0, p1, p2⟩ := hP 0 _ rfl
          simp only [Nat.zero_mul, Nat.zero_add] at p0 p1 p2
          have hPt := hP.tail
          have had := hA.resolve_left (fun e => by rw [e] at hb; simp at hb) ad rfl
          have Z := Lib.hid (And.intro hl' (And.intro hc' (And.intro hPt (And.intro hA (And.intro hD (And.intro hT hw))))))
          have m1 : ps.length - unsafeBelow wn k ≤ cap' := hl'
          have m2 : 1 ≤ ps.length - unsafeBelow wn k := by omega
          have m3 : cap' ≤ 9223372036854775807 := by omega
          have m4 : ps.length - unsafeBelow wn k - 1 = ps.length - (unsafeBelow wn k + 1) := by omega
          have PP := Lib.hid (And.intro p0 (And.intro p1 p2))
          clear hl' hc' hP hA hD hT hw hp hrest p0 p1 p2 hPt
          generalize ps.length - unsafeBelow wn k = m at *
          have M4 := Lib.hid m4
          clear m4
          obtain ⟨A2, hA2⟩ : ∃ A2, A2 = (if cap' = 1 then some ad else some (ad.add 3)) := ⟨_, rfl⟩
          have hrunS := fun u => run_tail1 u ad m2 hA2
          have HA2 := Lib.hid hA2
          clear hA2
          go_wp2_with (first
            | (refine wpList_store_mid (P := Try.prog) rfl 53 (.tmp 5) (.tmp 20) rfl _ 0 (sec s).toArray rfl rfl (z48_there' _ _ hs) (secInfo' hs) (all_oneCell_toArray (sec_one s)) ?_
               obtain ⟨hN, hX, -⟩ := new_stored wr 53 hs
               dsimp only [z48] at hN hX
               rw [List.toList_toArray]
               generalize (World.setCells (wr.alloc _) wr.heap.size 0 (sec s)) = w2 at *
               have X := Lib.hid (And.intro hN hX)
               clear hN hX))
          have hN3 := below_new w2 (.cells #[.int .i64 0, .int .i64 0, .int .u32 0] 39)
          have hB3 := Blk.new w2 39 #[.int .i64 0, .int .i64 0, .int .u32 0]
          generalize w2.alloc (.cells #[.int .i64 0, .int .i64 0, .int .u32 0] 39) = w3 at *
          obtain ⟨p0, p1, p2⟩ := PP.out
          replace p0 := held hN3 (held X.out.1 p0)
          replace p1 := held hN3 (held X.out.1 p1)
          replace p2 := held hN3 (held X.out.1 p2)
          have gne : ad.block ≠ w2.heap.size := by
            have h1 := cell_lt (PP.out.1)
            rw [add_block] at h1
            have h2 := X.out.1.size
            omega
          have Y := Lib.hid (And.intro hN3 hB3)
          have B4 := hB3.three (.int .i64 how) (.int .i64 at_) (.int .u32 turn)
          have T4 : Turn [w2.heap.size] w3.drew (((w3.setCell ⟨w2.heap.size, 0, none⟩ (.int .i64 how)).setCell ⟨w2.heap.size, 1, none⟩ (.int .i64 at_)).setCell ⟨w2.heap.size, 2, none⟩ (.int .u32 turn)).drew :=
            ((Turn.setCell _ (by simp) _).trans (Turn.setCell _ (by simp) _)).trans (Turn.setCell _ (by simp) _)
          refine wp_region_held_drew (S := fun w' => w'.cell? ad = some (.int .i64 how) ∧ w'.cell? (ad.add 1) = some (.int .i64 at_) ∧ w'.cell? (ad.add 2) = some (.int .u32 turn)) (by kernel_rfl) ⟨p0, p1, p2⟩ (fun hHeld => ?_)
          have e1 : ∀ f, ad.add (f + 1) = ⟨ad.block, ad.off + (f + 1), none⟩ := fun f => by unfold Addr.add; simp
          refine take_list (i := 0) (v := .slice (some ad) m cap') rfl (by kernel_rfl) (by kernel_rfl) (by kernel_rfl) (fun _ _ _ h => h) (.inl ⟨rfl, ?_⟩) hHeld ?_
          · (intro w hSw; go_simp)
          go_frame
          refine take_list (i := 1) (v := .pointer (some ad)) rfl (by kernel_rfl) (by kernel_rfl) (by kernel_rfl) (fun _ _ _ h => h) (.inl ⟨rfl, ?_⟩) hHeld ?_
          · (intro w hSw; go_simp)
          go_frame
          refine take_list (i := 2) (v := .agg #[.int .i64 how, .int .i64 at_, .int .u32 turn]) rfl (by kernel_rfl) (by kernel_rfl) (by kernel_rfl) (fun _ _ _ h => h) (.inl ⟨rfl, ?_⟩) hHeld ?_
          · (intro w hSw; rw [e1 0, e1 1] at hSw; go_simp)
          go_frame
          refine take_list (i := 3) (v := .slice (some ad) m cap') rfl (by kernel_rfl) (by kernel_rfl) (by kernel_rfl) (fun _ _ _ h => h) (.inl ⟨rfl, ?_⟩) hHeld ?_
          · (intro w hSw; go_simp)
          go_frame
          refine take_list (i := 4) (v := .slice A2 (m - 1) (cap' - 1)) rfl (by kernel_rfl) (by kernel_rfl) (by kernel_rfl) (fun _ _ _ h => h) (.inl ⟨rfl, ?_⟩) hHeld ?_
          · (intro w hSw; go_simp)
          go_frame
          have g0 : w3.cell? ⟨w2.heap.size, 0, none⟩ = some (.int .i64 0) := hB3.at_ 0
          have g1 : w3.cell? ⟨w2.heap.size, 1, none⟩ = some (.int .i64 0) := hB3.at_ 1
          have g2 : w3.cell? ⟨w2.heap.size, 2, none⟩ = some (.int .u32 0) := hB3.at_ 2
          have f0 := hB3.free 0
          have f1 := hB3.free 1
          have f2 := hB3.free 2
          refine ready_list (i := 5) rfl (by kernel_rfl) (fun K hK => ?_)
          go_simp
          refine hK.out _ _ ⟨T4.cell p0 (by simpa using gne), T4.cell p1 (by rw [add_block]; simpa using gne), T4.cell p2 (by rw [add_block]; simpa using gne)⟩ (fun hHeld => ?_)
          clear hK K
          refine take_list (i := 6) (v := .slice A2 (m - 1) (cap' - 1)) rfl (by kernel_rfl) (by kernel_rfl) (by kernel_rfl) (fun _ _ _ h => h) (.inl ⟨rfl, ?_⟩) hHeld ?_
          · (intro w hSw; go_simp)
          go_frame
          refine wpAnyH_done (by kernel_rfl) ?_ _
          have hN4 : Below w2.heap.size w2 (((w3.setCell ⟨w2.heap.size, 0, none⟩ (.int .i64 how)).setCell ⟨w2.heap.size, 1, none⟩ (.int .i64 at_)).setCell ⟨w2.heap.size, 2, none⟩ (.int .u32 turn)).drew := hN3.drew.trans (T4.below (by simp) hN3.size)
          clear hHeld hN3 hB3 p0 p1 p2 g0 g1 g2 f0 f1 f2 Y T4 e1 hrunS
          generalize (((w3.setCell ⟨w2.heap.size, 0, none⟩ (.int .i64 how)).setCell ⟨w2.heap.size, 1, none⟩ (.int .i64 at_)).setCell ⟨w2.heap.size, 2, none⟩ (.int .u32 turn)).drew = w4 at *
          go_wp2_with fail
          have hNN := next (X.out.1) hN4
          have hD3 := Z.out.2.2.2.2.1.held hNN
          have hX3 := X.out.2.held hN4
          have hXl := picked_length (how := how) (at_ := at_) (turn := turn) hsk hs
          have q0 : w4.cell? ⟨d, 0, none⟩ = some (.slice (some ⟨S, 0, none⟩) n n) := hD3.head.at_ 0
          have q1 : w4.cell? ⟨w2.heap.size, 0, none⟩ = some (.int .i64 how) := B4.at_ 0
          have q2 : w4.cell? ⟨w2.heap.size, 1, none⟩ = some (.int .i64 at_) := B4.at_ 1
          have q3 : w4.cell? ⟨w2.heap.size, 2, none⟩ = some (.int .u32 turn) := B4.at_ 2
          have q4 : w4.drew.rangeAt wr.heap.size 0 (sec s) := hX3.range_all
          have q5 : w4.drew.there S (k * 48) (sec (picked how at_ turn (safe k) s)).length := by rw [sec_length, hXl]; exact hD3.there hkn
          have q6 : w4.drew.rangeAt S (k * 48) (sec (safe k)) := by
            have h := hD3.range hkn
            rw [crashing_at] at h
            exact h
          have hu := sector_under
          have hi := secInfo hs
          have hi2 := secInfo hsk
          have hi3 := secInfo hXl
          have ho := sec_one (picked how at_ turn (safe k) s)
          have Y := Lib.hid (And.intro hNN (And.intro hD3 (And.intro hX3 B4)))
          clear hNN hD3 hX3 B4 hN4 cM c0
          refine wp_region_held_drew (S := fun w' => w'.cell? ⟨d, 0, none⟩ = some (.slice (some ⟨S, 0, none⟩) n n) ∧ w'.cell? ⟨w2.heap.size, 0, none⟩ = some (.int .i64 how) ∧ w'.cell? ⟨w2.heap.size, 1, none⟩ = some (.int .i64 at_) ∧ w'.cell? ⟨w2.heap.size, 2, none⟩ = some (.int .u32 turn) ∧ w'.rangeAt wr.heap.size 0 (sec s)) (by kernel_rfl) ⟨q0, q1, q2, q3, q4⟩ (fun hHeld => ?_)
          refine take_list (i := 0) (v := .pointer (some ⟨d, 0, none⟩)) rfl (by kernel_rfl) (by kernel_rfl) (by kernel_rfl) (fun _ _ _ h => h) (.inl ⟨rfl, ?_⟩) hHeld ?_
          · (intro w hSw; (try dsimp only at hSw); go_simp)
          go_frame
          refine take_list (i := 1) (v := .pointer (some ⟨d, 0, none⟩)) rfl (by kernel_rfl) (by kernel_rfl) (by kernel_rfl) (fun _ _ _ h => h) (.inl ⟨rfl, ?_⟩) hHeld ?_
          · (intro w hSw; (try dsimp only at hSw); go_simp)
          go_frame
          refine take_list (i := 2) (v := .pointer (some ⟨d, 0, none⟩)) rfl (by kernel_rfl) (by kernel_rfl) (by kernel_rfl) (fun _ _ _ h => h) (.inl ⟨rfl, ?_⟩) hHeld ?_
          · (intro w hSw; (try dsimp only at hSw); go_simp)
          go_frame
          refine take_list (i := 3) (v := .slice (some ⟨S, 0, none⟩) n n) rfl (by kernel_rfl) (by kernel_rfl) (by kernel_rfl) (fun _ _ _ h => h) (.inl ⟨rfl, ?_⟩) hHeld ?_
          · (intro w hSw; (try dsimp only at hSw); go_simp)
          go_frame
          refine take_list (i := 4) (v := .int .i64 k) rfl (by kernel_rfl) (by kernel_rfl) (by kernel_rfl) (fun _ _ _ h => h) (.inl ⟨rfl, ?_⟩) hHeld ?_
          · (intro w hSw; (try dsimp only at hSw); go_simp)
          go_frame
          refine take_list (i := 5) (v := .agg #[.int .i64 how, .int .i64 at_, .int .u32 turn]) rfl (by kernel_rfl) (by kernel_rfl) (by kernel_rfl) (fun _ _ _ h => h) (.inl ⟨rfl, ?_⟩) hHeld ?_
          · (intro w hSw; (try dsimp only at hSw); go_simp)
          go_frame
          refine take_list (i := 6) (v := .pointer (some ⟨d, 0, none⟩)) rfl (by kernel_rfl) (by kernel_rfl) (by kernel_rfl) (fun _ _ _ h => h) (.inl ⟨rfl, ?_⟩) hHeld ?_
          · (intro w hSw; (try dsimp only at hSw); go_simp)
          go_frame
          refine take_list (i := 7) (v := .pointer (some ⟨d, 0, none⟩)) rfl (by kernel_rfl) (by kernel_rfl) (by kernel_rfl) (fun _ _ _ h => h) (.inl ⟨rfl, ?_⟩) hHeld ?_
          · (intro w hSw; (try dsimp only at hSw); go_simp)
          go_frame
          refine take_list (i := 8) (v := .pointer (some ⟨d, 0, none⟩)) rfl (by kernel_rfl) (by kernel_rfl) (by kernel_rfl) (fun _ _ _ h => h) (.inl ⟨rfl, ?_⟩) hHeld ?_
          · (intro w hSw; (try dsimp only at hSw); go_simp)
          go_frame
          refine take_list (i := 9) (v := .slice (some ⟨S, 0, none⟩) n n) rfl (by kernel_rfl) (by kernel_rfl) (by kernel_rfl) (fun _ _ _ h => h) (.inl ⟨rfl, ?_⟩) hHeld ?_
          · (intro w hSw; (try dsimp only at hSw); go_simp)
          go_frame
          refine take_list (i := 10) (v := .int .i64 k) rfl (by kernel_rfl) (by kernel_rfl) (by kernel_rfl) (fun _ _ _ h => h) (.inl ⟨rfl, ?_⟩) hHeld ?_
          · (intro w hSw; (try dsimp only at hSw); go_simp)
          go_frame
          refine take_list (i := 11) (v := .pointer (some ⟨S, k * 48, none⟩)) rfl (by kernel_rfl) (by kernel_rfl) (by kernel_rfl) (fun _ _ _ h => h) (.inl ⟨rfl, ?_⟩) hHeld ?_
          · (intro w hSw; (try dsimp only at hSw); go_simp)
          go_frame
          refine take_list (i := 13) (v := .agg (sec s).toArray) rfl (by kernel_rfl) (by kernel_rfl) (by kernel_rfl) (fun _ _ _ h => h) (yieldsIf_load_mid rfl _ _ rfl _ _ rfl (sec s) _ (fun _ h => h.2.2.2.2) sector_under rfl (secInfo hs)) hHeld ?_
          go_frame
          refine ready_list (i := 12) rfl (by kernel_rfl) (fun K hK => ?_)
          rw [if_pos (by rfl)]
          refine wp_load_mid _ _ rfl _ _ rfl (sec (safe k)) _ q6 sector_under rfl (secInfo hsk) ?_
          go_frame
          refine hK.out _ _ hHeld (fun hHeld => ?_)
          clear hK K
          refine ready_list (i := 14) rfl (by kernel_rfl) (fun K hK => ?_)
          go_simp
          refine (of_any _ how at_ turn ht (safe k) s hsk hs).mono ?_
          rintro e w5 ⟨rfl, hb5⟩
          have hD5 := (show Dk w4.drew d S M n _ wn well from Y.out.2.1.drew).held hb5
          have hX5 := (show Blk _ w4.drew _ _ from Y.out.2.2.1).held hb5
          have hB5 := (show Blk _ w4.drew _ _ from Y.out.2.2.2).held hb5
          have hD6 := hD5.row hkn hXl
          have hT6 : Turn [S] w5 (w5.setCells S (k * 48) (sec (picked how at_ turn (safe k) s))) := Turn.setCells w5 (by simp) _ _
          have hB6 := hB5.turn hT6 (by have := Z.out.2.2.2.2.1.ltS; have := X.out.1.size; simp; omega)
          have hX6 := hX5.turn hT6 (by have := Z.out.2.2.2.2.1.ltS; simp; omega)
          refine hK.out _ _ ⟨hD5.head.at_ 0, hB5.at_ 0, hB5.at_ 1, hB5.at_ 2, hX5.range_all⟩ (fun hHeld => ?_)
          clear hK K
          refine take_list (i := 15) (v := .pointer (some ⟨S, k * 48, none⟩)) rfl (by kernel_rfl) (by kernel_rfl) (by kernel_rfl) (fun _ _ _ h => h) (.inl ⟨rfl, ?_⟩) hHeld ?_
          · (intro w hSw; (try dsimp only at hSw); go_simp)
          go_frame
          refine ready_list (i := 16) rfl (by kernel_rfl) (fun K hK => ?_)
          rw [if_pos (by rfl)]
          refine wp_store_mid _ _ _ rfl _ _ (sec (picked how at_ turn (safe k) s)).toArray rfl rfl (by rw [List.size_toArray, sec_length, hXl]; exact hD5.there hkn) (secInfo' hXl) (all_oneCell_toArray (sec_one _)) ?_
          rw [List.toList_toArray]
          refine hK.out _ _ ⟨hD6.head.at_ 0, hB6.at_ 0, hB6.at_ 1, hB6.at_ 2, hX6.range_all⟩ (fun hHeld => ?_)
          clear hK K
          refine wpAnyH_done (by kernel_rfl) ?_ _
          go_frame
          have V := Lib.hid (And.intro hb5 (And.intro hD6 hT6))
          clear hD5 hX5 hB5 hD6 hT6 hB6 hX6 hHeld hb5
          go_wp2_with fail
          go_roundw
          case rel =>
            obtain ⟨hl', hc', hP, hA, hD, hT, hw⟩ := Z.out
            obtain ⟨hb5, hD6, hT6⟩ := V.out
            have A2x := HA2.out
            have hl2 : (ps.drop (unsafeBelow wn k + 1)).length ≤ cap' - 1 := by
              rw [List.length_drop]
              have := M4.out
              omega
            have hTall2 : Turn [d, S, M] wr (w5.setCells S (k * 48) (sec (picked how at_ turn (safe k) s))) := (((Turn.of_below _ Y.out.1).drew).and_below hb5).trans (hT6.mono (by simp))
            have hTall : Turn [d, S, M] w (w5.setCells S (k * 48) (sec (picked how at_ turn (safe k) s))) := ((hT.and_below Y.out.1).drew.and_below hb5).trans (hT6.mono (by simp))
            refine ⟨k + 1, A2, cap' - 1, by omega, by go_num, by rw [below_some hw]; rw [M4.out], by rw [below_some hw]; have := M4.out; omega, by omega, ?_, ?_, by rw [crashing_some, E.out]; exact hD6, hTall⟩
            · rw [below_some hw, A2x]; exact tail_picks (hP.turn hTall2 (fun a e => by cases e; rw [add_block]; exact had)) hl2
            · exact .inr (A2_block A2x had)
          case measure => simp [intOf]; omega
        · have E : Hid (crashed safe wn ps k = picked 0 0 0 (safe k) s) := Lib.hid (by unfold crashed; rw [hw, List.getElem?_eq_none (by omega)]; rfl)
          have Z := Lib.hid (And.intro hl' (And.intro hc' (And.intro hP (And.intro hA (And.intro hD (And.intro hT hw))))))
          have e0 : ps.length - unsafeBelow wn k = 0 := by omega
          simp only [e0]
          clear hl' hc' hP hA hD hT hw
          go_wp2_with (first
            | (refine wpList_store_mid (P := Try.prog) rfl 53 (.tmp 5) (.tmp 20) rfl _ 0 (sec s).toArray rfl rfl (z48_there' _ _ hs) (secInfo' hs) (all_oneCell_toArray (sec_one s)) ?_
               obtain ⟨hN, hX, -⟩ := new_stored wr 53 hs
               dsimp only [z48] at hN hX
               rw [List.toList_toArray]
               generalize (World.setCells (wr.alloc _) wr.heap.size 0 (sec s)) = w2 at *
               have X := Lib.hid (And.intro hN hX)
               clear hN hX))
          have hN3 := below_new w2 (.cells #[.int .i64 0, .int .i64 0, .int .u32 0] 39)
          have hB3 := Blk.new w2 39 #[.int .i64 0, .int .i64 0, .int .u32 0]
          generalize w2.alloc (.cells #[.int .i64 0, .int .i64 0, .int .u32 0] 39) = w3 at *
          have hNN := next (X.out.1) hN3
          have hD3 := Z.out.2.2.2.2.1.held hNN
          have hX3 := X.out.2.held hN3
          have hXl := picked_length (how := 0) (at_ := 0) (turn := 0) hsk hs
          have q0 : w3.cell? ⟨d, 0, none⟩ = some (.slice (some ⟨S, 0, none⟩) n n) := hD3.head.at_ 0
          have q1 : w3.cell? ⟨w2.heap.size, 0, none⟩ = some (.int .i64 0) := hB3.at_ 0
          have q2 : w3.cell? ⟨w2.heap.size, 1, none⟩ = some (.int .i64 0) := hB3.at_ 1
          have q3 : w3.cell? ⟨w2.heap.size, 2, none⟩ = some (.int .u32 0) := hB3.at_ 2
          have q4 : w3.drew.rangeAt wr.heap.size 0 (sec s) := hX3.range_all
          have q5 : w3.drew.there S (k * 48) (sec (picked 0 0 0 (safe k) s)).length := by rw [sec_length, hXl]; exact hD3.there hkn
          have q6 : w3.drew.rangeAt S (k * 48) (sec (safe k)) := by
            have h := hD3.range hkn
            rw [crashing_at] at h
            exact h
          have hu := sector_under
          have hi := secInfo hs
          have hi2 := secInfo hsk
          have hi3 := secInfo hXl
          have ho := sec_one (picked 0 0 0 (safe k) s)
          have Y := Lib.hid (And.intro hNN (And.intro hD3 (And.intro hX3 hB3)))
          clear hNN hD3 hX3 hB3 hN3 cM c0
          refine wp_region_held_drew (S := fun w' => w'.cell? ⟨d, 0, none⟩ = some (.slice (some ⟨S, 0, none⟩) n n) ∧ w'.cell? ⟨w2.heap.size, 0, none⟩ = some (.int .i64 0) ∧ w'.cell? ⟨w2.heap.size, 1, none⟩ = some (.int .i64 0) ∧ w'.cell? ⟨w2.heap.size, 2, none⟩ = some (.int .u32 0) ∧ w'.rangeAt wr.heap.size 0 (sec s)) (by kernel_rfl) ⟨q0, q1, q2, q3, q4⟩ (fun hHeld => ?_)
          refine take_list (i := 0) (v := .pointer (some ⟨d, 0, none⟩)) rfl (by kernel_rfl) (by kernel_rfl) (by kernel_rfl) (fun _ _ _ h => h) (.inl ⟨rfl, ?_⟩) hHeld ?_
          · (intro w hSw; (try dsimp only at hSw); go_simp)
          go_frame
          refine take_list (i := 1) (v := .pointer (some ⟨d, 0, none⟩)) rfl (by kernel_rfl) (by kernel_rfl) (by kernel_rfl) (fun _ _ _ h => h) (.inl ⟨rfl, ?_⟩) hHeld ?_
          · (intro w hSw; (try dsimp only at hSw); go_simp)
          go_frame
          refine take_list (i := 2) (v := .pointer (some ⟨d, 0, none⟩)) rfl (by kernel_rfl) (by kernel_rfl) (by kernel_rfl) (fun _ _ _ h => h) (.inl ⟨rfl, ?_⟩) hHeld ?_
          · (intro w hSw; (try dsimp only at hSw); go_simp)
          go_frame
          refine take_list (i := 3) (v := .slice (some ⟨S, 0, none⟩) n n) rfl (by kernel_rfl) (by kernel_rfl) (by kernel_rfl) (fun _ _ _ h => h) (.inl ⟨rfl, ?_⟩) hHeld ?_
          · (intro w hSw; (try dsimp only at hSw); go_simp)
          go_frame
          refine take_list (i := 4) (v := .int .i64 k) rfl (by kernel_rfl) (by kernel_rfl) (by kernel_rfl) (fun _ _ _ h => h) (.inl ⟨rfl, ?_⟩) hHeld ?_
          · (intro w hSw; (try dsimp only at hSw); go_simp)
          go_frame
          refine take_list (i := 5) (v := .agg #[.int .i64 0, .int .i64 0, .int .u32 0]) rfl (by kernel_rfl) (by kernel_rfl) (by kernel_rfl) (fun _ _ _ h => h) (.inl ⟨rfl, ?_⟩) hHeld ?_
          · (intro w hSw; (try dsimp only at hSw); go_simp)
          go_frame
          refine take_list (i := 6) (v := .pointer (some ⟨d, 0, none⟩)) rfl (by kernel_rfl) (by kernel_rfl) (by kernel_rfl) (fun _ _ _ h => h) (.inl ⟨rfl, ?_⟩) hHeld ?_
          · (intro w hSw; (try dsimp only at hSw); go_simp)
          go_frame
          refine take_list (i := 7) (v := .pointer (some ⟨d, 0, none⟩)) rfl (by kernel_rfl) (by kernel_rfl) (by kernel_rfl) (fun _ _ _ h => h) (.inl ⟨rfl, ?_⟩) hHeld ?_
          · (intro w hSw; (try dsimp only at hSw); go_simp)
          go_frame
          refine take_list (i := 8) (v := .pointer (some ⟨d, 0, none⟩)) rfl (by kernel_rfl) (by kernel_rfl) (by kernel_rfl) (fun _ _ _ h => h) (.inl ⟨rfl, ?_⟩) hHeld ?_
          · (intro w hSw; (try dsimp only at hSw); go_simp)
          go_frame
          refine take_list (i := 9) (v := .slice (some ⟨S, 0, none⟩) n n) rfl (by kernel_rfl) (by kernel_rfl) (by kernel_rfl) (fun _ _ _ h => h) (.inl ⟨rfl, ?_⟩) hHeld ?_
          · (intro w hSw; (try dsimp only at hSw); go_simp)
          go_frame
          refine take_list (i := 10) (v := .int .i64 k) rfl (by kernel_rfl) (by kernel_rfl) (by kernel_rfl) (fun _ _ _ h => h) (.inl ⟨rfl, ?_⟩) hHeld ?_
          · (intro w hSw; (try dsimp only at hSw); go_simp)
          go_frame
          refine take_list (i := 11) (v := .pointer (some ⟨S, k * 48, none⟩)) rfl (by kernel_rfl) (by kernel_rfl) (by kernel_rfl) (fun _ _ _ h => h) (.inl ⟨rfl, ?_⟩) hHeld ?_
          · (intro w hSw; (try dsimp only at hSw); go_simp)
          go_frame
          refine take_list (i := 13) (v := .agg (sec s).toArray) rfl (by kernel_rfl) (by kernel_rfl) (by kernel_rfl) (fun _ _ _ h => h) (yieldsIf_load_mid rfl _ _ rfl _ _ rfl (sec s) _ (fun _ h => h.2.2.2.2) sector_under rfl (secInfo hs)) hHeld ?_
          go_frame
          refine ready_list (i := 12) rfl (by kernel_rfl) (fun K hK => ?_)
          rw [if_pos (by rfl)]
          refine wp_load_mid _ _ rfl _ _ rfl (sec (safe k)) _ q6 sector_under rfl (secInfo hsk) ?_
          go_frame
          refine hK.out _ _ hHeld (fun hHeld => ?_)
          clear hK K
          refine ready_list (i := 14) rfl (by kernel_rfl) (fun K hK => ?_)
          go_simp
          refine (of_any _ 0 0 0 (by omega) (safe k) s hsk hs).mono ?_
          rintro e w5 ⟨rfl, hb5⟩
          have hD5 := (show Dk w3.drew d S M n _ wn well from Y.out.2.1.drew).held hb5
          have hX5 := (show Blk _ w3.drew _ _ from Y.out.2.2.1).held hb5
          have hB5 := (show Blk _ w3.drew _ _ from Y.out.2.2.2).held hb5
          have hD6 := hD5.row hkn hXl
          have hT6 : Turn [S] w5 (w5.setCells S (k * 48) (sec (picked 0 0 0 (safe k) s))) := Turn.setCells w5 (by simp) _ _
          have hB6 := hB5.turn hT6 (by have := Z.out.2.2.2.2.1.ltS; have := X.out.1.size; simp; omega)
          have hX6 := hX5.turn hT6 (by have := Z.out.2.2.2.2.1.ltS; simp; omega)
          refine hK.out _ _ ⟨hD5.head.at_ 0, hB5.at_ 0, hB5.at_ 1, hB5.at_ 2, hX5.range_all⟩ (fun hHeld => ?_)
          clear hK K
          refine take_list (i := 15) (v := .pointer (some ⟨S, k * 48, none⟩)) rfl (by kernel_rfl) (by kernel_rfl) (by kernel_rfl) (fun _ _ _ h => h) (.inl ⟨rfl, ?_⟩) hHeld ?_
          · (intro w hSw; (try dsimp only at hSw); go_simp)
          go_frame
          refine ready_list (i := 16) rfl (by kernel_rfl) (fun K hK => ?_)
          rw [if_pos (by rfl)]
          refine wp_store_mid _ _ _ rfl _ _ (sec (picked 0 0 0 (safe k) s)).toArray rfl rfl (by rw [List.size_toArray, sec_length, hXl]; exact hD5.there hkn) (secInfo' hXl) (all_oneCell_toArray (sec_one _)) ?_
          rw [List.toList_toArray]
          refine hK.out _ _ ⟨hD6.head.at_ 0, hB6.at_ 0, hB6.at_ 1, hB6.at_ 2, hX6.range_all⟩ (fun hHeld => ?_)
          clear hK K
          refine wpAnyH_done (by kernel_rfl) ?_ _
          go_frame
          have V := Lib.hid (And.intro hb5 (And.intro hD6 hT6))
          clear hD5 hX5 hB5 hD6 hT6 hB6 hX6 hHeld hb5
          go_wp2_with fail
          go_roundw
          case rel =>
            obtain ⟨hl', hc', hP, hA, hD, hT, hw⟩ := Z.out
            obtain ⟨hb5, hD6, hT6⟩ := V.out
            have hnil : ps.drop (unsafeBelow wn k + 1) = [] := List.drop_eq_nil_of_le (by omega)
            have hTall : Turn [d, S, M] w (w5.setCells S (k * 48) (sec (picked 0 0 0 (safe k) s))) := ((hT.and_below Y.out.1).drew.and_below hb5).trans (hT6.mono (by simp))
            refine ⟨k + 1, A', cap', by omega, by go_num, by rw [below_some hw]; rw [show ps.length - (unsafeBelow wn k + 1) = 0 by omega], by rw [below_some hw]; omega, by omega, ?_, ?_, by rw [crashing_some, E.out]; exact hD6, hTall⟩
            · rw [below_some hw, hnil]; exact PicksAt.nil
            · exact hA
          case measure => simp [intOf]; omega
    · obtain rfl : k = n := by omega
      obtain ⟨w4, hcl, hM4, hg4, -⟩ := hD.map.clear (t := 49) (e := 53) (by kernel_rfl) 0
      have hH4 : Blk _ w4 d _ := (hg4.block d hD.head.lt (by simpa using hD.dM)).trans hD.head
      have d2 : w4.cell? ⟨d, 2, none⟩ = some (.int .i64 well) := hH4.at_ 2
      have f2 : w4.frozen? ⟨d, 2, none⟩ = false := hH4.free 2
      have Z := Lib.hid (And.intro hD (And.intro hT (And.intro hM4 (And.intro hg4 hH4))))
      clear hl' hc' hP hA hD hT hM4 hg4 hH4
      go_wp2_with fail
      go_end0
      obtain ⟨hD, hT, hM4, hg4, hH4⟩ := Z.out
      obtain ⟨C, h1, h2, h3⟩ := hD.rows
      have hS4 : w4.heap[S]? = wr.heap[S]? := hg4.block S hD.ltS (by simpa using hD.SM)
      refine ⟨rfl, ⟨hH4.store 2 (.int .i64 (-1)), ⟨C, ?_, h2, fun i hi j v hv => h3 i hi j v ?_⟩, hM4.of_block (Below.heap_setCell _ _ _ _ hD.dM.symm), fun i hi => ?_, fun z s hz => (by cases hz), hD.n1, hD.n2, by omega, by omega⟩, (hT.trans (.of_grown hg4 (by simp))).trans (Turn.setCell _ (by simp) _)⟩
      · exact (Below.heap_setCell _ _ _ _ hD.dS.symm).trans (hS4.trans h1)
      · unfold crashing; rw [if_pos hi]; exact hv
      · have := hD.len i hi
        unfold crashing at this; rw [if_pos hi] at this; exact this
end
end Go.Proofs.Ytnoolpgklenhaaa
