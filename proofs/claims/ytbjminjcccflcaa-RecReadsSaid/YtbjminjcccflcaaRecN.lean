/-
  RecReads' closure: the number of four bytes.
-/
import Derived.Test.YtbjminjcccflcaaRecL
namespace Go.Proofs.Ytbjminjcccflcaa
open Go.RowKit Rm

/-- a region that draws its order and only reads: behind it one answer has been drawn, no more -/
theorem wp_region_quiet_one {P : Program} {id : Nat} {Q : Exit → Act → World → Prop} {a : Act} {w : World} {l : List Oper} (hm : P.follows .mixedOrders = true) (hB : Region.lexB .any l.toArray = true)
    (h : wpQuiet P l.toArray (fun w' => w' = w.drew) (fun a' => ∀ w', w' = w.drew → Q .normal a' w') l a) : (Code.region id l.toArray true).wp P Q a w :=
  wp_region_quiet (C := fun w' => w' = w.drew) hm hB rfl (by simpa using h)

set_option maxHeartbeats 1000000 in
theorem n_at4 {p b off cap : Nat} {bs : List Nat} {w : World} (h : BytesAt w (some ⟨b, off, none⟩) 48 bs) (c : w.cell? ⟨p, 0, none⟩ = some (.slice (some ⟨b, off, none⟩) 48 cap)) :
    Calls Try.prog 13 #[.int .i64 4, .pointer (some ⟨p, 0, none⟩)] w fun e w' => e = .returned (.int .u32 (num4 bs 4 : Nat)) ∧ w' = w.drew := by
  have c0 : w.cell? ⟨b, off + 4, none⟩ = some (.int .u8 (bs.getD 4 0 : Nat)) := h.at_ (k := 4) (by omega)
  have l0 := h.lt 4
  have c1 : w.cell? ⟨b, off + 5, none⟩ = some (.int .u8 (bs.getD 5 0 : Nat)) := h.at_ (k := 5) (by omega)
  have l1 := h.lt 5
  have c2 : w.cell? ⟨b, off + 6, none⟩ = some (.int .u8 (bs.getD 6 0 : Nat)) := h.at_ (k := 6) (by omega)
  have l2 := h.lt 6
  have c3 : w.cell? ⟨b, off + 7, none⟩ = some (.int .u8 (bs.getD 7 0 : Nat)) := h.at_ (k := 7) (by omega)
  have l3 := h.lt 7
  have E : Hid (num4 bs 4 = ((bs.getD 4 0 * 256 + bs.getD 5 0) * 256 + bs.getD 6 0) * 256 + bs.getD 7 0) := Lib.hid rfl
  clear h
  generalize bs.getD 4 0 = v0 at *
  generalize bs.getD 5 0 = v1 at *
  generalize bs.getD 6 0 = v2 at *
  generalize bs.getD 7 0 = v3 at *
  have m0 : v0 ≤ 255 := by omega
  have m1 : v1 ≤ 255 := by omega
  have m2 : v2 ≤ 255 := by omega
  have m3 : v3 ≤ 255 := by omega
  go_enter Try.func13, Try.ntmps13
  go_wp2_with fail
  refine wp_region_quiet_one (by kernel_rfl) (by kernel_rfl) ?_
  repeat (go_big_quiet_step (fail))
  refine wpQuiet_nil ?_
  rintro _ rfl
  go_wp2
  go_ret
  refine ⟨ret_int ?_, rfl⟩
  rw [E.out]
  omega

set_option maxHeartbeats 1000000 in
theorem n_at8 {p b off cap : Nat} {bs : List Nat} {w : World} (h : BytesAt w (some ⟨b, off, none⟩) 48 bs) (c : w.cell? ⟨p, 0, none⟩ = some (.slice (some ⟨b, off, none⟩) 48 cap)) :
    Calls Try.prog 13 #[.int .i64 8, .pointer (some ⟨p, 0, none⟩)] w fun e w' => e = .returned (.int .u32 (num4 bs 8 : Nat)) ∧ w' = w.drew := by
  have c0 : w.cell? ⟨b, off + 8, none⟩ = some (.int .u8 (bs.getD 8 0 : Nat)) := h.at_ (k := 8) (by omega)
  have l0 := h.lt 8
  have c1 : w.cell? ⟨b, off + 9, none⟩ = some (.int .u8 (bs.getD 9 0 : Nat)) := h.at_ (k := 9) (by omega)
  have l1 := h.lt 9
  have c2 : w.cell? ⟨b, off + 10, none⟩ = some (.int .u8 (bs.getD 10 0 : Nat)) := h.at_ (k := 10) (by omega)
  have l2 := h.lt 10
  have c3 : w.cell? ⟨b, off + 11, none⟩ = some (.int .u8 (bs.getD 11 0 : Nat)) := h.at_ (k := 11) (by omega)
  have l3 := h.lt 11
  have E : Hid (num4 bs 8 = ((bs.getD 8 0 * 256 + bs.getD 9 0) * 256 + bs.getD 10 0) * 256 + bs.getD 11 0) := Lib.hid rfl
  clear h
  generalize bs.getD 8 0 = v0 at *
  generalize bs.getD 9 0 = v1 at *
  generalize bs.getD 10 0 = v2 at *
  generalize bs.getD 11 0 = v3 at *
  have m0 : v0 ≤ 255 := by omega
  have m1 : v1 ≤ 255 := by omega
  have m2 : v2 ≤ 255 := by omega
  have m3 : v3 ≤ 255 := by omega
  go_enter Try.func13, Try.ntmps13
  go_wp2_with fail
  refine wp_region_quiet_one (by kernel_rfl) (by kernel_rfl) ?_
  repeat (go_big_quiet_step (fail))
  refine wpQuiet_nil ?_
  rintro _ rfl
  go_wp2
  go_ret
  refine ⟨ret_int ?_, rfl⟩
  rw [E.out]
  omega

set_option maxHeartbeats 1000000 in
theorem n_at12 {p b off cap : Nat} {bs : List Nat} {w : World} (h : BytesAt w (some ⟨b, off, none⟩) 48 bs) (c : w.cell? ⟨p, 0, none⟩ = some (.slice (some ⟨b, off, none⟩) 48 cap)) :
    Calls Try.prog 13 #[.int .i64 12, .pointer (some ⟨p, 0, none⟩)] w fun e w' => e = .returned (.int .u32 (num4 bs 12 : Nat)) ∧ w' = w.drew := by
  have c0 : w.cell? ⟨b, off + 12, none⟩ = some (.int .u8 (bs.getD 12 0 : Nat)) := h.at_ (k := 12) (by omega)
  have l0 := h.lt 12
  have c1 : w.cell? ⟨b, off + 13, none⟩ = some (.int .u8 (bs.getD 13 0 : Nat)) := h.at_ (k := 13) (by omega)
  have l1 := h.lt 13
  have c2 : w.cell? ⟨b, off + 14, none⟩ = some (.int .u8 (bs.getD 14 0 : Nat)) := h.at_ (k := 14) (by omega)
  have l2 := h.lt 14
  have c3 : w.cell? ⟨b, off + 15, none⟩ = some (.int .u8 (bs.getD 15 0 : Nat)) := h.at_ (k := 15) (by omega)
  have l3 := h.lt 15
  have E : Hid (num4 bs 12 = ((bs.getD 12 0 * 256 + bs.getD 13 0) * 256 + bs.getD 14 0) * 256 + bs.getD 15 0) := Lib.hid rfl
  clear h
  generalize bs.getD 12 0 = v0 at *
  generalize bs.getD 13 0 = v1 at *
  generalize bs.getD 14 0 = v2 at *
  generalize bs.getD 15 0 = v3 at *
  have m0 : v0 ≤ 255 := by omega
  have m1 : v1 ≤ 255 := by omega
  have m2 : v2 ≤ 255 := by omega
  have m3 : v3 ≤ 255 := by omega
  go_enter Try.func13, Try.ntmps13
  go_wp2_with fail
  refine wp_region_quiet_one (by kernel_rfl) (by kernel_rfl) ?_
  repeat (go_big_quiet_step (fail))
  refine wpQuiet_nil ?_
  rintro _ rfl
  go_wp2
  go_ret
  refine ⟨ret_int ?_, rfl⟩
  rw [E.out]
  omega

set_option maxHeartbeats 1000000 in
theorem n_at16 {p b off cap : Nat} {bs : List Nat} {w : World} (h : BytesAt w (some ⟨b, off, none⟩) 48 bs) (c : w.cell? ⟨p, 0, none⟩ = some (.slice (some ⟨b, off, none⟩) 48 cap)) :
    Calls Try.prog 13 #[.int .i64 16, .pointer (some ⟨p, 0, none⟩)] w fun e w' => e = .returned (.int .u32 (num4 bs 16 : Nat)) ∧ w' = w.drew := by
  have c0 : w.cell? ⟨b, off + 16, none⟩ = some (.int .u8 (bs.getD 16 0 : Nat)) := h.at_ (k := 16) (by omega)
  have l0 := h.lt 16
  have c1 : w.cell? ⟨b, off + 17, none⟩ = some (.int .u8 (bs.getD 17 0 : Nat)) := h.at_ (k := 17) (by omega)
  have l1 := h.lt 17
  have c2 : w.cell? ⟨b, off + 18, none⟩ = some (.int .u8 (bs.getD 18 0 : Nat)) := h.at_ (k := 18) (by omega)
  have l2 := h.lt 18
  have c3 : w.cell? ⟨b, off + 19, none⟩ = some (.int .u8 (bs.getD 19 0 : Nat)) := h.at_ (k := 19) (by omega)
  have l3 := h.lt 19
  have E : Hid (num4 bs 16 = ((bs.getD 16 0 * 256 + bs.getD 17 0) * 256 + bs.getD 18 0) * 256 + bs.getD 19 0) := Lib.hid rfl
  clear h
  generalize bs.getD 16 0 = v0 at *
  generalize bs.getD 17 0 = v1 at *
  generalize bs.getD 18 0 = v2 at *
  generalize bs.getD 19 0 = v3 at *
  have m0 : v0 ≤ 255 := by omega
  have m1 : v1 ≤ 255 := by omega
  have m2 : v2 ≤ 255 := by omega
  have m3 : v3 ≤ 255 := by omega
  go_enter Try.func13, Try.ntmps13
  go_wp2_with fail
  refine wp_region_quiet_one (by kernel_rfl) (by kernel_rfl) ?_
  repeat (go_big_quiet_step (fail))
  refine wpQuiet_nil ?_
  rintro _ rfl
  go_wp2
  go_ret
  refine ⟨ret_int ?_, rfl⟩
  rw [E.out]
  omega

set_option maxHeartbeats 1000000 in
theorem n_at24 {p b off cap : Nat} {bs : List Nat} {w : World} (h : BytesAt w (some ⟨b, off, none⟩) 48 bs) (c : w.cell? ⟨p, 0, none⟩ = some (.slice (some ⟨b, off, none⟩) 48 cap)) :
    Calls Try.prog 13 #[.int .i64 24, .pointer (some ⟨p, 0, none⟩)] w fun e w' => e = .returned (.int .u32 (num4 bs 24 : Nat)) ∧ w' = w.drew := by
  have c0 : w.cell? ⟨b, off + 24, none⟩ = some (.int .u8 (bs.getD 24 0 : Nat)) := h.at_ (k := 24) (by omega)
  have l0 := h.lt 24
  have c1 : w.cell? ⟨b, off + 25, none⟩ = some (.int .u8 (bs.getD 25 0 : Nat)) := h.at_ (k := 25) (by omega)
  have l1 := h.lt 25
  have c2 : w.cell? ⟨b, off + 26, none⟩ = some (.int .u8 (bs.getD 26 0 : Nat)) := h.at_ (k := 26) (by omega)
  have l2 := h.lt 26
  have c3 : w.cell? ⟨b, off + 27, none⟩ = some (.int .u8 (bs.getD 27 0 : Nat)) := h.at_ (k := 27) (by omega)
  have l3 := h.lt 27
  have E : Hid (num4 bs 24 = ((bs.getD 24 0 * 256 + bs.getD 25 0) * 256 + bs.getD 26 0) * 256 + bs.getD 27 0) := Lib.hid rfl
  clear h
  generalize bs.getD 24 0 = v0 at *
  generalize bs.getD 25 0 = v1 at *
  generalize bs.getD 26 0 = v2 at *
  generalize bs.getD 27 0 = v3 at *
  have m0 : v0 ≤ 255 := by omega
  have m1 : v1 ≤ 255 := by omega
  have m2 : v2 ≤ 255 := by omega
  have m3 : v3 ≤ 255 := by omega
  go_enter Try.func13, Try.ntmps13
  go_wp2_with fail
  refine wp_region_quiet_one (by kernel_rfl) (by kernel_rfl) ?_
  repeat (go_big_quiet_step (fail))
  refine wpQuiet_nil ?_
  rintro _ rfl
  go_wp2
  go_ret
  refine ⟨ret_int ?_, rfl⟩
  rw [E.out]
  omega

theorem n_all {p b off cap : Nat} {bs : List Nat} {w : World} {i : Int} (hi : i = 4 ∨ i = 8 ∨ i = 12 ∨ i = 16 ∨ i = 24) (h : BytesAt w (some ⟨b, off, none⟩) 48 bs) (c : w.cell? ⟨p, 0, none⟩ = some (.slice (some ⟨b, off, none⟩) 48 cap)) :
    Calls Try.prog 13 #[.int .i64 i, .pointer (some ⟨p, 0, none⟩)] w fun e w' => e = .returned (.int .u32 (num4 bs i.toNat : Nat)) ∧ w' = w.drew := by
  rcases hi with rfl | rfl | rfl | rfl | rfl
  · exact n_at4 h c
  · exact n_at8 h c
  · exact n_at12 h c
  · exact n_at16 h c
  · exact n_at24 h c
end Go.Proofs.Ytbjminjcccflcaa
