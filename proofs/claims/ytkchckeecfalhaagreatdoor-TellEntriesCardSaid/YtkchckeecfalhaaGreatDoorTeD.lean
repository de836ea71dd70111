/-
  The statement's entry.
-/
import Derived.Test.YtkchckeecfalhaaGreatDoorTeC
import Derived.Test.YtkchckeecfalhaaGreatDoorTakeL
namespace Go.Proofs.YtkchckeecfalhaaGreatDoor
open Go.RowKit
attribute [local go_sem] Oper.semAt_some

/-- the statement's words -/
def leS (a : Nat) (len how nx : Int) : ByteArray :=
  if how = 0 then pS a len ++ ⟨#[32, 110, 111, 110, 101]⟩ else if how = 1 then pS a len ++ ⟨#[32, 104, 101, 114, 101]⟩ else if how = 2 then pS a len ++ ⟨#[32, 118, 105, 97, 32]⟩ ++ nS nx else if how = 3 then pS a len ++ ⟨#[32, 100, 114, 111, 112]⟩ else ⟨#[]⟩
theorem bytes_ext {a b : ByteArray} (h : a.data.toList = b.data.toList) : a = b := by
  cases a; cases b
  simp at h
  simp [h]
theorem lineS2 (p h : ByteArray) : lineS [p, h] = p ++ ⟨(32 :: h.data.toList).toArray⟩ := by
  apply bytes_ext
  simp [lineS, Lib.join, List.intercalate, ByteArray.data_append]
theorem lineS3 (p h n : ByteArray) : lineS [p, h, n] = p ++ ⟨((32 :: h.data.toList) ++ [32]).toArray⟩ ++ n := by
  apply bytes_ext
  simp [lineS, Lib.join, List.intercalate, ByteArray.data_append]
theorem enS_leS (a : Nat) (len how nx : Int) : enS a len how nx = leS a len how nx := by
  unfold enS leS
  by_cases hh : how < 0 ∨ 4 ≤ how
  · rw [if_pos hh, if_neg (by omega), if_neg (by omega), if_neg (by omega), if_neg (by omega)]
  · rw [if_neg hh]
    have hz : how = 0 ∨ how = 1 ∨ how = 2 ∨ how = 3 := by omega
    rcases hz with rfl | rfl | rfl | rfl
    · rw [if_neg (by omega), if_pos rfl, lineS2]; rfl
    · rw [if_neg (by omega), if_neg (by omega), if_pos rfl, lineS2]; rfl
    · rw [if_pos rfl, if_neg (by omega), if_neg (by omega), if_pos rfl, lineS3]; rfl
    · rw [if_neg (by omega), if_neg (by omega), if_neg (by omega), if_neg (by omega), if_pos rfl, lineS2]; rfl
set_option maxRecDepth 20000 in
set_option maxHeartbeats 2000000 in
theorem lentry_any (a : Nat) (len how nx : Int) (ha : a < 4294967296) (h0 : -9223372036854775808 ≤ nx) (h1 : nx ≤ 9223372036854775807) (w : World) (ht : Tab w) :
    Calls Tryz.prog 9 #[.agg #[.int .u32 a, .int .i64 len, .int .i64 how, .int .i64 nx]] w fun e w' => e = .returned (.string (leS a len how nx)) ∧ Below w.heap.size w w' := by
  have EB := Blk.new w 27 #[.int .u32 a, .int .i64 len, .int .i64 how, .int .i64 nx]
  have hb1 := below_new w (.cells #[.int .u32 a, .int .i64 len, .int .i64 how, .int .i64 nx] 27)
  have e0 : (w.alloc (.cells #[.int .u32 a, .int .i64 len, .int .i64 how, .int .i64 nx] 27)).cell? ⟨w.heap.size, 0, none⟩ = some (.int .u32 a) := EB.at_ 0
  have e1 : (w.alloc (.cells #[.int .u32 a, .int .i64 len, .int .i64 how, .int .i64 nx] 27)).cell? ⟨w.heap.size, 1, none⟩ = some (.int .i64 len) := EB.at_ 1
  have e2 : (w.alloc (.cells #[.int .u32 a, .int .i64 len, .int .i64 how, .int .i64 nx] 27)).cell? ⟨w.heap.size, 2, none⟩ = some (.int .i64 how) := EB.at_ 2
  have e3 : (w.alloc (.cells #[.int .u32 a, .int .i64 len, .int .i64 how, .int .i64 nx] 27)).cell? ⟨w.heap.size, 3, none⟩ = some (.int .i64 nx) := EB.at_ 3
  have HT := Lib.hid (ht.held hb1)
  have HN := Lib.hid (And.intro h0 (And.intro h1 ha))
  have HB := Lib.hid hb1
  have HP := fun W (hb : Below (w.alloc (.cells #[.int .u32 a, .int .i64 len, .int .i64 how, .int .i64 nx] 27)).heap.size (w.alloc (.cells #[.int .u32 a, .int .i64 len, .int .i64 how, .int .i64 nx] 27)) W) => string_any a len ha W ((ht.held hb1).held hb)
  obtain ⟨p, hp⟩ : ∃ p : ByteArray, ⟨(Sm.str a len).toArray⟩ = p := ⟨_, rfl⟩
  rw [hp] at HP
  have hpl : p.size ≤ 100 := by
    rw [← size_of, ← hp]
    simpa using str_len a len
  have HPp := Lib.hid hp
  have HPX := Lib.hid HP
  clear EB hb1 ht h0 h1 ha HP hp
  by_cases k0 : how = 0
  · subst k0
    have E := Lib.hid (show leS a len 0 nx = p ++ ⟨#[32, 110, 111, 110, 101]⟩ by unfold leS; rw [if_pos rfl, show pS a len = p from HPp.out])
    have HP := HPX.out _ (.refl _ _)
    go_enter Tryz.func9, Tryz.ntmps9
    go_wp2_with fail
    refine HP.mono ?_
    rintro e w3 ⟨rfl, hb3⟩
    have HB3 := Lib.hid (next HB.out hb3)
    clear hb3 HP
    go_wp2_with fail
    go_ret
    exact ⟨ret_string E.out.symm, HB3.out⟩
  by_cases k1 : how = 1
  · subst k1
    have E := Lib.hid (show leS a len 1 nx = p ++ ⟨#[32, 104, 101, 114, 101]⟩ by unfold leS; rw [if_neg (by omega), if_pos rfl, show pS a len = p from HPp.out])
    have HP := HPX.out _ (.refl _ _)
    clear k0
    go_enter Tryz.func9, Tryz.ntmps9
    go_wp2_with fail
    refine HP.mono ?_
    rintro e w3 ⟨rfl, hb3⟩
    have HB3 := Lib.hid (next HB.out hb3)
    clear hb3 HP
    go_wp2_with fail
    go_ret
    exact ⟨ret_string E.out.symm, HB3.out⟩
  by_cases k3 : how = 3
  · subst k3
    have E := Lib.hid (show leS a len 3 nx = p ++ ⟨#[32, 100, 114, 111, 112]⟩ by unfold leS; rw [if_neg (by omega), if_neg (by omega), if_neg (by omega), if_pos rfl, show pS a len = p from HPp.out])
    have HP := HPX.out _ (.refl _ _)
    clear k0 k1
    go_enter Tryz.func9, Tryz.ntmps9
    go_wp2_with fail
    refine HP.mono ?_
    rintro e w3 ⟨rfl, hb3⟩
    have HB3 := Lib.hid (next HB.out hb3)
    clear hb3 HP
    go_wp2_with fail
    go_ret
    exact ⟨ret_string E.out.symm, HB3.out⟩
  by_cases k2 : how = 2
  · subst k2
    have E := Lib.hid (show leS a len 2 nx = p ++ ⟨#[32, 118, 105, 97, 32]⟩ ++ nS nx by unfold leS; rw [if_neg (by omega), if_neg (by omega), if_pos rfl, show pS a len = p from HPp.out])
    have HP := HPX.out _ (Below.refl _ _).drew
    have HI := fun W (hb : Below (w.alloc (.cells #[.int .u32 a, .int .i64 len, .int .i64 2, .int .i64 nx] 27)).heap.size (w.alloc (.cells #[.int .u32 a, .int .i64 len, .int .i64 2, .int .i64 nx] 27)) W) => show Calls Tryz.prog 11 #[.int .i64 nx] W fun e w' => e = .returned (.string (nS nx)) ∧ Below W.heap.size W w' from (Tryz.strconv_Itoa nx HN.out.1 HN.out.2.1 W (HT.out.held hb)).mono fun _ _ ⟨he, k, os, hw⟩ => ⟨he, hw ▸ grow_below W k os⟩
    have hnl : (nS nx).size ≤ 100 := by
      rw [← size_of]
      have := nS_len nx HN.out.1 HN.out.2.1
      simp only [nS, List.toList_toArray]
      omega
    obtain ⟨N, hN⟩ : ∃ N, nS nx = N := ⟨_, rfl⟩
    rw [hN] at HI hnl E
    have HIX := Lib.hid HI
    clear k0 k1 k3 HI hN
    go_enter Tryz.func9, Tryz.ntmps9
    go_wp2_with fail
    generalize w.alloc (.cells #[.int .u32 a, .int .i64 len, .int .i64 2, .int .i64 nx] 27) = w1 at *
    have q0 : w1.drew.cell? ⟨w.heap.size, 0, none⟩ = some (.int .u32 a) := e0
    have q1 : w1.drew.cell? ⟨w.heap.size, 1, none⟩ = some (.int .i64 len) := e1
    have q3 : w1.drew.cell? ⟨w.heap.size, 3, none⟩ = some (.int .i64 nx) := e3
    refine wp_region_held_drew (S := fun u => u.cell? ⟨w.heap.size, 0, none⟩ = some (.int .u32 a) ∧ u.cell? ⟨w.heap.size, 1, none⟩ = some (.int .i64 len) ∧ u.cell? ⟨w.heap.size, 3, none⟩ = some (.int .i64 nx)) (by kernel_rfl) ⟨q0, q1, q3⟩ (fun hHeld => ?_)
    refine take_list (i := 0) (v := .pointer (some ⟨w.heap.size, 0, none⟩)) rfl (by kernel_rfl) (by kernel_rfl) (by kernel_rfl) (fun _ _ _ h => h) (.inl ⟨rfl, ?_⟩) hHeld ?_
    · (intro w hSw; go_simp)
    go_frame
    refine take_list (i := 1) (v := .agg #[.int .u32 a, .int .i64 len]) rfl (by kernel_rfl) (by kernel_rfl) (by kernel_rfl) (fun _ _ _ h => h) (.inl ⟨rfl, ?_⟩) hHeld ?_
    · (intro w hSw; go_simp)
    go_frame
    refine take_list (i := 4) (v := .pointer (some ⟨w.heap.size, 3, none⟩)) rfl (by kernel_rfl) (by kernel_rfl) (by kernel_rfl) (fun _ _ _ h => h) (.inl ⟨rfl, ?_⟩) hHeld ?_
    · (intro w hSw; go_simp)
    go_frame
    refine take_list (i := 5) (v := .int .i64 nx) rfl (by kernel_rfl) (by kernel_rfl) (by kernel_rfl) (fun _ _ _ h => h) (.inl ⟨rfl, ?_⟩) hHeld ?_
    · (intro w hSw; go_simp)
    go_frame
    refine ready_list (i := 2) rfl (by kernel_rfl) (fun K hK => ?_)
    go_simp
    refine HP.mono ?_
    rintro e w3 ⟨rfl, hb3⟩
    have HI := HIX.out _ ((Below.refl _ _).drew.trans (hb3.mono (Nat.le_refl _)))
    have HB3 := Lib.hid (next HB.out ((Below.refl _ _).drew.trans (hb3.mono (Nat.le_refl _))))
    refine hK.out _ _ ⟨held hb3 q0, held hb3 q1, held hb3 q3⟩ (fun hHeld => ?_)
    have hh3 := And.intro (held hb3 q0) (And.intro (held hb3 q1) (held hb3 q3))
    clear hK K HP
    refine take_list (i := 3) (v := .string (p ++ ⟨#[32, 118, 105, 97, 32]⟩)) rfl (by kernel_rfl) (by kernel_rfl) (by kernel_rfl) (fun _ _ _ h => h) (.inl ⟨rfl, ?_⟩) hHeld ?_
    · (intro w hSw; go_simp; omega)
    go_frame
    refine ready_list (i := 6) rfl (by kernel_rfl) (fun K hK => ?_)
    go_simp
    refine HI.mono ?_
    rintro e w4 ⟨rfl, hb4⟩
    have HB4 := Lib.hid (next HB3.out hb4)
    refine hK.out _ _ ⟨held hb4 hh3.1, held hb4 hh3.2.1, held hb4 hh3.2.2⟩ (fun hHeld => ?_)
    clear hK K HI hh3 hb3 hb4 q0 q1 q3
    refine take_list (i := 7) (v := .string (p ++ ⟨#[32, 118, 105, 97, 32]⟩ ++ N)) rfl (by kernel_rfl) (by kernel_rfl) (by kernel_rfl) (fun _ _ _ h => h) (.inl ⟨rfl, ?_⟩) hHeld ?_
    · (intro w hSw; go_simp; (try simp only [ByteArray.size_append]); (try simp); omega)
    go_frame
    refine take_list (i := 8) (v := .string (p ++ ⟨#[32, 118, 105, 97, 32]⟩ ++ N)) rfl (by kernel_rfl) (by kernel_rfl) (by kernel_rfl) (fun _ _ _ h => h) (.inl ⟨rfl, ?_⟩) hHeld ?_
    · (intro w hSw; go_simp)
    go_frame
    refine wpAnyH_done (by kernel_rfl) ?_ _
    try go_frame
    clear hHeld
    go_wp2_with fail
    go_ret
    exact ⟨ret_string E.out.symm, HB4.out⟩
  · have d0 : (how == 0) = false := beq_eq_false_iff_ne.2 k0
    have d1 : (how == 1) = false := beq_eq_false_iff_ne.2 k1
    have d2 : (how == 2) = false := beq_eq_false_iff_ne.2 k2
    have d3 : (how == 3) = false := beq_eq_false_iff_ne.2 k3
    have E := Lib.hid (show leS a len how nx = ⟨#[]⟩ by unfold leS; rw [if_neg k0, if_neg k1, if_neg k2, if_neg k3])
    clear k0 k1 k2 k3
    go_enter Tryz.func9, Tryz.ntmps9
    go_wp2_with fail
    go_ret
    exact ⟨ret_string E.out.symm, HB.out⟩
end Go.Proofs.YtkchckeecfalhaaGreatDoor
