/-
  Package router: hear.
  The contract of package tlv's Decode.
  Package router: Receive.
-/
import Derived.Test.YtkchckeecfalhaaGreatS12
import Derived.Test.YtkchckeecfalhaaGreatS09
import Derived.Lib.QuietBelow
import Derived.Test.YtkchckeecfalhaaGreatS19
import Derived.Below
import Derived.BigRegion
import Derived.Outline
import Derived.Deep.Cut
import Derived.Test.YtkchckeecfalhaaGreatS21
namespace Go.Proofs.YtkchckeecfalhaaGreat
open Go.RowKit Go.Maps Rm
attribute [local go_sem] Oper.semAt_some

/-- what a router makes of what a neighbour tells -/
def Mr.hear (M : Mr) (fr : Nat) (a : Nat) (len : Int) (id seq met : Nat) : Mr :=
  if M.owns ⟨a, len⟩ = true ∨ id = M.id then M
  else if met = 65535 then { M with f := cutR M.f ⟨a, len, fr⟩ }
  else if M.fea a len ⟨fr, id, seq, met, M.now + 3⟩ = true then { M with f := putR M.f ⟨a, len, fr⟩ ⟨fr, id, seq, met, M.now + 3⟩ }
  else match M.f ⟨a, len, fr⟩ with
    | some old => if old.id = id then M else { M with f := cutR M.f ⟨a, len, fr⟩ }
    | none => M

set_option maxRecDepth 100000 in
set_option maxHeartbeats 4000000 in
theorem rz_hear {F : List Nat} {w : World} {R room sp : Nat} {M : Mr} (h : Rz F w R room (sp + 1) M) {fr : Nat} (hfr : fr < 8) {a : Nat} {len : Int} (hp : Pk.ok ⟨a, len⟩) {id seq met : Nat} (hi : id < 4294967296) (hs : seq < 4294967296) (hm : met < 65536) :
    Calls Tryz.prog 103 #[.pointer (some ⟨R, 0, none⟩), .int .i64 fr, .agg #[.int .u32 a, .int .i64 len, .int .u32 id, .int .u32 seq, .int .u16 met]] w fun e w' => e = .returned (.tuple #[]) ∧ Goes F w R room sp (M.hear fr a len id seq met) w' := by
  have hFi := h.fits
  obtain ⟨q1, hq1⟩ : ∃ q, M.owns ⟨a, len⟩ = q := ⟨_, rfl⟩
  obtain ⟨q2, hq2⟩ : ∃ q, ((id : Int) == (M.id : Int)) = q := ⟨_, rfl⟩
  have e2 : (id = M.id) ↔ q2 = true := by rw [← hq2, beq_iff_eq]; omega
  have hb := below_new w (.cells #[.int .u32 a, .int .i64 len, .int .u32 id, .int .u32 seq, .int .u16 met] 123)
  have UB := Blk.new w 123 #[.int .u32 a, .int .i64 len, .int .u32 id, .int .u32 seq, .int .u16 met]
  have h1 := h.held hb
  have weaken : ∀ {F : List Nat} {w : World} {M : Mr}, Rz F w R room (sp + 1) M → Rz F w R room sp M := fun {F w M} h => by
    obtain ⟨o, fl, tb, j, N, n, S, Mp, dn, safe, wn, hF', hR, hD, hd, h1, h2, h3, h4, h5⟩ := h.ex
    exact ⟨o, fl, tb, j, N, n, S, Mp, dn, safe, wn, hF', hR, hD, hd, h1, h2, h3, h4, by omega⟩
  go_enter Tryz.func103, Tryz.ntmps103
  go_upto_region 1 with fail
  generalize w.alloc (.cells #[.int .u32 a, .int .i64 len, .int .u32 id, .int .u32 seq, .int .u16 met] 123) = W at *
  have hS : ∀ (d : Nat) (os : Array Obj), Calls Tryz.prog 52 #[.pointer (some ⟨R, 0, none⟩)] (Sort.grow (redrawn W d) os) fun e w' => e = .returned (.pointer (some ⟨R, 0, none⟩)) ∧ Below (Sort.grow (redrawn W d) os).heap.size (Sort.grow (redrawn W d) os) w' := fun d os => by
    obtain ⟨o, fl, tb, j, N, n, hR⟩ := (h1.held (below_regrown W d os)).rr
    exact rr_state hR
  have hO : ∀ (d : Nat) (os : Array Obj), Calls Tryz.prog 82 #[.pointer (some ⟨R, 0, none⟩), .agg #[.int .u32 a, .int .i64 len]] (Sort.grow (redrawn W d) os) fun e w' => e = .returned (.bool q1) ∧ Below (Sort.grow (redrawn W d) os).heap.size (Sort.grow (redrawn W d) os) w' := fun d os => by
    obtain ⟨o, fl, tb, j, N, n, hR⟩ := (h1.held (below_regrown W d os)).rr
    rw [← hq1]
    exact rr_owns hR hp
  have hI : ∀ (d : Nat) (os : Array Obj), Calls Tryz.prog 158 #[.pointer (some ⟨R, 0, none⟩)] (Sort.grow (redrawn W d) os) fun e w' => e = .returned (.int .u32 M.id) ∧ Below (Sort.grow (redrawn W d) os).heap.size (Sort.grow (redrawn W d) os) w' := fun d os => by
    obtain ⟨o, fl, tb, j, N, n, hR⟩ := (h1.held (below_regrown W d os)).rr
    obtain ⟨cn, cm, hnm, hS⟩ := hR.nt
    exact (id_any hS).mono fun e w' ⟨h1, h2⟩ => ⟨h1, h2 ▸ .refl _ _⟩
  have u0 := fun d os => cell_regrown (UB.at_ 0) d os
  have u1 := fun d os => cell_regrown (UB.at_ 1) d os
  have u2 := fun d os => cell_regrown (UB.at_ 2) d os
  have X := Lib.hid (And.intro h (And.intro hb (And.intro UB (And.intro h1 (And.intro hq1 (And.intro e2 (And.intro hFi hp)))))))
  clear h hb UB h1 hq1 e2 hFi hp
  cases q1 with
  | true =>
    refine wp_region_quiet_below (by kernel_rfl) (by kernel_rfl) ?_
    repeat (go_big_quiet_step (first | (go_at_call 82; exact Calls.regrown_of (hO _ _)) | (go_at_call 52; exact Calls.regrown_of (hS _ _)) | (go_at_call 158; exact Calls.regrown_of (hI _ _))))
    refine wpQuiet_nil ?_
    intro _ hw'
    obtain ⟨⟨dq, osq⟩, hw''⟩ := hw'
    subst hw''
    have hbz := X.out.2.1.trans ((below_regrown W dq osq).mono X.out.2.1.size)
    clear hS hO hI u0 u1 u2
    go_wp2_with fail
    refine bodyPost_ret (results_none rfl _ _ _) rfl ⟨rfl, ?_⟩
    unfold Mr.hear
    rw [if_pos (.inl X.out.2.2.2.2.1)]
    exact Goes.stay (weaken X.out.1) hbz
  | false =>
    refine wp_region_quiet_below (by kernel_rfl) (by kernel_rfl) ?_
    repeat (go_big_quiet_step (first | (go_at_call 82; exact Calls.regrown_of (hO _ _)) | (go_at_call 52; exact Calls.regrown_of (hS _ _)) | (go_at_call 158; exact Calls.regrown_of (hI _ _))))
    refine wpQuiet_nil ?_
    intro _ hw'
    obtain ⟨⟨dq, osq⟩, hw''⟩ := hw'
    subst hw''
    have hbz := X.out.2.1.trans ((below_regrown W dq osq).mono X.out.2.1.size)
    have hbr := below_regrown W dq osq
    clear hS hO hI u0 u1 u2
    cases q2 with
    | true =>
      clear hbr
      go_wp2_with fail
      refine bodyPost_ret (results_none rfl _ _ _) rfl ⟨rfl, ?_⟩
      unfold Mr.hear
      rw [if_pos (.inr (X.out.2.2.2.2.2.1.2 (by trivial)))]
      exact Goes.stay (weaken X.out.1) hbz
    | false =>
      have h2 := X.out.2.2.2.1.held hbr
      have UB2 := X.out.2.2.1.held hbr
      clear hbr
      generalize Sort.grow (redrawn W dq) osq = W2 at *
      have hne : ¬ (M.owns ⟨a, len⟩ = true ∨ id = M.id) := by
        rintro (h | h)
        · rw [X.out.2.2.2.2.1] at h; cases h
        · have := X.out.2.2.2.2.2.1.1 h; cases this
      have u0 := UB2.at_ 0
      have u1 := UB2.at_ 1
      have u2 := UB2.at_ 2
      have u3 := UB2.at_ 3
      have u4 := UB2.at_ 4
      obtain ⟨l, hl⟩ : ∃ l, ((met : Int) == 65535) = l := ⟨_, rfl⟩
      have HL := lost_eq (s := seq) hl W2
      have el : met = 65535 ↔ l = true := by rw [← hl, beq_iff_eq]; omega
      have Y := Lib.hid (And.intro h2 (And.intro UB2 (And.intro hbz (And.intro hne el))))
      clear h2 UB2 hbz hne el hl
      go_wp2_with fail
      refine HL.mono ?_
      rintro e w3 ⟨rfl, hb3⟩
      have UB3 := Y.out.2.1.held hb3
      have h3 := Y.out.1.held hb3
      have hle := X.out.2.1.size
      have hle2 := Y.out.2.2.1.size
      have hbz3 := Y.out.2.2.1.trans (hb3.mono hle2)
      clear HL u0 u1 u2 u3 u4 hb3
      have u0 := UB3.at_ 0
      have u1 := UB3.at_ 1
      have u2 := UB3.at_ 2
      have u3 := UB3.at_ 3
      have u4 := UB3.at_ 4
      cases l with
      | true =>
        have E := Lib.hid (show M.hear fr a len id seq met = { M with f := cutR M.f ⟨a, len, fr⟩ } by unfold Mr.hear; rw [if_neg Y.out.2.2.2.1, if_pos (Y.out.2.2.2.2.2 rfl)])
        have hkk : Rk.ok ⟨a, len, fr⟩ := ⟨X.out.2.2.2.2.2.2.2.1, X.out.2.2.2.2.2.2.2.2, by show -9223372036854775808 ≤ (fr : Int); omega, by show (fr : Int) ≤ 9223372036854775807; omega⟩
        have HD := rz_drop ((weaken h3).held (Below.refl _ _).drew) a len fr hkk
        have Z := Lib.hid hbz3
        have u0' : w3.drew.cell? ⟨w.heap.size, 0, none⟩ = some (.int .u32 a) := u0
        have u1' : w3.drew.cell? ⟨w.heap.size, 1, none⟩ = some (.int .i64 len) := u1
        clear UB3 h3 hbz3 hkk u2 u3 u4
        go_upto_region 3 with fail
        clear u0 u1
        refine wp_region_held_drew (S := fun u => u.cell? ⟨w.heap.size, 0, none⟩ = some (.int .u32 a) ∧ u.cell? ⟨w.heap.size, 1, none⟩ = some (.int .i64 len)) (by kernel_rfl) ⟨u0', u1'⟩ (fun hHeld => ?_)
        refine take_list (i := 0) (v := .pointer (some ⟨R, 0, none⟩)) rfl (by kernel_rfl) (by kernel_rfl) (by kernel_rfl) (fun _ _ _ h => h) (.inl ⟨rfl, ?_⟩) hHeld ?_
        · (intro w hSw; go_simp)
        go_frame
        refine take_list (i := 1) (v := .pointer (some ⟨R, 0, none⟩)) rfl (by kernel_rfl) (by kernel_rfl) (by kernel_rfl) (fun _ _ _ h => h) (.inl ⟨rfl, ?_⟩) hHeld ?_
        · (intro w hSw; go_simp)
        go_frame
        refine take_list (i := 2) (v := .pointer (some ⟨R, 10, none⟩)) rfl (by kernel_rfl) (by kernel_rfl) (by kernel_rfl) (fun _ _ _ h => h) (.inl ⟨rfl, ?_⟩) hHeld ?_
        · (intro w hSw; go_simp)
        go_frame
        refine take_list (i := 3) (v := .pointer (some ⟨w.heap.size, 0, none⟩)) rfl (by kernel_rfl) (by kernel_rfl) (by kernel_rfl) (fun _ _ _ h => h) (.inl ⟨rfl, ?_⟩) hHeld ?_
        · (intro w hSw; go_simp)
        go_frame
        refine take_list (i := 4) (v := .agg #[.int .u32 a, .int .i64 len]) rfl (by kernel_rfl) (by kernel_rfl) (by kernel_rfl) (fun _ _ _ h => h) (.inl ⟨rfl, ?_⟩) hHeld ?_
        · (intro w hSw; go_simp)
        go_frame
        refine take_list (i := 5) (v := .int .i64 fr) rfl (by kernel_rfl) (by kernel_rfl) (by kernel_rfl) (fun _ _ _ h => h) (.inl ⟨rfl, ?_⟩) hHeld ?_
        · (intro w hSw; go_simp)
        go_frame
        refine ready_list (i := 6) rfl (by kernel_rfl) (fun K hK => ?_)
        go_simp
        refine HD.mono ?_
        rintro e w4 ⟨rfl, hG⟩
        obtain ⟨F4, hz4, t4, n4⟩ := hG
        have hbF : w.heap.size ∉ F := fun hx => by have := X.out.1.lt hx; omega
        refine hK.out _ _ ⟨t4.cell u0' hbF, t4.cell u1' hbF⟩ (fun hHeld => ?_)
        clear hK K HD hHeld u0' u1'
        have hG3 : Goes F w R room sp _ w4 := Goes.before Z.out.drew ⟨F4, hz4, t4, n4⟩
        rw [← E.out] at hG3
        have G := Lib.hid hG3
        clear hz4 t4 n4 hG3
        refine wpAnyH_done (by kernel_rfl) ?_ _
        try go_frame
        go_wp2_with fail
        refine bodyPost_ret (results_none rfl _ _ _) rfl ⟨rfl, G.out⟩
      | false =>
        obtain ⟨o, fl, tb, j, N, n, hR⟩ := h3.rr
        have n0 : w3.cell? ⟨R, 19, none⟩ = some (.int .i64 M.now) := hR.head.at_ 19
        have hnw1 := X.out.2.2.2.2.2.2.1.now.1
        have hnw2 := X.out.2.2.2.2.2.2.1.now.2
        have hbn := below_new w3 (.cells #[.int .i64 0, .int .u32 0, .int .u32 0, .int .u16 0, .int .i64 0] 158)
        have n3 := held hbn n0
        have v0 := held hbn u0
        have v1 := held hbn u1
        have v2 := held hbn u2
        have v3 := held hbn u3
        have v4 := held hbn u4
        have Z := Lib.hid (And.intro hbz3 (And.intro h3 UB3))
        clear hbn hR h3 UB3 hbz3
        go_upto_region 4 with fail
        go_region
        have hbn2 := (below_new w3 (.cells #[.int .i64 fr, .int .u32 id, .int .u32 seq, .int .u16 met, .int .i64 (M.now + 3)] 158)).drew
        have RB := (Blk.new w3 158 #[.int .i64 fr, .int .u32 id, .int .u32 seq, .int .u16 met, .int .i64 (M.now + 3)]).drew
        have h4 := Z.out.2.1.held hbn2
        have UB4 := Z.out.2.2.held hbn2
        have hbz4 := Z.out.1.trans (hbn2.mono Z.out.1.size)
        have hrb := Z.out.1.size
        clear n0 n3 v0 v1 v2 v3 v4 u0 u1 u2 u3 u4 hbn2
        generalize (w3.alloc (.cells #[.int .i64 fr, .int .u32 id, .int .u32 seq, .int .u16 met, .int .i64 (M.now + 3)] 158)).drew = V at *
        generalize w3.heap.size = rb at *
        clear Z
        obtain ⟨q3, hq3⟩ : ∃ q, M.fea a len ⟨fr, id, seq, met, M.now + 3⟩ = q := ⟨_, rfl⟩
        obtain ⟨o4, fl4, tb4, j4, N4, nn4, hR4⟩ := h4.rr
        have HF := rr_feasible hR4 X.out.2.2.2.2.2.2.2 hi hq3
        have u0 := UB4.at_ 0
        have u1 := UB4.at_ 1
        have r0 := RB.at_ 0
        have r1 := RB.at_ 1
        have r2 := RB.at_ 2
        have r3 := RB.at_ 3
        have r4 := RB.at_ 4
        have Z := Lib.hid (And.intro h4 (And.intro UB4 (And.intro RB (And.intro hbz4 hq3))))
        clear h4 UB4 RB hbz4 hq3 hR4
        go_wp2_with fail
        refine HF.mono ?_
        rintro e w5 ⟨rfl, hb5⟩
        have h5 := (Z.out.1.held hb5).held (Below.refl _ _).drew
        have UB5 := (Z.out.2.1.held hb5).drew
        have RB5 := (Z.out.2.2.1.held hb5).drew
        have hbz5 := (Z.out.2.2.2.1.trans (hb5.mono (Nat.le_trans hrb (Nat.le_of_lt Z.out.2.2.1.lt)))).drew
        have hkk : Rk.ok ⟨a, len, fr⟩ := ⟨X.out.2.2.2.2.2.2.2.1, X.out.2.2.2.2.2.2.2.2, by show -9223372036854775808 ≤ (fr : Int); omega, by show (fr : Int) ≤ 9223372036854775807; omega⟩
        have hbF : w.heap.size ∉ F := fun hx => by have := X.out.1.lt hx; omega
        have hrF : rb ∉ F := fun hx => by have := X.out.1.lt hx; omega
        clear HF u0 u1 r0 r1 r2 r3 r4 hb5
        have u0 := UB5.at_ 0
        have u1 := UB5.at_ 1
        cases q3 with
        | true =>
          have hm1 : ¬ met = 65535 := fun h => by have := Y.out.2.2.2.2.1 h; cases this
          have E := Lib.hid (show M.hear fr a len id seq met = { M with f := putR M.f ⟨a, len, fr⟩ ⟨fr, id, seq, met, M.now + 3⟩ } by unfold Mr.hear; rw [if_neg Y.out.2.2.2.1, if_neg hm1, if_pos Z.out.2.2.2.2])
          have HS : Calls Tryz.prog 160 #[.pointer (some ⟨R, 10, none⟩), .agg #[.int .u32 a, .int .i64 len], .agg #[.int .i64 fr, .int .u32 id, .int .u32 seq, .int .u16 met, .int .i64 (M.now + 3)]] w5.drew _ := rz_set h5 a len ⟨fr, id, seq, met, M.now + 3⟩ hkk ⟨⟨hkk.2.2.1, hkk.2.2.2⟩, hi, hs, hm, by show -9223372036854775808 ≤ M.now + 3; omega, by show M.now + 3 ≤ 9223372036854775807; omega⟩
          have r0 : w5.drew.cell? ⟨rb, 0, none⟩ = some (.int .i64 fr) := RB5.at_ 0
          have r1 : w5.drew.cell? ⟨rb, 1, none⟩ = some (.int .u32 id) := RB5.at_ 1
          have r2 : w5.drew.cell? ⟨rb, 2, none⟩ = some (.int .u32 seq) := RB5.at_ 2
          have r3 : w5.drew.cell? ⟨rb, 3, none⟩ = some (.int .u16 met) := RB5.at_ 3
          have r4 : w5.drew.cell? ⟨rb, 4, none⟩ = some (.int .i64 (M.now + 3)) := RB5.at_ 4
          have B := Lib.hid hbz5
          clear h5 UB5 RB5 hbz5 hkk hm1
          go_upto_region 6 with fail
          refine wp_region_held_drew (S := fun u => u.cell? ⟨w.heap.size, 0, none⟩ = some (.int .u32 a) ∧ u.cell? ⟨w.heap.size, 1, none⟩ = some (.int .i64 len) ∧ u.cell? ⟨rb, 0, none⟩ = some (.int .i64 fr) ∧ u.cell? ⟨rb, 1, none⟩ = some (.int .u32 id) ∧ u.cell? ⟨rb, 2, none⟩ = some (.int .u32 seq) ∧ u.cell? ⟨rb, 3, none⟩ = some (.int .u16 met) ∧ u.cell? ⟨rb, 4, none⟩ = some (.int .i64 (M.now + 3))) (by kernel_rfl) ⟨u0, u1, r0, r1, r2, r3, r4⟩ (fun hHeld => ?_)
          refine take_list (i := 0) (v := .pointer (some ⟨R, 0, none⟩)) rfl (by kernel_rfl) (by kernel_rfl) (by kernel_rfl) (fun _ _ _ h => h) (.inl ⟨rfl, ?_⟩) hHeld ?_
          · (intro w hSw; go_simp)
          go_frame
          refine take_list (i := 1) (v := .pointer (some ⟨R, 0, none⟩)) rfl (by kernel_rfl) (by kernel_rfl) (by kernel_rfl) (fun _ _ _ h => h) (.inl ⟨rfl, ?_⟩) hHeld ?_
          · (intro w hSw; go_simp)
          go_frame
          refine take_list (i := 2) (v := .pointer (some ⟨R, 10, none⟩)) rfl (by kernel_rfl) (by kernel_rfl) (by kernel_rfl) (fun _ _ _ h => h) (.inl ⟨rfl, ?_⟩) hHeld ?_
          · (intro w hSw; go_simp)
          go_frame
          refine take_list (i := 3) (v := .pointer (some ⟨w.heap.size, 0, none⟩)) rfl (by kernel_rfl) (by kernel_rfl) (by kernel_rfl) (fun _ _ _ h => h) (.inl ⟨rfl, ?_⟩) hHeld ?_
          · (intro w hSw; go_simp)
          go_frame
          refine take_list (i := 4) (v := .agg #[.int .u32 a, .int .i64 len]) rfl (by kernel_rfl) (by kernel_rfl) (by kernel_rfl) (fun _ _ _ h => h) (.inl ⟨rfl, ?_⟩) hHeld ?_
          · (intro w hSw; go_simp)
          go_frame
          refine take_list (i := 5) (v := .agg #[.int .i64 fr, .int .u32 id, .int .u32 seq, .int .u16 met, .int .i64 (M.now + 3)]) rfl (by kernel_rfl) (by kernel_rfl) (by kernel_rfl) (fun _ _ _ h => h) (.inl ⟨rfl, ?_⟩) hHeld ?_
          · (intro w hSw; go_simp)
          go_frame
          refine ready_list (i := 6) rfl (by kernel_rfl) (fun K hK => ?_)
          go_simp
          refine HS.mono ?_
          rintro e w6 ⟨rfl, hG⟩
          obtain ⟨F4, hz4, t4, n4⟩ := hG
          refine hK.out _ _ ⟨t4.cell u0 hbF, t4.cell u1 hbF, t4.cell r0 hrF, t4.cell r1 hrF, t4.cell r2 hrF, t4.cell r3 hrF, t4.cell r4 hrF⟩ (fun hHeld => ?_)
          clear hK K HS hHeld u0 u1 r0 r1 r2 r3 r4
          have hG3 : Goes F w R room sp _ w6 := Goes.before B.out ⟨F4, hz4, t4, n4⟩
          have hG4 : Goes F w R room sp (M.hear fr a len id seq met) w6 := by rw [E.out]; exact hG3
          have G := Lib.hid hG4
          clear hz4 t4 n4 hG3 hG4
          refine wpAnyH_done (by kernel_rfl) ?_ _
          try go_frame
          go_wp2_with fail
          refine bodyPost_ret (results_none rfl _ _ _) rfl ⟨rfl, G.out⟩
        | false =>
          have hm1 : ¬ met = 65535 := fun h => by have := Y.out.2.2.2.2.1 h; cases this
          have hf1 : ¬ M.fea a len ⟨fr, id, seq, met, M.now + 3⟩ = true := by rw [Z.out.2.2.2.2]; decide
          have E : M.hear fr a len id seq met = match M.f ⟨a, len, fr⟩ with
              | some old => if old.id = id then M else { M with f := cutR M.f ⟨a, len, fr⟩ }
              | none => M := by unfold Mr.hear; rw [if_neg Y.out.2.2.2.1, if_neg hm1, if_neg hf1]
          obtain ⟨o5, fl5, tb5, j5, n5, hT5, hn5, -⟩ := h5.tab
          obtain ⟨ok, hok⟩ : ∃ ok, (M.f ⟨a, len, fr⟩).isSome = ok := ⟨_, rfl⟩
          obtain ⟨⟨f1, i1, s1, m1, e1⟩, hr⟩ : ∃ r, (M.f ⟨a, len, fr⟩).getD Rt.zero = r := ⟨_, rfl⟩
          have HGt : ∀ u, Below w5.drew.heap.size w5.drew u → Calls Tryz.prog 161 #[.pointer (some ⟨R, 10, none⟩), .agg #[.int .u32 a, .int .i64 len], .int .i64 fr] u fun e w' => e = .returned (.tuple #[.agg #[.int .i64 f1, .int .u32 i1, .int .u32 s1, .int .u16 m1, .int .i64 e1], .bool ok]) ∧ Below u.heap.size u w' := fun u hb => rt_get (hT5.held hb) a len fr hkk hr hok
          have hul := UB5.lt
          have B := Lib.hid (And.intro h5 (And.intro UB5 (And.intro hbz5 (And.intro hkk (And.intro hok (And.intro hr E))))))
          clear h5 UB5 RB5 hbz5 hkk hm1 hf1 hok hr E hT5 hn5
          go_upto_region 7 with fail
          refine wp_region_held_drew (S := fun u => u.cell? ⟨w.heap.size, 0, none⟩ = some (.int .u32 a) ∧ u.cell? ⟨w.heap.size, 1, none⟩ = some (.int .i64 len)) (by kernel_rfl) ⟨u0, u1⟩ (fun hHeld => ?_)
          refine take_list (i := 0) (v := .pointer (some ⟨R, 0, none⟩)) rfl (by kernel_rfl) (by kernel_rfl) (by kernel_rfl) (fun _ _ _ h => h) (.inl ⟨rfl, ?_⟩) hHeld ?_
          · (intro w hSw; go_simp)
          go_frame
          refine take_list (i := 1) (v := .pointer (some ⟨R, 0, none⟩)) rfl (by kernel_rfl) (by kernel_rfl) (by kernel_rfl) (fun _ _ _ h => h) (.inl ⟨rfl, ?_⟩) hHeld ?_
          · (intro w hSw; go_simp)
          go_frame
          refine take_list (i := 2) (v := .pointer (some ⟨R, 10, none⟩)) rfl (by kernel_rfl) (by kernel_rfl) (by kernel_rfl) (fun _ _ _ h => h) (.inl ⟨rfl, ?_⟩) hHeld ?_
          · (intro w hSw; go_simp)
          go_frame
          refine take_list (i := 3) (v := .pointer (some ⟨w.heap.size, 0, none⟩)) rfl (by kernel_rfl) (by kernel_rfl) (by kernel_rfl) (fun _ _ _ h => h) (.inl ⟨rfl, ?_⟩) hHeld ?_
          · (intro w hSw; go_simp)
          go_frame
          refine take_list (i := 4) (v := .agg #[.int .u32 a, .int .i64 len]) rfl (by kernel_rfl) (by kernel_rfl) (by kernel_rfl) (fun _ _ _ h => h) (.inl ⟨rfl, ?_⟩) hHeld ?_
          · (intro w hSw; go_simp)
          go_frame
          refine take_list (i := 5) (v := .int .i64 fr) rfl (by kernel_rfl) (by kernel_rfl) (by kernel_rfl) (fun _ _ _ h => h) (.inl ⟨rfl, ?_⟩) hHeld ?_
          · (intro w hSw; go_simp)
          go_frame
          refine ready_two (i := 6) (i' := 10) rfl rfl (by kernel_rfl) (fun K hK => ?br1) (fun K hK => ?br2)
          case' br1 =>
            go_simp
            refine (HGt _ (.refl _ _)).mono ?_
            rintro e w6 ⟨rfl, hb6⟩
            have s0 := held hb6 u0
            have s1' := held hb6 u1
            refine hK.out _ _ ⟨s0, s1'⟩ (fun hHeld => ?_)
            clear hK K
            refine take_list (i := 7) (v := .tuple #[.agg #[.int .i64 f1, .int .u32 i1, .int .u32 s1, .int .u16 m1, .int .i64 e1], .bool ok]) rfl (by kernel_rfl) (by kernel_rfl) (by kernel_rfl) (fun _ _ _ h => h) (.inl ⟨rfl, ?_⟩) hHeld ?_
            · (intro w hSw; go_simp)
            go_frame
            refine take_list (i := 8) (v := .agg #[.int .i64 f1, .int .u32 i1, .int .u32 s1, .int .u16 m1, .int .i64 e1]) rfl (by kernel_rfl) (by kernel_rfl) (by kernel_rfl) (fun _ _ _ h => h) (.inl ⟨rfl, ?_⟩) hHeld ?_
            · (intro w hSw; go_simp)
            go_frame
            refine take_list (i := 9) (v := .bool ok) rfl (by kernel_rfl) (by kernel_rfl) (by kernel_rfl) (fun _ _ _ h => h) (.inl ⟨rfl, ?_⟩) hHeld ?_
            · (intro w hSw; go_simp)
            go_frame
            refine ready_list (i := 10) rfl (by kernel_rfl) (fun K hK => ?_)
            go_simp
            have hb7 := next hb6 (below_new w6 (.cells #[.int .i64 0, .int .u32 0, .int .u32 0, .int .u16 0, .int .i64 0] 158))
            have t0 := held hb7 u0
            have t1 := held hb7 u1
            refine hK.out _ _ ⟨t0, t1⟩ (fun hHeld => ?_)
            clear hK K
            have BZ := Blk.new w6 158 #[.int .i64 0, .int .u32 0, .int .u32 0, .int .u16 0, .int .i64 0]
            have hq : w.heap.size < w6.heap.size := Nat.lt_of_lt_of_le hul hb6.size
            generalize w6.alloc (.cells #[.int .i64 0, .int .u32 0, .int .u32 0, .int .u16 0, .int .i64 0] 158) = w7 at *
            generalize w6.heap.size = q at *
            clear hb6 s0 s1'
          case' br2 =>
            go_simp
            have hb6 := below_new w5.drew (.cells #[.int .i64 0, .int .u32 0, .int .u32 0, .int .u16 0, .int .i64 0] 158)
            have s0 := held hb6 u0
            have s1' := held hb6 u1
            refine hK.out _ _ ⟨s0, s1'⟩ (fun hHeld => ?_)
            clear hK K
            have BZ0 := Blk.new w5.drew 158 #[.int .i64 0, .int .u32 0, .int .u32 0, .int .u16 0, .int .i64 0]
            refine ready_list (i := 6) rfl (by kernel_rfl) (fun K hK => ?_)
            go_simp
            refine (HGt _ hb6).mono ?_
            rintro e w7 ⟨rfl, hb7'⟩
            have hb7 := next hb6 hb7'
            have t0 := held hb7 u0
            have t1 := held hb7 u1
            have BZ := BZ0.held hb7'
            refine hK.out _ _ ⟨t0, t1⟩ (fun hHeld => ?_)
            clear hK K s0 s1' BZ0 hb7' hb6
            refine take_list (i := 7) (v := .tuple #[.agg #[.int .i64 f1, .int .u32 i1, .int .u32 s1, .int .u16 m1, .int .i64 e1], .bool ok]) rfl (by kernel_rfl) (by kernel_rfl) (by kernel_rfl) (fun _ _ _ h => h) (.inl ⟨rfl, ?_⟩) hHeld ?_
            · (intro w hSw; go_simp)
            go_frame
            refine take_list (i := 8) (v := .agg #[.int .i64 f1, .int .u32 i1, .int .u32 s1, .int .u16 m1, .int .i64 e1]) rfl (by kernel_rfl) (by kernel_rfl) (by kernel_rfl) (fun _ _ _ h => h) (.inl ⟨rfl, ?_⟩) hHeld ?_
            · (intro w hSw; go_simp)
            go_frame
            refine take_list (i := 9) (v := .bool ok) rfl (by kernel_rfl) (by kernel_rfl) (by kernel_rfl) (fun _ _ _ h => h) (.inl ⟨rfl, ?_⟩) hHeld ?_
            · (intro w hSw; go_simp)
            go_frame
            replace BZ : Blk 158 w7 w5.heap.size #[.int .i64 0, .int .u32 0, .int .u32 0, .int .u16 0, .int .i64 0] := BZ
            have hq : w.heap.size < w5.heap.size := hul
            obtain ⟨q, hqe⟩ : ∃ q, w5.heap.size = q := ⟨_, rfl⟩
            rw [hqe] at BZ hq
            try rw [hqe]
            clear hqe
          all_goals
            have z0 := BZ.at_ 0
            have z1 := BZ.at_ 1
            have z2 := BZ.at_ 2
            have z3 := BZ.at_ 3
            have z4 := BZ.at_ 4
            have y0 := BZ.free 0
            have y1 := BZ.free 1
            have y2 := BZ.free 2
            have y3 := BZ.free 3
            have y4 := BZ.free 4
            refine ready_list (i := 11) rfl (by kernel_rfl) (fun K hK => ?_)
            go_simp
            have T8 : Turn [q] w7 (((((w7.setCell ⟨q, 0, none⟩ (.int .i64 f1)).setCell ⟨q, 1, none⟩ (.int .u32 i1)).setCell ⟨q, 2, none⟩ (.int .u32 s1)).setCell ⟨q, 3, none⟩ (.int .u16 m1)).setCell ⟨q, 4, none⟩ (.int .i64 e1)) := ((((Turn.setCell _ (by simp) _).trans (Turn.setCell _ (by simp) _)).trans (Turn.setCell _ (by simp) _)).trans (Turn.setCell _ (by simp) _)).trans (Turn.setCell _ (by simp) _)
            have x0 := T8.cell t0 (by simp; omega)
            have x1 := T8.cell t1 (by simp; omega)
            refine hK.out _ _ ⟨x0, x1⟩ (fun hHeld => ?_)
            clear hK K
            have OB : Blk 158 (((((w7.setCell ⟨q, 0, none⟩ (.int .i64 f1)).setCell ⟨q, 1, none⟩ (.int .u32 i1)).setCell ⟨q, 2, none⟩ (.int .u32 s1)).setCell ⟨q, 3, none⟩ (.int .u16 m1)).setCell ⟨q, 4, none⟩ (.int .i64 e1)) q #[.int .i64 f1, .int .u32 i1, .int .u32 s1, .int .u16 m1, .int .i64 e1] := ((((BZ.store 0 (.int .i64 f1)).store 1 (.int .u32 i1)).store 2 (.int .u32 s1)).store 3 (.int .u16 m1)).store 4 (.int .i64 e1)
            have UB8 := (B.out.2.1.held hb7).turn T8 (by simp; omega)
            have h8 := (B.out.1.held hb7).turn T8 (fun x hx => by have := X.out.1.lt hx; simp; omega)
            have hbz8 := (B.out.2.2.1.trans (hb7.mono (Nat.le_of_lt hul))).trans (T8.below (B := w.heap.size) (fun i hi => by simp at hi; omega) (Nat.le_trans (Nat.le_of_lt hul) hb7.size))
            clear z0 z1 z2 z3 z4 y0 y1 y2 y3 y4 T8 t0 t1 BZ hb7 u0 u1 HGt
            generalize (((((w7.setCell ⟨q, 0, none⟩ (.int .i64 f1)).setCell ⟨q, 1, none⟩ (.int .u32 i1)).setCell ⟨q, 2, none⟩ (.int .u32 s1)).setCell ⟨q, 3, none⟩ (.int .u16 m1)).setCell ⟨q, 4, none⟩ (.int .i64 e1)) = w8 at *
            refine ready_list (i := 12) rfl (by kernel_rfl) (fun K hK => ?_)
            go_simp
            refine hK.out _ _ ⟨x0, x1⟩ (fun hHeld => ?_)
            clear hK K
            refine wpAnyH_done (by kernel_rfl) ?_ _
            try go_frame
            clear x0 x1 hHeld
            have C := Lib.hid (And.intro UB8 (And.intro h8 hbz8))
            clear UB8 h8 hbz8
            cases ok with
            | false =>
              have E := B.out.2.2.2.2.2.2
              cases hfk : M.f ⟨a, len, fr⟩ with
              | some r => have := B.out.2.2.2.2.1; rw [hfk] at this; cases this
              | none =>
                rw [hfk] at E
                have G : Hid (Goes F w R room sp (M.hear fr a len id seq met) w8) := Lib.hid (by rw [E]; exact Goes.stay (weaken X.out.1) C.out.2.2)
                clear E hfk OB
                go_wp2_with fail
                refine bodyPost_end (v := .tuple #[]) (results_none rfl _ _ _) rfl ⟨rfl, G.out⟩
            | true =>
              have E := B.out.2.2.2.2.2.2
              cases hfk : M.f ⟨a, len, fr⟩ with
              | none => have := B.out.2.2.2.2.1; rw [hfk] at this; cases this
              | some r =>
                have e0 : r = ⟨f1, i1, s1, m1, e1⟩ := by have := B.out.2.2.2.2.2.1; rw [hfk] at this; exact this
                subst e0
                rw [hfk] at E
                dsimp only at E
                obtain ⟨q5, hq5⟩ : ∃ q, ((i1 : Int) != (id : Int)) = q := ⟨_, rfl⟩
                have e5 : i1 = id ↔ q5 = false := by rw [← hq5, bne_eq_false_iff_eq]; omega
                have EE := Lib.hid (And.intro E e5)
                have o1 := OB.at_ 1
                have v2 := C.out.1.at_ 2
                clear E e5 hfk OB
                cases q5 with
                | false =>
                  have G : Hid (Goes F w R room sp (M.hear fr a len id seq met) w8) := Lib.hid (by rw [EE.out.1, if_pos (EE.out.2.2 (by trivial))]; exact Goes.stay (weaken X.out.1) C.out.2.2)
                  go_wp2_with fail
                  refine bodyPost_end (v := .tuple #[]) (results_none rfl _ _ _) rfl ⟨rfl, G.out⟩
                | true =>
                  have E := Lib.hid (show M.hear fr a len id seq met = { M with f := cutR M.f ⟨a, len, fr⟩ } by rw [EE.out.1, if_neg (fun h => by have := EE.out.2.1 h; cases this)])
                  have HD := rz_drop ((weaken C.out.2.1).held (Below.refl _ _).drew) a len fr B.out.2.2.2.1
                  have u0' : w8.drew.cell? ⟨w.heap.size, 0, none⟩ = some (.int .u32 a) := C.out.1.at_ 0
                  have u1' : w8.drew.cell? ⟨w.heap.size, 1, none⟩ = some (.int .i64 len) := C.out.1.at_ 1
                  go_upto_region 9 with fail
                  clear o1 v2
                  refine wp_region_held_drew (S := fun u => u.cell? ⟨w.heap.size, 0, none⟩ = some (.int .u32 a) ∧ u.cell? ⟨w.heap.size, 1, none⟩ = some (.int .i64 len)) (by kernel_rfl) ⟨u0', u1'⟩ (fun hHeld => ?_)
                  refine take_list (i := 0) (v := .pointer (some ⟨R, 0, none⟩)) rfl (by kernel_rfl) (by kernel_rfl) (by kernel_rfl) (fun _ _ _ h => h) (.inl ⟨rfl, ?_⟩) hHeld ?_
                  · (intro w hSw; go_simp)
                  go_frame
                  refine take_list (i := 1) (v := .pointer (some ⟨R, 0, none⟩)) rfl (by kernel_rfl) (by kernel_rfl) (by kernel_rfl) (fun _ _ _ h => h) (.inl ⟨rfl, ?_⟩) hHeld ?_
                  · (intro w hSw; go_simp)
                  go_frame
                  refine take_list (i := 2) (v := .pointer (some ⟨R, 10, none⟩)) rfl (by kernel_rfl) (by kernel_rfl) (by kernel_rfl) (fun _ _ _ h => h) (.inl ⟨rfl, ?_⟩) hHeld ?_
                  · (intro w hSw; go_simp)
                  go_frame
                  refine take_list (i := 3) (v := .pointer (some ⟨w.heap.size, 0, none⟩)) rfl (by kernel_rfl) (by kernel_rfl) (by kernel_rfl) (fun _ _ _ h => h) (.inl ⟨rfl, ?_⟩) hHeld ?_
                  · (intro w hSw; go_simp)
                  go_frame
                  refine take_list (i := 4) (v := .agg #[.int .u32 a, .int .i64 len]) rfl (by kernel_rfl) (by kernel_rfl) (by kernel_rfl) (fun _ _ _ h => h) (.inl ⟨rfl, ?_⟩) hHeld ?_
                  · (intro w hSw; go_simp)
                  go_frame
                  refine take_list (i := 5) (v := .int .i64 fr) rfl (by kernel_rfl) (by kernel_rfl) (by kernel_rfl) (fun _ _ _ h => h) (.inl ⟨rfl, ?_⟩) hHeld ?_
                  · (intro w hSw; go_simp)
                  go_frame
                  refine ready_list (i := 6) rfl (by kernel_rfl) (fun K hK => ?_)
                  go_simp
                  refine HD.mono ?_
                  rintro e w9 ⟨rfl, hG⟩
                  obtain ⟨F4, hz4, t4, n4⟩ := hG
                  refine hK.out _ _ ⟨t4.cell u0' hbF, t4.cell u1' hbF⟩ (fun hHeld => ?_)
                  clear hK K HD hHeld u0' u1'
                  have hG3 : Goes F w R room sp _ w9 := Goes.before C.out.2.2.drew ⟨F4, hz4, t4, n4⟩
                  rw [← E.out] at hG3
                  have G := Lib.hid hG3
                  clear hz4 t4 n4 hG3
                  refine wpAnyH_done (by kernel_rfl) ?_ _
                  try go_frame
                  go_wp2_with fail
                  refine bodyPost_end (v := .tuple #[]) (results_none rfl _ _ _) rfl ⟨rfl, G.out⟩
end Go.Proofs.YtkchckeecfalhaaGreat

set_option maxRecDepth 20000
namespace Go.Proofs.YtkchckeecfalhaaGreat.T
open Go.RowKit Tm

/-- while the parts are gone through -/
def DecR (w : World) (D : Option (List Up)) (lv iv rv : Value) (wr : World) : Prop :=
  ∃ (us : List Up) (id : Nat) (A : Option Addr) (k cap : Nat) (x : List Nat), iv = .int .u32 id ∧ rv = .slice A k cap ∧ id < 4294967296 ∧ Sl w A k cap x ∧ Lu w.heap.size lv us wr ∧ D = (walk id x).map (us ++ ·) ∧ Below w.heap.size w wr ∧ us.length + k ≤ 1024
def lenOf : Value → Nat
  | .slice _ k _ => k
  | _ => 0
theorem told_eq {A : Option Addr} {n cap : Nat} {bs : List Nat} {w : World} (h : Sl w A n cap bs) {id : Nat} :
    ∃ u : Up, ∃ r : Bool, (Calls Tryz.prog 101 #[.slice A n cap, .int .u32 id] w fun e w' => e = .returned (.tuple #[.agg (ucs u.a u.len u.id u.seq u.met), .bool r]) ∧ Below w.heap.size w w') ∧ (told bs id).toList = if r then [u] else [] := by
  cases hf : fits bs
  · exact ⟨⟨0, 0, 0, 0, 0⟩, false, told_short h hf id, by rw [told_no hf]; rfl⟩
  · refine ⟨upOf bs id, right (upOf bs id), told_long h hf rfl rfl, ?_⟩
    rw [told_yes hf]
    cases right (upOf bs id) <;> rfl
theorem cut_high_run (b off n cap k : Nat) (hk : k ≤ cap) (w : World) {z : Int} (hz : z = k) (h0 : 0 < cap) :
    (Instr.slice 79 (.slice (some ⟨b, off, none⟩) n cap) none (some (.int .i64 z)) none).run Tryz.prog w = .ok (.slice (some ⟨b, off, none⟩) k cap) w := by
  have d1 : (k : Int) ≤ (cap : Int) := by omega
  have d2 : ¬ cap = 0 := by omega
  subst hz
  go_simp
set_option maxHeartbeats 4000000 in
theorem decode_any {A : Option Addr} {n cap : Nat} {bs : List Nat} {w : World} (h : Sl w A n cap bs) {D : Option (List Up)} (hD : Tm.decode bs = D) :
    Calls Tryz.prog 56 #[.slice A n cap] w fun e w' => Below w.heap.size w w' ∧ ((D = none ∧ e = .returned (.tuple #[.slice none 0 0, .bool false])) ∨ ∃ us v, D = some us ∧ e = .returned (.tuple #[v, .bool true]) ∧ Lu w.heap.size v us w') := by
  have hl := h.bytes.1
  have hmx := h.bytes.2.1
  have hcap := h.cap
  have hmx' : n ≤ 9223372036854775807 := by unfold maxLen at hmx; omega
  clear hmx
  cases hh : headed bs
  · have HC := headed_any h hh
    have E : Hid (D = none) := Lib.hid (by rw [← hD]; unfold Tm.decode; rw [hh]; rfl)
    clear h hD hh hl
    go_enter Tryz.func56, Tryz.ntmps56
    go_wp2_with fail
    refine HC.mono ?_
    rintro e w' ⟨rfl, rfl⟩
    go_wp2_with fail
    go_ret2
    exact ⟨Below.refl _ _, .inl ⟨E.out, rfl⟩⟩
  · have HC := headed_any h hh
    have hw : D = walk 0 (bs.drop 4) := by rw [← hD]; unfold Tm.decode; rw [hh]; rfl
    have hh' := hh
    unfold headed at hh'
    rw [decide_eq_true_eq, hl] at hh'
    obtain ⟨h4, h1024, -⟩ := hh'
    obtain ⟨A4, s4, hS4, -⟩ := cut_low h (k := 4) h4 (z := 4) rfl
    obtain ⟨m4, hm4⟩ : ∃ m4, m4 = n - 4 := ⟨_, rfl⟩
    obtain ⟨c4, hc4⟩ : ∃ c4, c4 = cap - 4 := ⟨_, rfl⟩
    rw [← hm4, ← hc4] at s4 hS4
    have h0 : DecR w D (.slice none 0 0) (.int .u32 (0 : Nat)) (.slice A4 m4 c4) w := ⟨[], 0, A4, m4, c4, bs.drop 4, rfl, rfl, by omega, hS4, Lu.nil _ _, by rw [hw]; cases walk 0 (bs.drop 4) <;> simp, Below.refl _ _, by simp; omega⟩
    have H0 := Lib.hid h0
    clear h hD hh hl hw h4 h1024 hS4 hm4 hc4 h0 hcap hmx'
    go_enter Tryz.func56, Tryz.ntmps56
    go_wp2_with fail
    refine HC.mono ?_
    rintro e w' ⟨rfl, rfl⟩
    clear HC
    go_wp2_with fail
    clear s4
    go_loopw [4, 5, 6] (fun lv iv rv wr => DecR w D lv iv rv wr) (fun _ _ rv _ => lenOf rv)
    case atStart => exact H0.out
    case round =>
      clear H0
      obtain ⟨us, id, A5, k, c5, x, rfl, rfl, hid, hS, hU, hw, hB, hbig⟩ := hrel
      have hl := hS.bytes.1
      have hck := hS.cap
      by_cases hk : 0 < k
      · obtain ⟨b, off, rfl⟩ := hS.plain hk
        have hx0 : 0 < x.length := by omega
        obtain ⟨⟨m, r⟩, hp⟩ : ∃ q, q = pb x := ⟨_, rfl⟩
        have hp := hp.symm
        have HP := partBytes_any (hS.held hB) hk hp
        cases r
        · have E := Lib.hid (And.intro hB (show D = none by rw [hw, pb_false hx0 hp]; rfl))
          clear hS hU hw hB hp hbig
          go_wp2_with fail
          refine HP.mono ?_
          rintro e w' ⟨rfl, rfl⟩
          go_wp2_with fail
          go_ret2
          exact ⟨E.out.1, .inl ⟨E.out.2, rfl⟩⟩
        · obtain ⟨hm1, hmk, hm2⟩ := pb_true hx0 hp
          rw [hl] at hmk
          have hW := walk_pb (id := id) hx0 hp
          have hSp := hS.part 0 m (by omega)
          rw [List.drop_zero, Nat.add_zero, Nat.sub_zero] at hSp
          have s1 := cut_high_run b off k c5 m (by omega) wr (z := (m : Int)) rfl (by omega)
          obtain ⟨A2, hA2⟩ : ∃ A2 : Option Addr, A2 = if c5 = m then some ⟨b, off, none⟩ else (some (⟨b, off, none⟩ : Addr)).map (·.add m) := ⟨_, rfl⟩
          obtain ⟨k2, hk2⟩ : ∃ k2, k2 = k - m := ⟨_, rfl⟩
          obtain ⟨c2', hc2⟩ : ∃ c2', c2' = c5 - m := ⟨_, rfl⟩
          have s2 := cut_low_run (some ⟨b, off, none⟩) k c5 m hmk hck wr (z := (m : Int)) rfl hA2 hk2 hc2
          have hSr : Sl w A2 k2 c2' (x.drop m) := by
            have := hS.of_part (k := m) (m := k2) (cap' := c2') (by omega) (by omega) hA2
            rwa [List.take_of_length_le (by rw [List.length_drop, hl]; omega)] at this
          have c0 : wr.cell? ⟨b, off, none⟩ = some (.int .u8 (x.getD 0 0 : Nat)) := (hS.held hB).at_ (k := 0) hk
          have hxl := hS.bytes.lt 0
          rw [hW] at hw
          have hlt : k2 < k := by omega
          have hsum : us.length + 1 + k2 ≤ 1024 ∨ m = 1 := by omega
          have hsum0 : us.length + k2 ≤ 1024 := by omega
          clear hW hS hp hx0 hl hA2 hk2 hc2
          generalize hxe : x.getD 0 0 = x0 at *
          clear hxe
          by_cases e2 : x0 = 2
          · subst e2
            have d2 : ((2 : Nat) : Int) = 2 := rfl
            rw [d2] at c0
            by_cases e6 : m = 6
            · have d6 : ((m : Int) == 6) = true := beq_iff_eq.2 (by omega)
              have hb4 : ((x.take m).drop 2).length = 4 := by have := hSp.bytes.1; rw [List.length_drop, this, e6]
              have hn : named 2 ((x.take m).drop 2) id = Tm.val ((x.take m).drop 2) := by unfold named; rw [if_pos ⟨rfl, hb4⟩]
              have hs : says 2 ((x.take m).drop 2) id = [] := rfl
              have hv : Tm.val ((x.take m).drop 2) < 4294967296 := Tm.val_lt 4 _ (by omega) (fun c hc => hSp.bytes.2.2.1 c (List.mem_of_mem_drop hc))
              rw [hn, hs] at hw
              obtain ⟨m3, hm3⟩ : ∃ m3, m3 = m - 2 := ⟨_, rfl⟩
              obtain ⟨c3, hc3⟩ : ∃ c3, c3 = c5 - 2 := ⟨_, rfl⟩
              obtain ⟨o3, ho3⟩ : ∃ o3, o3 = off + 2 := ⟨_, rfl⟩
              have s3 := cut_low_run (some ⟨b, off, none⟩) m c5 2 (by omega) (by omega) wr (z := 2) rfl (A' := some ⟨b, o3, none⟩) (by rw [if_neg (by omega), ho3]; rfl) hm3 hc3
              have HG := get_part (hSp.held hB) 2 m3 (by omega) (by omega) c3
              have e4 : ((x.take m).drop 2).take m3 = (x.take m).drop 2 := List.take_of_length_le (by omega)
              rw [e4, ← ho3] at HG
              have R := Lib.hid (show DecR w D u4 (.int .u32 (Tm.val ((x.take m).drop 2) : Nat)) (.slice A2 k2 c2') wr from ⟨us, _, A2, k2, c2', x.drop m, rfl, rfl, hv, hSr, hU, by rw [hw]; cases walk (Tm.val ((x.take m).drop 2)) (x.drop m) <;> simp, hB, hsum0⟩)
              clear hw hn hs hSr hU hB hSp hbig hm2 hb4 e4 hm3 hc3 ho3 e6
              generalize Tm.val ((x.take m).drop 2) = id2 at *
              go_wp2_with fail
              refine HP.mono ?_
              rintro e w' ⟨rfl, rfl⟩
              clear HP
              go_wp2_with fail
              refine HG.mono ?_
              rintro e w' ⟨rfl, rfl⟩
              clear HG
              go_wp2_with fail
              go_roundw
              case rel => exact R.out
              case measure => simp only [lenOf]; omega
            · have d6 : ((m : Int) == 6) = false := beq_eq_false_iff_ne.2 (by omega)
              have hb4 : ¬ ((x.take m).drop 2).length = 4 := by have := hSp.bytes.1; rw [List.length_drop, this]; omega
              have hn : named 2 ((x.take m).drop 2) id = id := by unfold named; rw [if_neg (fun h => hb4 h.2)]
              have hs : says 2 ((x.take m).drop 2) id = [] := rfl
              rw [hn, hs] at hw
              have R := Lib.hid (show DecR w D u4 (.int .u32 id) (.slice A2 k2 c2') wr from ⟨us, id, A2, k2, c2', x.drop m, rfl, rfl, hid, hSr, hU, by rw [hw]; cases walk id (x.drop m) <;> simp, hB, hsum0⟩)
              clear hw hn hs hSr hU hB hSp hbig hm2 hb4
              go_wp2_with fail
              refine HP.mono ?_
              rintro e w' ⟨rfl, rfl⟩
              clear HP
              go_wp2_with fail
              go_roundw
              case rel => exact R.out
              case measure => simp only [lenOf]; omega
          · have d2 : ((x0 : Int) == 2) = false := beq_eq_false_iff_ne.2 (by omega)
            by_cases e3 : x0 = 3
            · subst e3
              have d3 : ((3 : Nat) : Int) = 3 := rfl
              rw [d3] at c0 d2
              obtain ⟨hm22, -⟩ := hm2 (by omega)
              obtain ⟨A3, hA3⟩ : ∃ A3 : Option Addr, A3 = if c5 = 2 then some ⟨b, off, none⟩ else (some (⟨b, off, none⟩ : Addr)).map (·.add 2) := ⟨_, rfl⟩
              obtain ⟨m3, hm3⟩ : ∃ m3, m3 = m - 2 := ⟨_, rfl⟩
              obtain ⟨c3, hc3⟩ : ∃ c3, c3 = c5 - 2 := ⟨_, rfl⟩
              have s3 := cut_low_run (some ⟨b, off, none⟩) m c5 2 hm22 (by omega) wr (z := 2) rfl hA3 hm3 hc3
              have hSb : Sl wr A3 m3 c3 ((x.take m).drop 2) := by
                have := (hSp.held hB).of_part (k := 2) (m := m3) (cap' := c3) (by omega) (by omega) hA3
                rwa [List.take_of_length_le (by rw [List.length_drop, hSp.bytes.1]; omega)] at this
              obtain ⟨u, r, HT, hsay⟩ := told_eq hSb (id := id)
              have hn : named 3 ((x.take m).drop 2) id = id := rfl
              have hs : says 3 ((x.take m).drop 2) id = if r then [u] else [] := by unfold says; rw [if_pos rfl, hsay]
              rw [hn, hs] at hw
              have Z := Lib.hid (And.intro hw (And.intro hSr (And.intro hU (And.intro hB (And.intro hsum0 (show us.length + 1 + k2 ≤ 1024 by omega))))))
              clear hw hn hs hSr hU hB hSp hbig hm2 hSb hA3 hm3 hc3 hsay
              go_wp2_with fail
              refine HP.mono ?_
              rintro e w' ⟨rfl, rfl⟩
              clear HP
              go_wp2_with fail
              refine HT.mono ?_
              rintro e w3 ⟨rfl, hb3⟩
              clear HT s1 s2 s3 c0
              cases r
              · obtain ⟨hw, hSr, hU, hB, hs0, hs1⟩ := Z.out
                have hb4 := next hb3 (below_new w3 (.cells (ucs u.a u.len u.id u.seq u.met) 123))
                have R := Lib.hid (show DecR w D u4 (.int .u32 id) (.slice A2 k2 c2') (w3.alloc (.cells (ucs u.a u.len u.id u.seq u.met) 123)) from ⟨us, id, A2, k2, c2', x.drop m, rfl, rfl, hid, hSr, hU.held hb4, by rw [hw]; cases walk id (x.drop m) <;> simp, hB.trans (hb4.mono hB.size), hs0⟩)
                clear hw hSr hU hB hs0 hs1 hb3 hb4 Z
                unfold ucs at *
                go_wp2_with fail
                go_roundw
                case rel => exact R.out
                case measure => simp only [lenOf]; omega
              · unfold ucs
                go_upto_region 18 with (fail)
                obtain ⟨hw, hSr, hU, hB, hs0, hs1⟩ := Z.out
                obtain ⟨p4, cp4, rfl, -⟩ := hU.form
                have hX := Blk.new w3 123 (ucs u.a u.len u.id u.seq u.met)
                have hb4 := next hb3 (below_new w3 (.cells (ucs u.a u.len u.id u.seq u.met) 123))
                have hU4 := hU.held hb4
                have hB4 := hB.trans (hb4.mono hB.size)
                unfold ucs at hX hb4 hU4 hB4
                generalize w3.alloc _ = W4 at *
                have c0 : W4.cell? ⟨w3.heap.size, 0, none⟩ = some (.int .u32 (u.a : Int)) := hX.at_ 0
                have c1 : W4.cell? ⟨w3.heap.size, 1, none⟩ = some (.int .i64 u.len) := hX.at_ 1
                have c2 : W4.cell? ⟨w3.heap.size, 2, none⟩ = some (.int .u32 (u.id : Int)) := hX.at_ 2
                have c3 : W4.cell? ⟨w3.heap.size, 3, none⟩ = some (.int .u32 (u.seq : Int)) := hX.at_ 3
                have c4 : W4.cell? ⟨w3.heap.size, 4, none⟩ = some (.int .u16 (u.met : Int)) := hX.at_ 4
                have hb5 := below_new W4 (.cells #[.int .u32 u.a, .int .i64 u.len, .int .u32 u.id, .int .u32 u.seq, .int .u16 u.met] 123)
                have hX5 := Blk.new W4 123 #[.int .u32 u.a, .int .i64 u.len, .int .u32 u.id, .int .u32 u.seq, .int .u16 u.met]
                have hU5 := hU4.held hb5
                have hB5 := hB4.trans (hb5.mono hB4.size)
                have hle : w.heap.size ≤ (W4.alloc (.cells #[.int .u32 u.a, .int .i64 u.len, .int .u32 u.id, .int .u32 u.seq, .int .u16 u.met] 123)).heap.size := hB5.size
                obtain ⟨g', cap', W6, hrun, hU6, hg6, -⟩ := run_us hU5 hle (ad := ⟨W4.heap.size, 0, none⟩) (m := 1) (c := 1) (news := [u]) rfl (fun jj vv hv => by
                  rw [Addr.add_mid, Nat.zero_add, hX5.at_ jj]
                  simpa [ucl, Up.cs, ucs] using hv) (by omega) (by omega) 104
                have hB6 := hB5.grown hg6 hle (fun kk e => (hU5.lt e).2)
                obtain ⟨q', hq'⟩ : ∃ q', q' = us.length + 1 := ⟨_, rfl⟩
                rw [← hq'] at hrun hU6
                have R := Lib.hid (show DecR w D (.slice (some ⟨g', 0, none⟩) q' cap') (.int .u32 id) (.slice A2 k2 c2') W6 from ⟨us ++ [u], id, A2, k2, c2', x.drop m, rfl, rfl, hid, hSr, hU6, by rw [hw]; cases walk id (x.drop m) <;> simp, hB6, by simp; omega⟩)
                clear hw hSr hU hB hs0 hs1 hb3 hb4 Z hU4 hB4 hb5 hX5 hU5 hB5 hle hU6 hg6 hB6 hq' hX
                go_wp2_with (first | (at_builtin; refine Lib.wpList_append_run _ rfl (.tmp 53) (.tmp 55) 104 104 rfl _ _ rfl rfl _ _ hrun ?_) | fail)
                go_roundw
                case rel => exact R.out
                case measure => simp only [lenOf]; omega
            · have d3 : ((x0 : Int) == 3) = false := beq_eq_false_iff_ne.2 (by omega)
              have hn : named x0 ((x.take m).drop 2) id = id := by unfold named; rw [if_neg (by omega)]
              have hs : says x0 ((x.take m).drop 2) id = [] := by unfold says; rw [if_neg e3]
              rw [hn, hs] at hw
              have R := Lib.hid (show DecR w D u4 (.int .u32 id) (.slice A2 k2 c2') wr from ⟨us, id, A2, k2, c2', x.drop m, rfl, rfl, hid, hSr, hU, by rw [hw]; cases walk id (x.drop m) <;> simp, hB, hsum0⟩)
              clear hw hn hs hSr hU hB hSp hbig hm2
              go_wp2_with fail
              refine HP.mono ?_
              rintro e w' ⟨rfl, rfl⟩
              clear HP
              go_wp2_with fail
              go_roundw
              case rel => exact R.out
              case measure => simp only [lenOf]; omega
      · obtain rfl : k = 0 := by omega
        have hx : x = [] := List.length_eq_zero_iff.1 hl
        subst hx
        rw [walk_nil] at hw
        have HH := Lib.hid (And.intro hU (And.intro hw hB))
        clear hU hw hB hS hbig hid
        obtain ⟨p, cp, rfl, -⟩ := HH.out.1.form
        go_wp2_with fail
        go_ret2
        exact ⟨HH.out.2.2, .inr ⟨us, _, by simpa using HH.out.2.1, rfl, HH.out.1⟩⟩
end Go.Proofs.YtkchckeecfalhaaGreat.T

namespace Go.Proofs.YtkchckeecfalhaaGreat
open Go.RowKit Go.Maps Rm

/-- what a router makes of a list that a neighbour tells -/
def Mr.hears (M : Mr) (fr : Nat) (us : List T.Tm.Up) : Mr := us.foldl (fun M u => M.hear fr u.a u.len u.id u.seq u.met) M
theorem Mr.hears_snoc (M : Mr) (fr : Nat) (us : List T.Tm.Up) (u : T.Tm.Up) : M.hears fr (us ++ [u]) = (M.hears fr us).hear fr u.a u.len u.id u.seq u.met := by
  unfold Mr.hears
  rw [List.foldl_append]
  rfl
/-- .. of bytes -/
def Mr.got (M : Mr) (fr : Nat) : Option (List T.Tm.Up) → Mr
  | none => M
  | some us => M.hears fr us
def Mr.receive (M : Mr) (z : Int) (bs : List Nat) : Mr := if cAt M.c z = 0 then M else M.got z.toNat (T.Tm.decode bs)
theorem cAt_range {c : Nat → Int} {z : Int} (h : cAt c z ≠ 0) : ∃ k : Nat, z = k ∧ k < 8 := by
  unfold cAt at h
  split at h
  · exact absurd rfl h
  · exact ⟨z.toNat, by omega, by omega⟩
theorem Rz.weaken {F : List Nat} {w : World} {R room sp : Nat} {M : Mr} (h : Rz F w R room sp M) {sp' : Nat} (hs : sp' ≤ sp) : Rz F w R room sp' M := by
  obtain ⟨o, fl, tb, j, N, n, S, Mp, dn, safe, wn, hF', hR, hD, hd, h1, h2, h3, h4, h5⟩ := h.ex
  exact ⟨o, fl, tb, j, N, n, S, Mp, dn, safe, wn, hF', hR, hD, hd, h1, h2, h3, h4, by omega⟩
/-- while a list is heard -/
structure Hs (F : List Nat) (w wr : World) (R room sp : Nat) (M' : Mr) (B : Nat) (v : Value) (us : List T.Tm.Up) : Prop where
  ex : ∃ F', Rz F' wr R room sp M' ∧ Turn F w wr ∧ (∀ y, y ∈ F' → y ∈ F ∨ w.heap.size ≤ y) ∧ ∀ b, v.ownBlock = some b → b ∉ F'
  lu : T.Lu B v us wr

set_option maxRecDepth 100000 in
set_option maxHeartbeats 2000000 in
theorem rz_receive {F : List Nat} {w : World} {R room sp : Nat} {M : Mr} {A : Option Addr} {n cap : Nat} {bs : List Nat} (hk : ∀ us, T.Tm.decode bs = some us → us.length ≤ 1000) (h : Rz F w R room (sp + 1000) M) (hs : T.Sl w A n cap bs) (z : Int) :
    Calls Tryz.prog 57 #[.pointer (some ⟨R, 0, none⟩), .int .i64 z, .slice A n cap] w fun e w' => e = .returned (.tuple #[]) ∧ Goes F w R room sp (M.receive z bs) w' := by
  obtain ⟨o, fl, tb, j, N, nn, hR⟩ := h.rr
  have HC := rr_cost hR z
  obtain ⟨q, hq⟩ : ∃ q, (cAt M.c z == 0) = q := ⟨_, rfl⟩
  have X := Lib.hid (And.intro h (And.intro hs (And.intro hk hq)))
  clear h hs hk hR
  go_enter Tryz.func57, Tryz.ntmps57
  go_wp2_with fail
  refine HC.mono ?_
  rintro e w1 ⟨rfl, rfl⟩
  cases q with
  | true =>
    have d0 := X.out.2.2.2
    clear HC
    go_wp2_with fail
    refine bodyPost_ret (results_none rfl _ _ _) rfl ⟨rfl, ?_⟩
    unfold Mr.receive
    rw [if_pos (eq_of_beq X.out.2.2.2)]
    exact Goes.stay (X.out.1.weaken (by omega)) (.refl _ _)
  | false =>
    have hne : cAt M.c z ≠ 0 := fun h => by have := X.out.2.2.2; rw [h] at this; cases this
    obtain ⟨fr, rfl, hfr⟩ := cAt_range hne
    obtain ⟨D, hD⟩ : ∃ D, T.Tm.decode bs = D := ⟨_, rfl⟩
    have E := Lib.hid (show M.receive fr bs = M.got fr D by unfold Mr.receive; rw [if_neg hne, hD]; rfl)
    have HD := T.decode_any X.out.2.1 hD
    have HK := X.out.2.2.1
    rw [hD] at HK
    have HF : ∀ us, D = some us → ∀ u ∈ us, u.Fits := fun us e u hu => (T.Tm.decode_fine X.out.2.1.bytes.2.2.1 (by rw [hD]; exact e) u hu).2
    have Y := Lib.hid (And.intro HK HF)
    have d0 := X.out.2.2.2
    clear HC hne hD HK HF hq
    go_wp2_with fail
    refine HD.mono ?_
    rintro e w2 ⟨hb2, ⟨rfl, rfl⟩ | ⟨us, v, rfl, rfl, hL⟩⟩
    · have G : Hid (Goes F w R room sp (M.receive fr bs) w2) := Lib.hid (by rw [E.out]; exact Goes.stay (X.out.1.weaken (by omega)) hb2)
      clear HD hb2
      go_wp2_with fail
      go_loopw [21] (fun i wr => i = .int .i64 0 ∧ wr = w2) (fun _ _ => 0)
      case atStart => exact ⟨rfl, rfl⟩
      case round =>
        obtain ⟨rfl, rfl⟩ := hrel
        go_wp2_with fail
        refine bodyPost_end (v := .tuple #[]) (results_none rfl _ _ _) rfl ⟨rfl, G.out⟩
    · have hul := Y.out.1 us rfl
      obtain ⟨A', cap', rfl, -⟩ := hL.ul (Y.out.2 us rfl) (by omega)
      have hlt : us.length ≤ 1000 := hul
      have S0 : Hs F w w2 R room (sp + 1000) M w.heap.size (.slice A' us.length cap') us := ⟨⟨F, X.out.1.held hb2, .of_below _ hb2, fun _ h => .inl h, fun b e hm => by have := X.out.1.lt hm; have := (hL.lt e).2; omega⟩, hL⟩
      have HS := Lib.hid S0
      clear HD hb2 hL S0 hul
      go_wp2_with fail
      go_loopw [21] (fun i wr => ∃ k : Nat, i = .int .i64 k ∧ k ≤ us.length ∧ Hid (Hs F w wr R room (sp + (1000 - k)) (M.hears fr (us.take k)) w.heap.size (.slice A' us.length cap') us)) (fun i _ => us.length - (intOf i).toNat)
      case atStart => exact ⟨0, rfl, Nat.zero_le _, HS⟩
      case round =>
        clear HS
        obtain ⟨k, rfl, hk, S⟩ := hrel
        by_cases hkl : k < us.length
        · have hkz : (k : Int) < (us.length : Int) := by omega
          obtain ⟨A2, cap2, e2, hU⟩ := S.out.lu.ul (Y.out.2 us rfl) (by omega)
          cases e2
          obtain ⟨b, off, rfl⟩ := hU.plain (by omega)
          obtain ⟨⟨ua, un, uid, useq, umet⟩, hu⟩ : ∃ u, us[k] = u := ⟨_, rfl⟩
          have hc := hU.at_ hkl hu
          have hf := hU.fits _ (List.getElem_mem hkl)
          rw [hu] at hf
          have htk : us.take (k + 1) = us.take k ++ [us[k]] := by rw [List.take_add_one]; simp [hkl]
          rw [hu] at htk
          obtain ⟨c0, c1, c2, c3, c4⟩ := hc
          obtain ⟨F', hz, t1, n1, hv⟩ := S.out.ex
          have hbn := below_new wr (.cells #[.int .u32 ua, .int .i64 un, .int .u32 uid, .int .u32 useq, .int .u16 umet] 123)
          have HH := rz_hear (sp := sp + (1000 - (k + 1))) (by rw [show sp + (1000 - (k + 1)) + 1 = sp + (1000 - k) by omega]; exact hz.held hbn) hfr (a := ua) (len := un) ⟨hf.a, hf.n1, hf.n2⟩ (id := uid) (seq := useq) (met := umet) hf.id hf.seq hf.met
          rw [← Mr.hears_snoc M fr (us.take k) ⟨ua, un, uid, useq, umet⟩, ← htk] at HH
          have UB := Blk.new wr 123 #[.int .u32 ua, .int .i64 un, .int .u32 uid, .int .u32 useq, .int .u16 umet]
          have u0 := UB.at_ 0
          have u1 := UB.at_ 1
          have u2 := UB.at_ 2
          have u3 := UB.at_ 3
          have u4 := UB.at_ 4
          have lu2 := S.out.lu.held hbn
          have Z := Lib.hid (And.intro (t1.and_below hbn) (And.intro n1 (And.intro hv (And.intro lu2 (And.intro hbn hz)))))
          clear hz t1 n1 hv hbn UB lu2 S hU hu hf htk
          go_wp2_with fail
          refine HH.mono ?_
          rintro e w3 ⟨rfl, F2, hz2, t2, n2⟩
          have hsz := Z.out.2.2.2.2.1.size
          have R2 : Hs F w w3 R room (sp + (1000 - (k + 1))) (M.hears fr (us.take (k + 1))) w.heap.size (.slice (some ⟨b, off, none⟩) us.length cap') us := ⟨⟨F2, hz2, Z.out.1.beyond t2 Z.out.2.1, fun y hy => (n2 y hy).elim (Z.out.2.1 y) (fun h => .inr (Nat.le_trans Z.out.1.size h)), fun b' e hm => (n2 b' hm).elim (Z.out.2.2.1 b' e) (fun h => by have := (Z.out.2.2.2.1.lt e).1; omega)⟩, Z.out.2.2.2.1.turn t2 Z.out.2.2.1⟩
          have HR := Lib.hid R2
          clear R2 hz2 t2 n2 HH u0 u1 u2 u3 u4 c0 c1 c2 c3 c4 Z hsz
          go_wp2_with fail
          go_roundw
          case rel => exact ⟨k + 1, by go_num, by omega, HR⟩
          case measure => simp [intOf]; omega
        · obtain rfl : k = us.length := by omega
          obtain ⟨F', hz, t1, n1, hv⟩ := S.out.ex
          rw [List.take_length] at hz
          have G : Hid (Goes F w R room sp (M.receive fr bs) wr) := Lib.hid (by rw [E.out]; exact ⟨F', hz.weaken (by omega), t1, n1⟩)
          clear hz t1 n1 hv S
          go_wp2_with fail
          refine bodyPost_end (v := .tuple #[]) (results_none rfl _ _ _) rfl ⟨rfl, G.out⟩
end Go.Proofs.YtkchckeecfalhaaGreat

