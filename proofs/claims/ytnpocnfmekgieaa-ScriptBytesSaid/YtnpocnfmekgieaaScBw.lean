/-
  ScriptBytes: whatever net and events as bytes, and back.
-/
import Derived.Test.YtnpocnfmekgieaaScH
import Derived.Test.YtnpocnfmekgieaaScY
import Derived.Test.YtnpocnfmekgieaaScQ
import Derived.Test.YtnpocnfmekgieaaScLd
namespace Go.Proofs.Ytnpocnfmekgieaa
open Go.RowKit Go.Maps Sc
attribute [local go_sem] Oper.semAt_some

theorem allRight_snoc {es : List Ev} {k : Nat} (hk : k < es.length) : Sc.allRight (es.take (k + 1)) = (Sc.allRight (es.take k) && right es[k]) := by
  unfold Sc.allRight
  rw [List.take_succ_eq_append_getElem hk, List.all_append]
  simp
theorem flat_few : ∀ (es : List Ev), (∀ e ∈ es, e.p.length ≤ 400) → (flat es).length ≤ 416 * es.length
  | [], _ => by simp [flat_nil]
  | e :: r, h => by
    rw [flat_cons, List.length_append, ebytes_length, List.length_cons]
    have h1 := h e (List.mem_cons_self ..)
    have h2 := flat_few r (fun x hx => h x (List.mem_cons_of_mem _ hx))
    omega

set_option maxRecDepth 100000 in
set_option maxHeartbeats 16000000 in
theorem sbytes_any {A : Option Addr} {n cap : Nat} {es : List Ev} (nn ss : Int) {w : World} (h : El w A n cap es) :
    Calls Try.prog 3 #[.int .i64 nn, .int .i64 ss, .slice A n cap] w fun x w' => x = .returned (.bool true) ∧ Below w.heap.size w w' := by
  have hlen := h.len
  have hmx := h.max
  have hmx' : n ≤ 9223372036854775807 := by unfold maxLen at hmx; omega
  have H := Lib.hid (And.intro h hlen)
  clear h hmx hlen
  go_enter Try.func3, Try.ntmps3
  go_upto_region 3 with (go_at_call 7; refine (head_any w).mono ?_; rintro e w1 ⟨rfl, hb1⟩)
  have HF := few_any (H.out.1.held hb1)
  have B1 := Lib.hid hb1
  clear hb1
  go_wp2_with fail
  refine HF.mono ?_
  rintro e w2 ⟨b, rfl, hfew, hb2⟩
  have B2 := Lib.hid (next B1.out hb2)
  clear HF hb2 B1
  cases b with
  | false =>
    go_wp2_with fail
    go_ret
    exact ⟨rfl, B2.out⟩
  | true =>
    have FW := Lib.hid (hfew rfl)
    clear hfew
    go_upto_region 5 with fail
    go_cut [7] from 22 (fun v u => v = .bool (Sc.scripted nn ss) ∧ Below w.heap.size w u)
    case first =>
      cases h1 : decide (1 ≤ nn)
      · go_wp2_with fail
        go_meet
        case rel => exact ⟨by unfold Sc.scripted; rw [h1]; rfl, B2.out⟩
      cases h2 : decide (nn ≤ 8)
      · go_wp2_with fail
        go_meet
        case rel => exact ⟨by unfold Sc.scripted; rw [h1, h2]; rfl, B2.out⟩
      cases h3 : decide (1 ≤ ss)
      · go_wp2_with fail
        go_meet
        case rel => exact ⟨by unfold Sc.scripted; rw [h1, h2, h3]; rfl, B2.out⟩
      · go_wp2_with fail
        go_meet
        case rel => exact ⟨by unfold Sc.scripted; rw [h1, h2, h3]; simp, B2.out⟩
    case rest =>
      clear B2
      obtain ⟨rfl, hbc⟩ := hcut
      have BC := Lib.hid hbc
      clear hbc
      go_wp2_with fail
      go_loopw [7, 38] (fun g i wr => ∃ (k : Nat) (gb : Bool), i = .int .i64 (k : Nat) ∧ g = .bool gb ∧ k ≤ n ∧ Hid (gb = (Sc.scripted nn ss && Sc.allRight (es.take k)) ∧ Below w.heap.size w wr)) (fun _ i _ => n - (intOf i).toNat)
      case atStart => exact ⟨0, _, rfl, rfl, Nat.zero_le _, Lib.hid ⟨by simp [Sc.allRight], BC.out⟩⟩
      case round =>
        clear BC
        obtain ⟨k, gb, rfl, rfl, hkn, R⟩ := hrel
        by_cases hlt : k < n
        · have d1 : decide ((k : Int) < (n : Int)) = true := decide_eq_true (by omega)
          have hk : k < es.length := by rw [H.out.2]; exact hlt
          obtain ⟨e, he⟩ : ∃ e, es[k] = e := ⟨_, rfl⟩
          obtain ⟨b, off, rfl⟩ := H.out.1.plain (by omega)
          have hfit := (H.out.1.good e (by rw [← he]; exact List.getElem_mem hk)).fits
          obtain ⟨c0, c1, c2, c3, c4, c5, c6⟩ := (H.out.1.held R.out.2).at_ hk he
          have hsn := allRight_snoc hk
          rw [he] at hsn
          obtain ⟨r, hr⟩ : ∃ r, right e = r := ⟨_, rfl⟩
          have HR : ∀ u, Calls Try.prog 9 #[.agg #[.int .i64 e.kind, .int .i64 e.i, .int .i64 e.k, .int .i64 e.n, .int .u32 (e.a : Nat), .int .i64 e.len, .string ⟨e.p.toArray⟩]] u fun x w' => x = .returned (.bool r) ∧ Below u.heap.size u w' := fun u => eright_eq hfit.a hr u
          have HL : ∀ u, Calls Try.prog 10 #[.agg #[.int .i64 e.kind, .int .i64 e.i, .int .i64 e.k, .int .i64 e.n, .int .u32 (e.a : Nat), .int .i64 e.len, .string ⟨e.p.toArray⟩]] u fun x w' => x = .returned (.bool r) ∧ Below u.heap.size u w' := fun u => lright_eq hfit.a hr u
          rw [hr] at hsn
          have SN := Lib.hid hsn
          have i1 : (k : Int) < (n : Int) := by omega
          clear hr he hfit hsn hk
          generalize e.kind = y0 at *
          generalize e.i = y1 at *
          generalize e.k = y2 at *
          generalize e.n = y3 at *
          generalize e.a = y4 at *
          generalize e.len = y5 at *
          generalize (⟨e.p.toArray⟩ : ByteArray) = s at *
          have BX := Blk.new wr 30 #[.int .i64 y0, .int .i64 y1, .int .i64 y2, .int .i64 y3, .int .u32 (y4 : Nat), .int .i64 y5, .string s]
          have X := Lib.hid (And.intro BX (R.out.2.trans ((below_new wr (.cells #[.int .i64 y0, .int .i64 y1, .int .i64 y2, .int .i64 y3, .int .u32 (y4 : Nat), .int .i64 y5, .string s] 30)).mono R.out.2.size)))
          clear BX
          go_upto_region 9 with fail
          generalize wr.alloc _ = w4 at *
          clear c0 c1 c2 c3 c4 c5 c6
          generalize wr.heap.size = bx at *
          have k0 := fun d os => cell_regrown (X.out.1.at_ 0) d os
          have k1 := fun d os => cell_regrown (X.out.1.at_ 1) d os
          have k2 := fun d os => cell_regrown (X.out.1.at_ 2) d os
          have k3 := fun d os => cell_regrown (X.out.1.at_ 3) d os
          have k4 := fun d os => cell_regrown (X.out.1.at_ 4) d os
          have k5 := fun d os => cell_regrown (X.out.1.at_ 5) d os
          have k6 := fun d os => cell_regrown (X.out.1.at_ 6) d os
          simp at k0 k1 k2 k3 k4 k5 k6
          refine wp_region_quiet_below (by kernel_rfl) (by kernel_rfl) ?_
          repeat (go_big_quiet_step (first | (go_at_call 9; exact Calls.regrown_of (HR _)) | (go_at_call 10; exact Calls.regrown_of (HL _))))
          refine wpQuiet_nil ?_
          intro _ hw'
          obtain ⟨⟨dq, osq⟩, hw''⟩ := hw'
          subst hw''
          have hb5 := below_regrown w4 dq osq
          have BX5 := X.out.1.held hb5
          have x0 := BX5.at_ 0
          have x1 := BX5.at_ 1
          have x2 := BX5.at_ 2
          have x3 := BX5.at_ 3
          have x4 := BX5.at_ 4
          have x5 := BX5.at_ 5
          have x6 := BX5.at_ 6
          simp at x0 x1 x2 x3 x4 x5 x6
          have X5 := Lib.hid (X.out.2.trans (hb5.mono X.out.2.size))
          generalize Sort.grow (redrawn w4 dq) osq = w5 at *
          clear k0 k1 k2 k3 k4 k5 k6 BX5 hb5 X HR
          cases gb with
          | false =>
            go_wp2_with fail
            go_roundw
            case rel => exact ⟨k + 1, false, by go_num, rfl, by omega, Lib.hid ⟨by rw [SN.out, ← Bool.and_assoc, ← R.out.1, Bool.false_and], X5.out⟩⟩
            case measure => simp [intOf]; omega
          | true =>
            go_wp2_with (go_at_call 10; refine (HL _).mono ?_; rintro e6 w6 ⟨rfl, hb6⟩)
            have R2 := Lib.hid (And.intro (show r = (Sc.scripted nn ss && Sc.allRight (es.take (k + 1))) by rw [SN.out, ← Bool.and_assoc, ← R.out.1, Bool.true_and]) (X5.out.trans (hb6.mono X5.out.size)))
            go_roundw
            case rel => exact ⟨k + 1, r, by go_num, rfl, by omega, R2⟩
            case measure => simp [intOf]; omega
        · obtain rfl : k = n := by omega
          have d1 : decide ((k : Int) < (k : Int)) = false := decide_eq_false (by omega)
          have e1 : es.take k = es := List.take_of_length_le (by rw [H.out.2]; exact Nat.le_refl _)
          have R2 := R.out
          rw [e1] at R2
          have R3 := Lib.hid R2
          clear R R2 e1
          cases gb with
          | false =>
            have hbad : Sc.scripted nn ss = false ∨ Sc.allRight es = false := by
              have := R3.out.1
              cases h1 : Sc.scripted nn ss
              · exact .inl rfl
              · rw [h1, Bool.true_and] at this; exact .inr this.symm
            have HE := encode_wrong (H.out.1.held R3.out.2) (by have := FW.out.1; have := H.out.2; omega) hbad
            clear hbad
            go_wp2_with (go_at_call 11; refine HE.mono ?_; rintro e6 w6 ⟨rfl, hb6⟩)
            go_ret
            exact ⟨rfl, R3.out.2.trans (hb6.mono R3.out.2.size)⟩
          | true =>
            have hgood := R3.out.1
            symm at hgood
            rw [Bool.and_eq_true] at hgood
            have hsc := hgood.1
            unfold Sc.scripted at hsc
            simp only [Bool.and_eq_true, decide_eq_true_eq] at hsc
            obtain ⟨a1, rfl⟩ := Int.eq_ofNat_of_zero_le (show 0 ≤ nn by omega)
            obtain ⟨a2, rfl⟩ := Int.eq_ofNat_of_zero_le (show 0 ≤ ss by omega)
            have hfl := flat_few es FW.out.2
            have hbig : (flat es).length ≤ 900000 := by have := FW.out.1; omega
            have HE := encode_good (H.out.1.held R3.out.2) (by have := FW.out.1; have := H.out.2; omega) hgood.1 hgood.2 hbig
            have h1 : a1 ≤ 8 := by omega
            have h2 : a2 ≤ 512 := by omega
            have G := Lib.hid (And.intro hgood (And.intro hbig hfl))
            clear hgood hsc hfl hbig
            go_wp2_with fail
            refine HE.mono ?_
            rintro e6 w6 ⟨g, c, q, rfl, hq, hO, hb6⟩
            have B6 := R3.out.2.trans (hb6.mono R3.out.2.size)
            have hSl := Ob.sl hO (script_lt _ _ _)
            have hl3 := script_length a1 a2 es
            have hd : Sc.headed (script a1 a2 es) = true := by
              unfold Sc.headed
              rw [hl3, decide_eq_true (by omega), Bool.true_and, ← G.out.1.1]
              have e1 : (script a1 a2 es).getD 0 0 = a1 := by show a1 % 256 = a1; omega
              have e2 : (script a1 a2 es).getD 1 0 * 256 + (script a1 a2 es).getD 2 0 = a2 := by show a2 / 256 % 256 * 256 + a2 % 256 = a2; omega
              rw [e1, e2]
            have HD := decode_good hSl (by rw [hq, hl3]; have := G.out.2.2; have := FW.out.1; omega) hd
            have e1 : (script a1 a2 es).getD 0 0 = a1 := by show a1 % 256 = a1; omega
            have e2 : (script a1 a2 es).getD 1 0 * 256 + (script a1 a2 es).getD 2 0 = a2 := by show a2 / 256 % 256 * 256 + a2 % 256 = a2; omega
            rw [e1, e2] at HD
            have Q := Lib.hid (And.intro hq (And.intro hSl B6))
            clear HE hq hO hb6 B6 hSl hd e1 e2 hl3
            go_wp2_with fail
            refine HD.mono ?_
            rintro e7 w7 ⟨v, l, kk, e, rfl, hO7, hE, hb7⟩
            obtain ⟨hle, rfl, hk7⟩ := hE.back (L := es) (fun x hx => ⟨by have := G.out.1.2; unfold Sc.allRight at this; rw [List.all_eq_true] at this; exact this x hx, (H.out.1.good x hx).fits.a⟩) rfl (by have := FW.out.1; omega)
            obtain rfl : es = l := hle.symm
            obtain ⟨A2, cp2, rfl, hEl⟩ := Oe.el hO7 H.out.1.good
            have B7 := Q.out.2.2.trans (hb7.mono Q.out.2.2.size)
            have hEl1 := H.out.1.held B7
            have hSl7 := Q.out.2.1.held hb7
            rw [H.out.2] at hEl ⊢
            have hkq : kk = q := by rw [hk7, Q.out.1]
            subst hkq
            have ddd : ((kk : Int) == (kk : Int)) = true := beq_self_eq_true _
            have HB := fun u (hu : Below w.heap.size w u) => lbytes_any (H.out.1.held hu) G.out.1.2 (nn := a1) (ss := a2) (by omega) (by omega) G.out.2.1
            have P := Lib.hid (And.intro hEl (And.intro B7 (And.intro hSl7 Q.out.1)))
            clear HD hO7 hE hb7 hEl B7 hEl1 hSl7 hk7 Q
            go_upto_region 17 with fail
            obtain ⟨bs, hbs⟩ : ∃ bs, bs = script a1 a2 es := ⟨_, rfl⟩
            obtain ⟨SS, hSS⟩ : ∃ SS : ByteArray, SS = ⟨(toU bs).toArray⟩ := ⟨_, rfl⟩
            have hby : BytesAt w7.drew (some ⟨g, 0, none⟩) kk bs := by rw [hbs]; exact let t := P.out.2.2.1.bytes; ⟨t.1, t.2.1, t.2.2.1, t.2.2.2⟩
            have cv : Hid (∀ (u : World) (X : Option Addr) (m cX : Nat), BytesAt u X m bs → (convert 32 9 (.slice X m cX)).run Try.prog u = .ok (.string SS) u) := Lib.hid (fun u X m cX hu => by rw [hSS]; exact conv_str hu)
            have HB7 := HB w7.drew P.out.2.1.drew
            rw [← hbs] at HB7
            have hEl7 : El w7.drew A2 k cp2 es := P.out.1.drew
            have hEl8 : El w7.drew A k cap es := (H.out.1.held P.out.2.1).drew
            have hlt7 : ∀ x ∈ bs, x < 256 := by rw [hbs]; exact script_lt _ _ _
            have V := Lib.hid (And.intro hEl7 (And.intro hEl8 (And.intro P.out.2.1.drew (And.intro hlt7 (And.intro hbs P.out.2.2.2)))))
            clear hEl7 hEl8 hlt7 hSS hbs HB P
            refine wp_region_held_drew (S := fun u => (BytesAt u (some ⟨g, 0, none⟩) kk bs)) (by kernel_rfl) hby (fun hHeld => ?_)
            refine take_list (i := 0) (v := .int .i64 0) rfl (by kernel_rfl) (by kernel_rfl) (by kernel_rfl) (fun _ _ _ h => h) (.inl ⟨rfl, ?_⟩) hHeld ?_
            · (intro w hSw; go_simp)
            go_frame
            refine take_list (i := 1) (v := .bool true) rfl (by kernel_rfl) (by kernel_rfl) (by kernel_rfl) (fun _ _ _ h => h) (.inl ⟨rfl, ?_⟩) hHeld ?_
            · (intro w hSw; go_simp)
            go_frame
            refine take_list (i := 2) (v := .bool true) rfl (by kernel_rfl) (by kernel_rfl) (by kernel_rfl) (fun _ _ _ h => h) (.inl ⟨rfl, ?_⟩) hHeld ?_
            · (intro w hSw; go_simp)
            go_frame
            refine take_list (i := 3) (v := .slice (some ⟨g, 0, none⟩) kk c) rfl (by kernel_rfl) (by kernel_rfl) (by kernel_rfl) (fun _ _ _ h => h) (.inl ⟨rfl, ?_⟩) hHeld ?_
            · (intro w hSw; go_simp)
            go_frame
            refine take_list (i := 4) (v := .string SS) rfl (by kernel_rfl) (by kernel_rfl) (by kernel_rfl) (fun _ _ _ h => h) (.inl ⟨rfl, ?_⟩) hHeld ?_
            · (intro w hSw; have hcv := cv.out w _ _ c hSw; go_simp)
            go_frame
            refine take_list (i := 5) (v := .int .i64 (a1 : Nat)) rfl (by kernel_rfl) (by kernel_rfl) (by kernel_rfl) (fun _ _ _ h => h) (.inl ⟨rfl, ?_⟩) hHeld ?_
            · (intro w hSw; go_simp)
            go_frame
            refine take_list (i := 6) (v := .int .i64 (a2 : Nat)) rfl (by kernel_rfl) (by kernel_rfl) (by kernel_rfl) (fun _ _ _ h => h) (.inl ⟨rfl, ?_⟩) hHeld ?_
            · (intro w hSw; go_simp)
            go_frame
            refine take_list (i := 7) (v := .slice A k cap) rfl (by kernel_rfl) (by kernel_rfl) (by kernel_rfl) (fun _ _ _ h => h) (.inl ⟨rfl, ?_⟩) hHeld ?_
            · (intro w hSw; go_simp)
            go_frame
            refine ready_list (i := 8) rfl (by kernel_rfl) (fun K hK => ?_)
            go_simp
            refine HB7.mono ?_
            rintro e8 w8 ⟨g8, c8, q8, rfl, hq8, hO8, hb8⟩
            have hby8 : BytesAt w8 (some ⟨g, 0, none⟩) kk bs := hby.held hb8
            have hnew : BytesAt w8 (some ⟨g8, 0, none⟩) q8 bs := Ob.bytes hO8 V.out.2.2.2.1
            have hB8 := V.out.2.2.1.trans (hb8.mono V.out.2.2.1.size)
            have HS := same_any (V.out.1.held hb8) (V.out.2.1.held hb8)
            have V8 := Lib.hid hB8
            refine hK.out _ _ hby8 (fun hHeld => ?_)
            clear hK K HB7 hq8 hO8 hb8 hB8 hby
            try go_frame
            refine ready_list (i := 9) rfl (by kernel_rfl) (fun K hK => ?_)
            have hcv := cv.out w8 _ _ c8 hnew
            go_simp
            refine hK.out _ _ hby8 (fun hHeld => ?_)
            clear hK K hcv hnew
            try go_frame
            refine take_list (i := 10) (v := .bool true) rfl (by kernel_rfl) (by kernel_rfl) (by kernel_rfl) (fun _ _ _ h => h) (.inl ⟨rfl, ?_⟩) hHeld ?_
            · (intro w hSw; go_simp)
            go_frame
            refine take_list (i := 11) (v := .bool true) rfl (by kernel_rfl) (by kernel_rfl) (by kernel_rfl) (fun _ _ _ h => h) (.inl ⟨rfl, ?_⟩) hHeld ?_
            · (intro w hSw; go_simp)
            go_frame
            refine take_list (i := 12) (v := .bool true) rfl (by kernel_rfl) (by kernel_rfl) (by kernel_rfl) (fun _ _ _ h => h) (.inl ⟨rfl, ?_⟩) hHeld ?_
            · (intro w hSw; go_simp)
            go_frame
            refine take_list (i := 13) (v := .int .i64 0) rfl (by kernel_rfl) (by kernel_rfl) (by kernel_rfl) (fun _ _ _ h => h) (.inl ⟨rfl, ?_⟩) hHeld ?_
            · (intro w hSw; go_simp)
            go_frame
            refine take_list (i := 14) (v := .bool true) rfl (by kernel_rfl) (by kernel_rfl) (by kernel_rfl) (fun _ _ _ h => h) (.inl ⟨rfl, ?_⟩) hHeld ?_
            · (intro w hSw; go_simp)
            go_frame
            refine take_list (i := 15) (v := .bool true) rfl (by kernel_rfl) (by kernel_rfl) (by kernel_rfl) (fun _ _ _ h => h) (.inl ⟨rfl, ?_⟩) hHeld ?_
            · (intro w hSw; go_simp)
            go_frame
            refine take_list (i := 16) (v := .bool true) rfl (by kernel_rfl) (by kernel_rfl) (by kernel_rfl) (fun _ _ _ h => h) (.inl ⟨rfl, ?_⟩) hHeld ?_
            · (intro w hSw; go_simp)
            go_frame
            refine take_list (i := 17) (v := .int .i64 (a1 : Nat)) rfl (by kernel_rfl) (by kernel_rfl) (by kernel_rfl) (fun _ _ _ h => h) (.inl ⟨rfl, ?_⟩) hHeld ?_
            · (intro w hSw; go_simp)
            go_frame
            refine take_list (i := 18) (v := .int .i64 (a1 : Nat)) rfl (by kernel_rfl) (by kernel_rfl) (by kernel_rfl) (fun _ _ _ h => h) (.inl ⟨rfl, ?_⟩) hHeld ?_
            · (intro w hSw; go_simp)
            go_frame
            refine take_list (i := 19) (v := .bool true) rfl (by kernel_rfl) (by kernel_rfl) (by kernel_rfl) (fun _ _ _ h => h) (.inl ⟨rfl, ?_⟩) hHeld ?_
            · (intro w hSw; go_simp)
            go_frame
            refine take_list (i := 20) (v := .bool true) rfl (by kernel_rfl) (by kernel_rfl) (by kernel_rfl) (fun _ _ _ h => h) (.inl ⟨rfl, ?_⟩) hHeld ?_
            · (intro w hSw; go_simp)
            go_frame
            refine take_list (i := 21) (v := .bool true) rfl (by kernel_rfl) (by kernel_rfl) (by kernel_rfl) (fun _ _ _ h => h) (.inl ⟨rfl, ?_⟩) hHeld ?_
            · (intro w hSw; go_simp)
            go_frame
            refine take_list (i := 22) (v := .int .i64 (a2 : Nat)) rfl (by kernel_rfl) (by kernel_rfl) (by kernel_rfl) (fun _ _ _ h => h) (.inl ⟨rfl, ?_⟩) hHeld ?_
            · (intro w hSw; go_simp)
            go_frame
            refine take_list (i := 23) (v := .int .i64 (a2 : Nat)) rfl (by kernel_rfl) (by kernel_rfl) (by kernel_rfl) (fun _ _ _ h => h) (.inl ⟨rfl, ?_⟩) hHeld ?_
            · (intro w hSw; go_simp)
            go_frame
            refine take_list (i := 24) (v := .bool true) rfl (by kernel_rfl) (by kernel_rfl) (by kernel_rfl) (fun _ _ _ h => h) (.inl ⟨rfl, ?_⟩) hHeld ?_
            · (intro w hSw; go_simp)
            go_frame
            refine take_list (i := 25) (v := .bool true) rfl (by kernel_rfl) (by kernel_rfl) (by kernel_rfl) (fun _ _ _ h => h) (.inl ⟨rfl, ?_⟩) hHeld ?_
            · (intro w hSw; go_simp)
            go_frame
            refine take_list (i := 26) (v := .bool true) rfl (by kernel_rfl) (by kernel_rfl) (by kernel_rfl) (fun _ _ _ h => h) (.inl ⟨rfl, ?_⟩) hHeld ?_
            · (intro w hSw; go_simp)
            go_frame
            refine take_list (i := 27) (v := .int .i64 (kk : Nat)) rfl (by kernel_rfl) (by kernel_rfl) (by kernel_rfl) (fun _ _ _ h => h) (.inl ⟨rfl, ?_⟩) hHeld ?_
            · (intro w hSw; go_simp)
            go_frame
            refine take_list (i := 28) (v := .slice (some ⟨g, 0, none⟩) kk c) rfl (by kernel_rfl) (by kernel_rfl) (by kernel_rfl) (fun _ _ _ h => h) (.inl ⟨rfl, ?_⟩) hHeld ?_
            · (intro w hSw; go_simp)
            go_frame
            refine take_list (i := 29) (v := .int .i64 (kk : Nat)) rfl (by kernel_rfl) (by kernel_rfl) (by kernel_rfl) (fun _ _ _ h => h) (.inl ⟨rfl, ?_⟩) hHeld ?_
            · (intro w hSw; go_simp)
            go_frame
            refine take_list (i := 30) (v := .bool true) rfl (by kernel_rfl) (by kernel_rfl) (by kernel_rfl) (fun _ _ _ h => h) (.inl ⟨rfl, ?_⟩) hHeld ?_
            · (intro w hSw; go_simp)
            go_frame
            refine take_list (i := 31) (v := .bool true) rfl (by kernel_rfl) (by kernel_rfl) (by kernel_rfl) (fun _ _ _ h => h) (.inl ⟨rfl, ?_⟩) hHeld ?_
            · (intro w hSw; go_simp)
            go_frame
            refine take_list (i := 32) (v := .bool true) rfl (by kernel_rfl) (by kernel_rfl) (by kernel_rfl) (fun _ _ _ h => h) (.inl ⟨rfl, ?_⟩) hHeld ?_
            · (intro w hSw; go_simp)
            go_frame
            refine take_list (i := 33) (v := .slice A2 k cp2) rfl (by kernel_rfl) (by kernel_rfl) (by kernel_rfl) (fun _ _ _ h => h) (.inl ⟨rfl, ?_⟩) hHeld ?_
            · (intro w hSw; go_simp)
            go_frame
            refine take_list (i := 34) (v := .slice A k cap) rfl (by kernel_rfl) (by kernel_rfl) (by kernel_rfl) (fun _ _ _ h => h) (.inl ⟨rfl, ?_⟩) hHeld ?_
            · (intro w hSw; go_simp)
            go_frame
            refine ready_list (i := 35) rfl (by kernel_rfl) (fun K hK => ?_)
            go_simp
            refine HS.mono ?_
            rintro e9 w9 ⟨rfl, hb9⟩
            have V9 := Lib.hid (V8.out.trans (hb9.mono V8.out.size))
            refine hK.out _ _ (hby8.held hb9) (fun hHeld => ?_)
            clear hK K HS hb9 hby8
            try go_frame
            refine take_list (i := 36) (v := .bool true) rfl (by kernel_rfl) (by kernel_rfl) (by kernel_rfl) (fun _ _ _ h => h) (.inl ⟨rfl, ?_⟩) hHeld ?_
            · (intro w hSw; go_simp)
            go_frame
            refine ready_list (i := 37) rfl (by kernel_rfl) (fun K hK => ?_)
            go_simp
            refine hK.out _ _ hHeld (fun hHeld => ?_)
            clear hK K
            refine wpAnyH_done (by kernel_rfl) ?_ _
            try go_frame
            go_wp2_with fail
            go_ret
            exact ⟨rfl, V9.out⟩
end Go.Proofs.Ytnpocnfmekgieaa
