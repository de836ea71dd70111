/-
  ScriptReads: bytes that begin with a net, up to what is left of them.
-/
import Derived.Test.YtnpocnfmekgieaaScRw
namespace Go.Proofs.Ytnpocnfmekgieaa
open Go.RowKit Go.Maps Sc
attribute [local go_sem] Oper.semAt_some

theorem sl_turn {w w' : World} {b off n cap : Nat} {bs : List Nat} {L : List Nat} (h : Sl w (some ⟨b, off, none⟩) n cap bs) (t : Turn L w w') (hb : b ∉ L) : Sl w' (some ⟨b, off, none⟩) n cap bs :=
  ⟨⟨h.bytes.1, h.bytes.2.1, h.bytes.2.2.1, fun k hk => by
    obtain ⟨ad, e, hc⟩ := h.bytes.2.2.2 k hk
    cases e
    exact ⟨_, rfl, t.cell hc (by rw [add_block]; exact hb)⟩⟩, h.cap, h.plain⟩
theorem wrapu32 {z : Int} (h0 : 0 ≤ z) (h1 : z < 4294967296) : IntKind.u32.wrap z = z := by simp [IntKind.wrap, IntKind.bits, IntKind.signed]; omega
theorem cut_at {W : World} {b off m c k : Nat} {bs : List Nat} (h : Sl W (some ⟨b, off, none⟩) m c bs) (hk : k ≤ m) : ∃ A' c', (∀ W' : World, (Instr.slice 32 (.slice (some ⟨b, off, none⟩) m c) (some (.int .i64 (k : Int))) none none).run Try.prog W' = .ok (.slice A' (m - k) c') W') ∧ (∀ u, Sl u (some ⟨b, off, none⟩) m c bs → Sl u A' (m - k) c' (bs.drop k)) := by
  refine ⟨_, _, fun W' => cut_low _ m c k hk h.cap W' rfl rfl rfl rfl, fun u hu => ?_⟩
  by_cases e : c = k
  · rw [if_pos e]
    have hm : m = k := by have := hu.cap; omega
    subst hm
    exact ⟨⟨by rw [List.length_drop, hu.bytes.1], by unfold maxLen; omega, fun c hc => hu.bytes.2.2.1 c (List.mem_of_mem_drop hc), fun k hk => by omega⟩, by omega, fun h => by omega⟩
  · rw [if_neg e]
    have := hu.rest k hk
    rw [show Option.map (fun x => x.add k) (some (⟨b, off, none⟩ : Addr)) = some ⟨b, off + k, none⟩ by rw [Option.map_some, Addr.add_mid]]
    exact this
set_option maxRecDepth 100000 in
set_option maxHeartbeats 16000000 in
theorem reads_good {A : Option Addr} {n cap : Nat} {bs : List Nat} {w : World} (h : Sl w A n cap bs) (hn : n ≤ 800) (hh : Sc.headed bs = true) :
    Calls Try.prog 4 #[.slice A n cap] w fun x w' => x = .returned (.bool true) ∧ Below w.heap.size w w' := by
  have hl := h.bytes.1
  have hcap := h.cap
  have hhd := hh
  unfold Sc.headed at hh
  rw [Bool.and_eq_true, decide_eq_true_eq, hl] at hh
  obtain ⟨h3, hsc⟩ := hh
  unfold Sc.scripted at hsc
  simp only [Bool.and_eq_true, decide_eq_true_eq] at hsc
  obtain ⟨⟨⟨a0, a1⟩, a2⟩, a3⟩ := hsc
  have d0 : decide ((800 : Int) < (n : Int)) = false := decide_eq_false (by omega)
  have d1 : decide ((n : Int) < 3) = false := decide_eq_false (by omega)
  obtain ⟨b, off, rfl⟩ := h.plain (by omega)
  have d2 : decide (((bs.getD 0 0 : Nat) : Int) < 1) = false := decide_eq_false (by omega)
  have d3 : decide ((8 : Int) < ((bs.getD 0 0 : Nat) : Int)) = false := decide_eq_false (by omega)
  have d4 : decide ((256 : Int) * ((bs.getD 1 0 : Nat) : Int) + ((bs.getD 2 0 : Nat) : Int) < 1) = false := decide_eq_false (by omega)
  have d5 : decide ((512 : Int) < (256 : Int) * ((bs.getD 1 0 : Nat) : Int) + ((bs.getD 2 0 : Nat) : Int)) = false := decide_eq_false (by omega)
  have hx0 := h.bytes.lt 0
  have hx1 := h.bytes.lt 1
  have hx2 := h.bytes.lt 2
  have i0 : (0 : Int) < (n : Int) := by omega
  have i1 : (1 : Int) < (n : Int) := by omega
  have i2 : (2 : Int) < (n : Int) := by omega
  obtain ⟨ss, hss⟩ : ∃ ss, ss = bs.getD 1 0 * 256 + bs.getD 2 0 := ⟨_, rfl⟩
  have H := Lib.hid (And.intro h (And.intro hhd (And.intro hl h3)))
  have hs512 : ss ≤ 512 := by omega
  have hn8 : bs.getD 0 0 ≤ 8 := by omega
  clear h hhd hl a0 a1 a2 a3
  go_enter Try.func4, Try.ntmps4
  go_upto_region 3 with (go_at_call 7; refine (head_any w).mono ?_; rintro e w1 ⟨rfl, hb1⟩)
  have HD := decode_good (H.out.1.held hb1) (by omega) H.out.2.1
  rw [← hss] at HD
  have B1 := Lib.hid hb1
  clear hb1
  go_wp2_with fail
  refine HD.mono ?_
  rintro e1 w2 ⟨v, l, k, e, rfl, hO, hE, hb2⟩
  have hb := next B1.out hb2
  obtain ⟨A2, cp2, rfl, hEl⟩ := Oe.el hO (fun x hx => by
    have := right_ok (hE.right x hx).1
    exact ⟨⟨by have := this.kind1; omega, by have := this.kind2; omega, by have := this.i1; omega, by have := this.i2; omega, by have := this.k1; omega, by have := this.k2; omega, by have := this.n1; omega, by have := this.n2; omega, (hE.right x hx).2, by have := this.len1; omega, by have := this.len2; omega⟩, by have := this.few; unfold maxLen; omega⟩)
  have h2 := H.out.1.held hb
  have c0 : w2.cell? ⟨b, off, none⟩ = some (.int .u8 (bs.getD 0 0 : Nat)) := h2.at_ (k := 0) (by omega)
  have c1 : w2.cell? ⟨b, off + 1, none⟩ = some (.int .u8 (bs.getD 1 0 : Nat)) := h2.at_ (k := 1) (by omega)
  have c2 : w2.cell? ⟨b, off + 2, none⟩ = some (.int .u8 (bs.getD 2 0 : Nat)) := h2.at_ (k := 2) (by omega)
  obtain ⟨ez, hez⟩ : ∃ z : Int, z = (e : Int) := ⟨_, rfl⟩
  rw [← hez]
  have EZ := Lib.hid hez
  clear hez
  have SCR := Lib.hid (show script (bs.getD 0 0) ss l = bs.take k by rw [hss]; exact Evs.take_ hE (by rw [H.out.2.2.1]; exact H.out.2.2.2) H.out.1.bytes.2.2.1)
  have hkn : k ≤ n := by rw [← H.out.2.2.1]; exact hE.le
  have hk3 : 3 ≤ k := by rw [hE.at_]; omega
  have EV := Lib.hid (And.intro hE (And.intro hEl hb))
  clear HD hO hE hb2 hb h2 hEl hss B1
  obtain ⟨x0, hx⟩ : ∃ x0, x0 = bs.getD 0 0 := ⟨_, rfl⟩
  rw [← hx] at c0 hx0 d2 d3 SCR hn8 ⊢
  clear hx
  generalize bs.getD 1 0 = x1 at *
  generalize bs.getD 2 0 = x2 at *
  have k0 := fun d os => cell_regrown c0 d os
  have k1 := fun d os => cell_regrown c1 d os
  have k2 := fun d os => cell_regrown c2 d os
  clear c0 c1 c2
  obtain ⟨N, hN⟩ : ∃ N, N = l.length := ⟨_, rfl⟩
  rw [← hN] at EV ⊢
  have NH := Lib.hid hN
  clear hN
  go_upto_region 6 with fail
  refine wp_region_quiet_below (by kernel_rfl) (by kernel_rfl) ?_
  repeat (go_big_quiet_step (fail))
  refine wpQuiet_nil ?_
  intro _ hw'
  obtain ⟨⟨dq, osq⟩, hw''⟩ := hw'
  subst hw''
  have hbq := below_regrown w2 dq osq
  have EV2 := Lib.hid (And.intro EV.out.1 (And.intro (EV.out.2.1.held hbq) (EV.out.2.2.trans (hbq.mono EV.out.2.2.size))))
  generalize Sort.grow (redrawn w2 dq) osq = w3 at *
  clear k0 k1 k2 hbq EV d2 d3 d4 d5 hx1 hx2
  go_wp2_with fail
  go_loopw [88] (fun v wr => ∃ q : Nat, v = .int .i64 (q : Nat) ∧ q ≤ N ∧ Hid (Below w3.heap.size w3 wr)) (fun v _ => N - (intOf v).toNat)
  case atStart => exact ⟨0, rfl, Nat.zero_le _, Lib.hid (.refl _ _)⟩
  case round =>
    obtain ⟨q, rfl, hqN, R⟩ := hrel
    by_cases hlt : q < N
    · have dq1 : decide ((q : Int) < (N : Int)) = true := decide_eq_true (by omega)
      have hq : q < l.length := by rw [← NH.out]; exact hlt
      obtain ⟨e', he⟩ : ∃ e', l[q] = e' := ⟨_, rfl⟩
      obtain ⟨b2, o2, rfl⟩ := EV2.out.2.1.plain (by omega)
      obtain ⟨c0, c1, c2, c3, c4, c5, c6⟩ := (EV2.out.2.1.held R.out).at_ hq he
      have hri := EV2.out.1.right e' (by rw [← he]; exact List.getElem_mem hq)
      have HL : ∀ u, Calls Try.prog 10 #[.agg #[.int .i64 e'.kind, .int .i64 e'.i, .int .i64 e'.k, .int .i64 e'.n, .int .u32 (e'.a : Nat), .int .i64 e'.len, .string ⟨e'.p.toArray⟩]] u fun x w' => x = .returned (.bool true) ∧ Below u.heap.size u w' := fun u => lright_eq hri.2 hri.1 u
      have iq : (q : Int) < (N : Int) := by omega
      have hN8 : N ≤ 8192 := by have := EV2.out.1.few; have := NH.out; omega
      clear he hri hq
      generalize e'.kind = y0 at *
      generalize e'.i = y1 at *
      generalize e'.k = y2 at *
      generalize e'.n = y3 at *
      generalize e'.a = y4 at *
      generalize e'.len = y5 at *
      generalize (⟨e'.p.toArray⟩ : ByteArray) = s at *
      have X := Lib.hid (R.out.trans ((below_new wr (.cells #[.int .i64 y0, .int .i64 y1, .int .i64 y2, .int .i64 y3, .int .u32 (y4 : Nat), .int .i64 y5, .string s] 30)).mono R.out.size))
      go_wp2_with (go_at_call 10; refine (HL _).mono ?_; rintro e6 w6 ⟨rfl, hb6⟩)
      have R2 := Lib.hid (X.out.trans (hb6.mono X.out.size))
      go_roundw
      case rel => exact ⟨q + 1, by go_num, by omega, R2⟩
      case measure => simp [intOf]; omega
    · obtain rfl : q = N := by omega
      have dq1 : decide ((q : Int) < (q : Int)) = false := decide_eq_false (by omega)
      have hBw := EV2.out.2.2.trans (R.out.mono EV2.out.2.2.size)
      have hSr := H.out.1.held hBw
      have hall : Sc.allRight l = true := by
        unfold Sc.allRight
        rw [List.all_eq_true]
        exact fun x hx => (EV2.out.1.right x hx).1
      have hfl : (flat l).length ≤ 900000 := by have := EV2.out.1.at_; omega
      have dk3 : decide ((k : Int) < 3) = false := decide_eq_false (by omega)
      have dnk : decide ((n : Int) < (k : Int)) = false := decide_eq_false (by omega)
      have sk : ∀ W : World, (Instr.slice 32 (.slice (some ⟨b, off, none⟩) n cap) none (some (.int .i64 (k : Int))) none).run Try.prog W = .ok (.slice (some ⟨b, off, none⟩) k cap) W := fun W => by
        have q1 : (k : Int) ≤ (cap : Int) := by omega
        have q2 : ¬ cap = 0 := by omega
        go_simp
      obtain ⟨A6, c6, hcut, hs6⟩ := cut_at hSr hkn
      go_upto_region 14 with fail
      obtain ⟨SS, hSS⟩ : ∃ SS : ByteArray, SS = ⟨(toU (bs.take k)).toArray⟩ := ⟨_, rfl⟩
      have hby : BytesAt wr.drew (some ⟨b, off, none⟩) k (bs.take k) := by
        have hp := hSr.part 0 k (by omega)
        rw [List.drop_zero, Nat.add_zero] at hp
        exact let t := hp.bytes; ⟨t.1, t.2.1, t.2.2.1, t.2.2.2⟩
      have cv : Hid (∀ (u : World) (X : Option Addr) (m cX : Nat), BytesAt u X m (bs.take k) → (convert 32 9 (.slice X m cX)).run Try.prog u = .ok (.string SS) u) := Lib.hid (fun u X m cX hu => by rw [hSS]; exact conv_str hu)
      have HB7 := lbytes_any (w := wr.drew) ((EV2.out.2.1.held R.out).drew) hall (nn := x0) (ss := ss) (by omega) (by omega) hfl
      rw [SCR.out] at HB7
      have hlt7 : ∀ x ∈ bs.take k, x < 256 := fun x hx => H.out.1.bytes.2.2.1 x (List.mem_of_mem_take hx)
      have V := Lib.hid (And.intro hBw.drew (And.intro hlt7 (And.intro hSr hs6)))
      clear hBw hSr hall hfl hSS hlt7 hs6
      refine wp_region_held_drew (S := fun u => (BytesAt u (some ⟨b, off, none⟩) k (bs.take k))) (by kernel_rfl) hby (fun hHeld => ?_)
      refine take_list (i := 0) (v := .int .i64 (k : Nat)) rfl (by kernel_rfl) (by kernel_rfl) (by kernel_rfl) (fun _ _ _ h => h) (.inl ⟨rfl, ?_⟩) hHeld ?_
      · (intro w hSw; go_simp)
      go_frame
      refine take_list (i := 1) (v := .bool false) rfl (by kernel_rfl) (by kernel_rfl) (by kernel_rfl) (fun _ _ _ h => h) (.inl ⟨rfl, ?_⟩) hHeld ?_
      · (intro w hSw; go_simp)
      go_frame
      refine take_list (i := 2) (v := .bool false) rfl (by kernel_rfl) (by kernel_rfl) (by kernel_rfl) (fun _ _ _ h => h) (.inl ⟨rfl, ?_⟩) hHeld ?_
      · (intro w hSw; go_simp)
      go_frame
      refine take_list (i := 3) (v := .int .i64 (k : Nat)) rfl (by kernel_rfl) (by kernel_rfl) (by kernel_rfl) (fun _ _ _ h => h) (.inl ⟨rfl, ?_⟩) hHeld ?_
      · (intro w hSw; go_simp)
      go_frame
      refine take_list (i := 4) (v := .slice (some ⟨b, off, none⟩) n cap) rfl (by kernel_rfl) (by kernel_rfl) (by kernel_rfl) (fun _ _ _ h => h) (.inl ⟨rfl, ?_⟩) hHeld ?_
      · (intro w hSw; go_simp)
      go_frame
      refine take_list (i := 5) (v := .int .i64 (n : Nat)) rfl (by kernel_rfl) (by kernel_rfl) (by kernel_rfl) (fun _ _ _ h => h) (.inl ⟨rfl, ?_⟩) hHeld ?_
      · (intro w hSw; go_simp)
      go_frame
      refine take_list (i := 6) (v := .bool false) rfl (by kernel_rfl) (by kernel_rfl) (by kernel_rfl) (fun _ _ _ h => h) (.inl ⟨rfl, ?_⟩) hHeld ?_
      · (intro w hSw; go_simp)
      go_frame
      refine take_list (i := 7) (v := .bool false) rfl (by kernel_rfl) (by kernel_rfl) (by kernel_rfl) (fun _ _ _ h => h) (.inl ⟨rfl, ?_⟩) hHeld ?_
      · (intro w hSw; go_simp)
      go_frame
      refine take_list (i := 8) (v := .bool false) rfl (by kernel_rfl) (by kernel_rfl) (by kernel_rfl) (fun _ _ _ h => h) (.inl ⟨rfl, ?_⟩) hHeld ?_
      · (intro w hSw; go_simp)
      go_frame
      refine take_list (i := 9) (v := .int .i64 (x0 : Nat)) rfl (by kernel_rfl) (by kernel_rfl) (by kernel_rfl) (fun _ _ _ h => h) (.inl ⟨rfl, ?_⟩) hHeld ?_
      · (intro w hSw; go_simp)
      go_frame
      refine take_list (i := 10) (v := .int .i64 (ss : Nat)) rfl (by kernel_rfl) (by kernel_rfl) (by kernel_rfl) (fun _ _ _ h => h) (.inl ⟨rfl, ?_⟩) hHeld ?_
      · (intro w hSw; go_simp)
      go_frame
      refine take_list (i := 11) (v := .slice A2 q cp2) rfl (by kernel_rfl) (by kernel_rfl) (by kernel_rfl) (fun _ _ _ h => h) (.inl ⟨rfl, ?_⟩) hHeld ?_
      · (intro w hSw; go_simp)
      go_frame
      refine take_list (i := 14) (v := .slice (some ⟨b, off, none⟩) n cap) rfl (by kernel_rfl) (by kernel_rfl) (by kernel_rfl) (fun _ _ _ h => h) (.inl ⟨rfl, ?_⟩) hHeld ?_
      · (intro w hSw; go_simp)
      go_frame
      refine take_list (i := 15) (v := .int .i64 (k : Nat)) rfl (by kernel_rfl) (by kernel_rfl) (by kernel_rfl) (fun _ _ _ h => h) (.inl ⟨rfl, ?_⟩) hHeld ?_
      · (intro w hSw; go_simp)
      go_frame
      refine take_list (i := 16) (v := .slice (some ⟨b, off, none⟩) k cap) rfl (by kernel_rfl) (by kernel_rfl) (by kernel_rfl) (fun _ _ _ h => h) (.inl ⟨rfl, ?_⟩) hHeld ?_
      · (intro w hSw; go_simp)
      go_frame
      refine take_list (i := 17) (v := .string SS) rfl (by kernel_rfl) (by kernel_rfl) (by kernel_rfl) (fun _ _ _ h => h) (.inl ⟨rfl, ?_⟩) hHeld ?_
      · (intro w hSw; have hcv := cv.out w _ _ cap hSw; go_simp)
      go_frame
      refine ready_list (i := 12) rfl (by kernel_rfl) (fun K hK => ?_)
      go_simp
      refine HB7.mono ?_
      rintro e8 w8 ⟨g8, c8, q8, rfl, hq8, hO8, hb8⟩
      have hby8 : BytesAt w8 (some ⟨b, off, none⟩) k (bs.take k) := hby.held hb8
      have hnew : BytesAt w8 (some ⟨g8, 0, none⟩) q8 (bs.take k) := Ob.bytes hO8 V.out.2.1
      have V8 := Lib.hid (And.intro (V.out.1.trans (hb8.mono V.out.1.size)) (Sl.held (show Sl wr.drew _ _ _ _ from let t := V.out.2.2.1; ⟨t.bytes, t.cap, t.plain⟩) hb8))
      refine hK.out _ _ hby8 (fun hHeld => ?_)
      clear hK K HB7 hq8 hO8 hb8 hby
      try go_frame
      refine ready_list (i := 13) rfl (by kernel_rfl) (fun K hK => ?_)
      have hcv := cv.out w8 _ _ c8 hnew
      go_simp
      refine hK.out _ _ hby8 (fun hHeld => ?_)
      clear hK K hcv hnew
      try go_frame
      refine take_list (i := 18) (v := .bool false) rfl (by kernel_rfl) (by kernel_rfl) (by kernel_rfl) (fun _ _ _ h => h) (.inl ⟨rfl, ?_⟩) hHeld ?_
      · (intro w hSw; go_simp)
      go_frame
      refine take_list (i := 19) (v := .bool false) rfl (by kernel_rfl) (by kernel_rfl) (by kernel_rfl) (fun _ _ _ h => h) (.inl ⟨rfl, ?_⟩) hHeld ?_
      · (intro w hSw; go_simp)
      go_frame
      refine wpAnyH_done (by kernel_rfl) ?_ _
      try go_frame
      clear hby8 hHeld cv sk
      go_upto_region 16 with fail
      obtain ⟨m, hm⟩ : ∃ m, m = n - k := ⟨_, rfl⟩
      rw [← hm] at hcut
      have hbx := below_new w8 (.cells #[.slice A6 m c6] 32)
      have BX := Blk.new w8 32 #[.slice A6 m c6]
      have hS8 := (V.out.2.2.2 w8 V8.out.2).held hbx
      rw [← hm] at hS8
      have Z := Lib.hid (And.intro BX (And.intro hS8 (And.intro (V8.out.1.trans (hbx.mono V8.out.1.size)) hm)))
      clear hbx BX hS8 hm
      go_upto_region 17 with fail
      generalize w8.alloc _ = w9 at *
      generalize w8.heap.size = rb at *
      have x10 : w9.cell? ⟨rb, 0, none⟩ = some (.slice A6 m c6) := Z.out.1.at_ 0
      clear V V8 hcut
      have hcap6 : m ≤ 9223372036854775807 := by have := Z.out.2.2.2; omega
      rcases EV2.out.1.how with ⟨rfl, hk⟩ | ⟨rfl, hk, hfirst⟩ | ⟨rfl, hk, hmany, _⟩
      · obtain rfl : ez = 0 := EZ.out
        have hm0 : m = 0 := by have := Z.out.2.2.2; rw [hk, H.out.2.2.1] at this; omega
        subst hm0
        go_wp2_with fail
        go_ret
        exact ⟨rfl, Z.out.2.2.1⟩
      · obtain rfl : ez = 6 := EZ.out
        have hm1 : 0 < m := by have := Z.out.2.2.2; rw [H.out.2.2.1] at hk; omega
        have dm0 : ((m : Int) == 0) = false := beq_eq_false_iff_ne.2 (by omega)
        obtain ⟨g, o6, rfl⟩ := Z.out.2.1.plain hm1
        by_cases hm16 : m < 16
        · have dm : decide ((m : Int) < 16) = true := decide_eq_true (by omega)
          go_upto_region 21 with fail
          have k0 := fun d os => cell_regrown x10 d os
          refine wp_region_quiet_below (by kernel_rfl) (by kernel_rfl) ?_
          repeat (go_big_quiet_step (fail))
          refine wpQuiet_nil ?_
          intro _ hw'
          obtain ⟨⟨dq2, osq2⟩, hw''⟩ := hw'
          subst hw''
          have B9 := Lib.hid (Z.out.2.2.1.trans ((below_regrown w9 dq2 osq2).mono Z.out.2.2.1.size))
          clear k0
          go_wp2_with fail
          go_ret
          exact ⟨rfl, B9.out⟩
        · have dm : decide ((m : Int) < 16) = false := decide_eq_false (by omega)
          have y15 := Z.out.2.1.bytes.lt 15
          have e15 : w9.cell? ⟨g, o6 + 15, none⟩ = some (.int .u8 ((bs.drop k).getD 15 0 : Nat)) := Z.out.2.1.at_ (k := 15) (by omega)
          have i15 : (15 : Int) < (m : Int) := by omega
          by_cases hroom : m < 16 + (bs.drop k).getD 15 0
          · have dr : decide ((m : Int) < 16 + (((bs.drop k).getD 15 0 : Nat) : Int)) = true := decide_eq_true (by omega)
            generalize (bs.drop k).getD 15 0 = z15 at *
            go_upto_region 21 with fail
            have k0 := fun d os => cell_regrown x10 d os
            have k1 := fun d os => cell_regrown e15 d os
            refine wp_region_quiet_below (by kernel_rfl) (by kernel_rfl) ?_
            repeat (go_big_quiet_step (fail))
            refine wpQuiet_nil ?_
            intro _ hw'
            obtain ⟨⟨dq2, osq2⟩, hw''⟩ := hw'
            subst hw''
            have B9 := Lib.hid (Z.out.2.2.1.trans ((below_regrown w9 dq2 osq2).mono Z.out.2.2.1.size))
            clear k0 k1
            go_wp2_with fail
            go_ret
            exact ⟨rfl, B9.out⟩
          · have dr : decide ((m : Int) < 16 + (((bs.drop k).getD 15 0 : Nat) : Int)) = false := decide_eq_false (by omega)
            have hroomB : room (bs.drop k) = true := by
              unfold room
              rw [Z.out.2.1.bytes.1, decide_eq_true (by omega), decide_eq_true (by omega)]
              rfl
            have hnot : right (parse (bs.drop k)) = false := by
              unfold first at hfirst
              rw [hroomB, Bool.true_and] at hfirst
              exact hfirst
            obtain ⟨z15, hz15⟩ : ∃ z, z = (bs.drop k).getD 15 0 := ⟨_, rfl⟩
            rw [← hz15] at dr e15 y15 hroom
            have NR := Lib.hid (And.intro hroomB (And.intro hnot hz15))
            clear hroomB hnot hz15
            go_upto_region 21 with fail
            have k0 := fun d os => cell_regrown x10 d os
            have k1 := fun d os => cell_regrown e15 d os
            refine wp_region_quiet_below (by kernel_rfl) (by kernel_rfl) ?_
            repeat (go_big_quiet_step (fail))
            refine wpQuiet_nil ?_
            intro _ hw'
            obtain ⟨⟨dq2, osq2⟩, hw''⟩ := hw'
            subst hw''
            have hbz := below_regrown w9 dq2 osq2
            have Z2 := Lib.hid (And.intro (Z.out.1.held hbz) (And.intro (Z.out.2.1.held hbz) (Z.out.2.2.1.trans (hbz.mono Z.out.2.2.1.size))))
            generalize Sort.grow (redrawn w9 dq2) osq2 = w10 at *
            clear k0 k1 hbz x10 e15 dm0 hk hfirst
            go_upto_region 24 with fail
            obtain ⟨D, hD⟩ : ∃ D, D = bs.drop k := ⟨_, rfl⟩
            rw [← hD] at Z2 NR
            have DH := Lib.hid hD
            clear hD
            have hDl := Z2.out.2.1.bytes.1
            have E0 := Lib.hid (show ecs ⟨(D.getD 0 0 : Nat), (val ((D.drop 1).take 3) : Nat), (val ((D.drop 4).take 3) : Nat), (val ((D.drop 7).take 3) : Nat), 0, 0, ((D.drop 16).take z15).map UInt8.ofNat⟩ = #[.int .i64 (D.getD 0 0 : Nat), .int .i64 (val ((D.drop 1).take 3) : Nat), .int .i64 (val ((D.drop 4).take 3) : Nat), .int .i64 (val ((D.drop 7).take 3) : Nat), .int .u32 0, .int .i64 0, .string ⟨(toU ((D.drop 16).take z15)).toArray⟩] from rfl)
            have hx0' := Z2.out.2.1.bytes.lt 0
            have l3 : ∀ o, val ((D.drop o).take 3) < 16777216 := fun o => val_lt 3 _ (by simp; omega) (fun c hc => Z2.out.2.1.bytes.2.2.1 c (List.mem_of_mem_drop (List.mem_of_mem_take hc)))
            have hv1 := l3 1
            have hv4 := l3 4
            have hv7 := l3 7
            have f0 : w10.cell? ⟨g, o6, none⟩ = some (.int .u8 (D.getD 0 0 : Nat)) := Z2.out.2.1.at_ (k := 0) (by omega)
            have f15 : w10.cell? ⟨g, o6 + 15, none⟩ = some (.int .u8 (z15 : Nat)) := by rw [NR.out.2.2]; exact Z2.out.2.1.at_ (k := 15) (by omega)
            have fb : w10.cell? ⟨rb, 0, none⟩ = some (.slice (some ⟨g, o6, none⟩) m c6) := Z2.out.1.at_ 0
            have hmc := Z2.out.2.1.cap
            obtain ⟨A7, c7, hA7, hbp⟩ : ∃ (A' : Option Addr) (c' : Nat), (∀ W : World, (Instr.slice 32 (.slice (some ⟨g, o6, none⟩) m c6) (some (.int .i64 16)) (some (.int .i64 (16 + (z15 : Int)))) none).run Try.prog W = .ok (.slice A' z15 c') W) ∧ ∀ W, Sl W (some ⟨g, o6, none⟩) m c6 D → BytesAt W A' z15 ((D.drop 16).take z15) := by
              by_cases e0 : z15 = 0
              · subst e0
                refine ⟨if c6 = 16 then some ⟨g, o6, none⟩ else some ⟨g, o6 + 16, none⟩, c6 - 16, fun W => ?_, fun W hW => ?_⟩
                · have d1 : (16 : Int) ≤ (c6 : Int) := by omega
                  by_cases e2 : c6 = 16
                  · subst e2; go_simp
                  · rw [if_neg e2]; go_simp
                · rw [List.take_zero]
                  exact ⟨rfl, by unfold maxLen; omega, by simp, fun k hk => by omega⟩
              · refine ⟨some ⟨g, o6 + 16, none⟩, c6 - 16, fun W => ?_, fun W hW => (hW.part 16 _ (by omega)).bytes⟩
                have d1 : (16 : Int) ≤ 16 + (z15 : Int) := by omega
                have d2 : 16 + (z15 : Int) ≤ (c6 : Int) := by omega
                have d3 : ¬ c6 = 16 := by omega
                have d4 : (16 + (z15 : Int)).toNat - 16 = z15 := by omega
                go_simp
                try exact d4
            have N1 := fun u (h1 : Blk 32 u rb #[.slice (some ⟨g, o6, none⟩) m c6]) (h2 : Sl u (some ⟨g, o6, none⟩) m c6 D) => num_any h1 h2 (o := 1) (by omega) (by omega) (z := 1) rfl
            have N4 := fun u (h1 : Blk 32 u rb #[.slice (some ⟨g, o6, none⟩) m c6]) (h2 : Sl u (some ⟨g, o6, none⟩) m c6 D) => num_any h1 h2 (o := 4) (by omega) (by omega) (z := 4) rfl
            have N7 := fun u (h1 : Blk 32 u rb #[.slice (some ⟨g, o6, none⟩) m c6]) (h2 : Sl u (some ⟨g, o6, none⟩) m c6 D) => num_any h1 h2 (o := 7) (by omega) (by omega) (z := 7) rfl
            have hy0v : ∃ y0, y0 = D.getD 0 0 := ⟨_, rfl⟩
            obtain ⟨y0, hy0⟩ := hy0v
            obtain ⟨v1, hv1e⟩ : ∃ v, v = val ((D.drop 1).take 3) := ⟨_, rfl⟩
            obtain ⟨v4, hv4e⟩ : ∃ v, v = val ((D.drop 4).take 3) := ⟨_, rfl⟩
            obtain ⟨v7, hv7e⟩ : ∃ v, v = val ((D.drop 7).take 3) := ⟨_, rfl⟩
            obtain ⟨part, hpart⟩ : ∃ part, part = (D.drop 16).take z15 := ⟨_, rfl⟩
            obtain ⟨ST, hST⟩ : ∃ ST : ByteArray, ST = ⟨(toU part).toArray⟩ := ⟨_, rfl⟩
            rw [← hv1e] at N1 hv1
            rw [← hv4e] at N4 hv4
            rw [← hv7e] at N7 hv7
            rw [← hy0] at hx0' f0
            rw [← hpart] at hbp
            have LET := Lib.hid (And.intro hy0 (And.intro hv1e (And.intro hv4e (And.intro hv7e (And.intro hpart hST)))))
            have cv7 : Hid (∀ (u : World), BytesAt u A7 z15 part → (convert 32 9 (.slice A7 z15 c7)).run Try.prog u = .ok (.string ST) u) := Lib.hid (fun u hu => by rw [hST]; exact conv_str hu)
            have SF : Hid (∀ u, Blk 32 u rb #[.slice (some ⟨g, o6, none⟩) m c6] → Sl u (some ⟨g, o6, none⟩) m c6 D → (u.cell? ⟨rb, 0, none⟩ = some (.slice (some ⟨g, o6, none⟩) m c6) ∧ u.cell? ⟨g, o6, none⟩ = some (.int .u8 (y0 : Nat)) ∧ u.cell? ⟨g, o6 + 15, none⟩ = some (.int .u8 (z15 : Nat)) ∧ BytesAt u A7 z15 part)) := Lib.hid (fun u h1 h2 => ⟨h1.at_ 0, by rw [hy0]; exact h2.at_ (k := 0) (by omega), by rw [NR.out.2.2]; exact h2.at_ (k := 15) (by omega), hbp u h2⟩)
            have P0 := Lib.hid (And.intro (show Blk 32 w10.drew rb #[.slice (some ⟨g, o6, none⟩) m c6] from Z2.out.1.drew) (And.intro (show Sl w10.drew (some ⟨g, o6, none⟩) m c6 D from let t := Z2.out.2.1; ⟨t.bytes, t.cap, t.plain⟩) Z2.out.2.2.drew))
            have GB : Hid (∀ u, Sl u (some ⟨g, o6, none⟩) m c6 D → g < u.heap.size) := Lib.hid (fun u h => cell_lt (h.at_ (k := 0) hm1))
            have q0 := SF.out _ P0.out.1 P0.out.2.1
            have i0m : (0 : Int) < (m : Int) := by omega
            clear E0 hy0 hv1e hv4e hv7e hpart hST hbp l3 hDl Z2 f0 f15 fb EV2 SCR R
            go_cut [12] from 145 (fun v u => ∃ ge, v = .pointer (some ⟨ge, 0, none⟩) ∧ Blk 30 u ge #[.int .i64 (y0 : Nat), .int .i64 (v1 : Nat), .int .i64 (v4 : Nat), .int .i64 (v7 : Nat), .int .u32 0, .int .i64 0, .string ST] ∧ Blk 32 u rb #[.slice (some ⟨g, o6, none⟩) m c6] ∧ Sl u (some ⟨g, o6, none⟩) m c6 D ∧ Below w.heap.size w u ∧ ge ≠ rb ∧ ge ≠ g ∧ w.heap.size ≤ ge)
            case first =>
              refine wp_region_held_drew (S := fun u => (u.cell? ⟨rb, 0, none⟩ = some (.slice (some ⟨g, o6, none⟩) m c6) ∧ u.cell? ⟨g, o6, none⟩ = some (.int .u8 (y0 : Nat)) ∧ u.cell? ⟨g, o6 + 15, none⟩ = some (.int .u8 (z15 : Nat)) ∧ BytesAt u A7 z15 part)) (by kernel_rfl) q0 (fun hHeld => ?_)
              refine take_list (i := 0) (v := .slice (some ⟨g, o6, none⟩) m c6) rfl (by kernel_rfl) (by kernel_rfl) (by kernel_rfl) (fun _ _ _ h => h) (.inl ⟨rfl, ?_⟩) hHeld ?_
              · (intro w hSw; go_simp)
              go_frame
              refine take_list (i := 1) (v := .pointer (some ⟨g, o6, none⟩)) rfl (by kernel_rfl) (by kernel_rfl) (by kernel_rfl) (fun _ _ _ h => h) (.inl ⟨rfl, ?_⟩) hHeld ?_
              · (intro w hSw; go_simp; try (intro e0; omega))
              go_frame
              refine take_list (i := 2) (v := .int .u8 (y0 : Nat)) rfl (by kernel_rfl) (by kernel_rfl) (by kernel_rfl) (fun _ _ _ h => h) (.inl ⟨rfl, ?_⟩) hHeld ?_
              · (intro w hSw; go_simp)
              go_frame
              refine take_list (i := 3) (v := .int .i64 (y0 : Nat)) rfl (by kernel_rfl) (by kernel_rfl) (by kernel_rfl) (fun _ _ _ h => h) (.inl ⟨rfl, ?_⟩) hHeld ?_
              · (intro w hSw; go_simp; try exact wrap64 (by omega))
              go_frame
              refine take_list (i := 4) (v := .func (.func 15) #[] #[.pointer (some ⟨rb, 0, none⟩)]) rfl (by kernel_rfl) (by kernel_rfl) (by kernel_rfl) (fun _ _ _ h => h) (.inl ⟨rfl, ?_⟩) hHeld ?_
              · (intro w hSw; go_simp)
              go_frame
              refine take_list (i := 6) (v := .func (.func 15) #[] #[.pointer (some ⟨rb, 0, none⟩)]) rfl (by kernel_rfl) (by kernel_rfl) (by kernel_rfl) (fun _ _ _ h => h) (.inl ⟨rfl, ?_⟩) hHeld ?_
              · (intro w hSw; go_simp)
              go_frame
              refine take_list (i := 8) (v := .func (.func 15) #[] #[.pointer (some ⟨rb, 0, none⟩)]) rfl (by kernel_rfl) (by kernel_rfl) (by kernel_rfl) (fun _ _ _ h => h) (.inl ⟨rfl, ?_⟩) hHeld ?_
              · (intro w hSw; go_simp)
              go_frame
              refine take_list (i := 10) (v := .slice (some ⟨g, o6, none⟩) m c6) rfl (by kernel_rfl) (by kernel_rfl) (by kernel_rfl) (fun _ _ _ h => h) (.inl ⟨rfl, ?_⟩) hHeld ?_
              · (intro w hSw; go_simp)
              go_frame
              refine take_list (i := 11) (v := .slice (some ⟨g, o6, none⟩) m c6) rfl (by kernel_rfl) (by kernel_rfl) (by kernel_rfl) (fun _ _ _ h => h) (.inl ⟨rfl, ?_⟩) hHeld ?_
              · (intro w hSw; go_simp)
              go_frame
              refine take_list (i := 12) (v := .pointer (some ⟨g, o6 + 15, none⟩)) rfl (by kernel_rfl) (by kernel_rfl) (by kernel_rfl) (fun _ _ _ h => h) (.inl ⟨rfl, ?_⟩) hHeld ?_
              · (intro w hSw; go_simp; try (intro e0; omega))
              go_frame
              refine take_list (i := 13) (v := .int .u8 (z15 : Nat)) rfl (by kernel_rfl) (by kernel_rfl) (by kernel_rfl) (fun _ _ _ h => h) (.inl ⟨rfl, ?_⟩) hHeld ?_
              · (intro w hSw; go_simp)
              go_frame
              refine take_list (i := 14) (v := .int .i64 (z15 : Nat)) rfl (by kernel_rfl) (by kernel_rfl) (by kernel_rfl) (fun _ _ _ h => h) (.inl ⟨rfl, ?_⟩) hHeld ?_
              · (intro w hSw; go_simp; try exact wrap64 (by omega))
              go_frame
              refine take_list (i := 15) (v := .int .i64 (16 + (z15 : Int))) rfl (by kernel_rfl) (by kernel_rfl) (by kernel_rfl) (fun _ _ _ h => h) (.inl ⟨rfl, ?_⟩) hHeld ?_
              · (intro w hSw; go_simp; try exact wrap64b (by omega))
              go_frame
              refine take_list (i := 16) (v := .slice A7 z15 c7) rfl (by kernel_rfl) (by kernel_rfl) (by kernel_rfl) (fun _ _ _ h => h) (.inl ⟨rfl, ?_⟩) hHeld ?_
              · (intro w hSw; go_simp)
              go_frame
              refine take_list (i := 17) (v := .string ST) rfl (by kernel_rfl) (by kernel_rfl) (by kernel_rfl) (fun _ _ _ h => h) (.inl ⟨rfl, ?_⟩) hHeld ?_
              · (intro w hSw; have hcv := cv7.out w hSw.2.2.2; go_simp)
              go_frame
              clear hA7 cv7
              refine ready_two (i := 5) (i' := 19) rfl rfl (by kernel_rfl) (fun K hK => ?_) (fun K hK => ?_)
              · go_simp
                refine (N1 _ P0.out.1 P0.out.2.1).mono ?_
                rintro e u1 ⟨rfl, hb0⟩
                have P1 := Lib.hid (And.intro (P0.out.1.held hb0) (And.intro (P0.out.2.1.held hb0) (P0.out.2.2.trans (hb0.mono P0.out.2.2.size))))
                refine hK.out _ _ (SF.out _ P1.out.1 P1.out.2.1) (fun hHeld => ?_)
                clear hK K hb0
                try go_frame
                refine ready_two (i := 7) (i' := 19) rfl rfl (by kernel_rfl) (fun K hK => ?_) (fun K hK => ?_)
                · go_simp
                  refine (N4 _ P1.out.1 P1.out.2.1).mono ?_
                  rintro e u2 ⟨rfl, hb1⟩
                  have P2 := Lib.hid (And.intro (P1.out.1.held hb1) (And.intro (P1.out.2.1.held hb1) (P1.out.2.2.trans (hb1.mono P1.out.2.2.size))))
                  refine hK.out _ _ (SF.out _ P2.out.1 P2.out.2.1) (fun hHeld => ?_)
                  clear hK K hb1
                  try go_frame
                  refine ready_two (i := 9) (i' := 19) rfl rfl (by kernel_rfl) (fun K hK => ?_) (fun K hK => ?_)
                  · go_simp
                    refine (N7 _ P2.out.1 P2.out.2.1).mono ?_
                    rintro e u3 ⟨rfl, hb2⟩
                    have P3 := Lib.hid (And.intro (P2.out.1.held hb2) (And.intro (P2.out.2.1.held hb2) (P2.out.2.2.trans (hb2.mono P2.out.2.2.size))))
                    refine hK.out _ _ (SF.out _ P3.out.1 P3.out.2.1) (fun hHeld => ?_)
                    clear hK K hb2
                    try go_frame
                    refine take_list (i := 18) (v := .agg #[.int .i64 (y0 : Nat), .int .i64 (v1 : Nat), .int .i64 (v4 : Nat), .int .i64 (v7 : Nat), .int .u32 0, .int .i64 0, .string ST]) rfl (by kernel_rfl) (by kernel_rfl) (by kernel_rfl) (fun _ _ _ h => h) (.inl ⟨rfl, ?_⟩) hHeld ?_
                    · (intro w hSw; go_simp)
                    go_frame
                    refine ready_list (i := 19) rfl (by kernel_rfl) (fun K hK => ?_)
                    go_simp
                    have hba := below_new u3 (.cells (ecs zev) 30)
                    have P4 := Lib.hid (And.intro (P3.out.1.held hba) (And.intro (P3.out.2.1.held hba) (P3.out.2.2.trans (hba.mono P3.out.2.2.size))))
                    have Q4 := Lib.hid (And.intro (Blk.new u3 30 (ecs zev)) (And.intro (show u3.heap.size ≠ rb from fun e => by have := P3.out.1.lt; omega) (And.intro (show u3.heap.size ≠ g from fun e => by have := GB.out _ P3.out.2.1; omega) (show w.heap.size ≤ u3.heap.size from P3.out.2.2.size))))
                    refine hK.out _ _ (SF.out _ P4.out.1 P4.out.2.1) (fun hHeld => ?_)
                    clear hK K hba
                    try go_frame
                    unfold ecs zev at P4 Q4
                    generalize u3.alloc _ = u4 at *
                    generalize u3.heap.size = ge at *
                    refine ready_list (i := 20) rfl (by kernel_rfl) (fun K hK => ?_)
                    rw [if_pos (by rfl)]
                    refine wp_store_mid _ _ _ rfl _ _ #[.int .i64 (y0 : Nat), .int .i64 (v1 : Nat), .int .i64 (v4 : Nat), .int .i64 (v7 : Nat), .int .u32 0, .int .i64 0, .string ST] rfl rfl Q4.out.1.ev_there7 (by show _ = some 7; kernel_rfl) (by simp [Value.oneCell']) ?_
                    have hT : Turn [ge] u4 (u4.setCells ge 0 [.int .i64 (y0 : Nat), .int .i64 (v1 : Nat), .int .i64 (v4 : Nat), .int .i64 (v7 : Nat), .int .u32 0, .int .i64 0, .string ST]) := Turn.setCells _ (by simp) _ _
                    have hE5 : Blk 30 (u4.setCells ge 0 [.int .i64 (y0 : Nat), .int .i64 (v1 : Nat), .int .i64 (v4 : Nat), .int .i64 (v7 : Nat), .int .u32 0, .int .i64 0, .string ST]) ge #[.int .i64 (y0 : Nat), .int .i64 (v1 : Nat), .int .i64 (v4 : Nat), .int .i64 (v7 : Nat), .int .u32 0, .int .i64 0, .string ST] := Q4.out.1.setCells [.int .i64 (y0 : Nat), .int .i64 (v1 : Nat), .int .i64 (v4 : Nat), .int .i64 (v7 : Nat), .int .u32 0, .int .i64 0, .string ST] 0
                    have hB5 := P4.out.1.turn hT (by simp; exact fun e => Q4.out.2.1 e.symm)
                    have hS5 : Sl (u4.setCells ge 0 [.int .i64 (y0 : Nat), .int .i64 (v1 : Nat), .int .i64 (v4 : Nat), .int .i64 (v7 : Nat), .int .u32 0, .int .i64 0, .string ST]) (some ⟨g, o6, none⟩) m c6 D := sl_turn P4.out.2.1 hT (by simp; exact fun e => Q4.out.2.2.1 e.symm)
                    have R5 := Lib.hid (And.intro hE5 (And.intro hB5 (And.intro hS5 (And.intro (P4.out.2.2.trans (hT.below (B := w.heap.size) (by simp; exact Q4.out.2.2.2) P4.out.2.2.size)) Q4.out.2))))
                    refine hK.out _ _ (SF.out _ hB5 hS5) (fun hHeld => ?_)
                    clear hK K hT hE5 hB5 hS5
                    refine wpAnyH_done (by kernel_rfl) ?_ _
                    try go_frame
                    go_wp2_with fail
                    go_meet
                    case rel => exact ⟨ge, rfl, R5.out.1, R5.out.2.1, R5.out.2.2.1, R5.out.2.2.2.1, R5.out.2.2.2.2.1, R5.out.2.2.2.2.2.1, R5.out.2.2.2.2.2.2⟩
                  · go_simp
                    have hba := below_new u2 (.cells (ecs zev) 30)
                    have P3 := Lib.hid (And.intro (P2.out.1.held hba) (And.intro (P2.out.2.1.held hba) (P2.out.2.2.trans (hba.mono P2.out.2.2.size))))
                    have Q3 := Lib.hid (And.intro (Blk.new u2 30 (ecs zev)) (And.intro (show u2.heap.size ≠ rb from fun e => by have := P2.out.1.lt; omega) (And.intro (show u2.heap.size ≠ g from fun e => by have := GB.out _ P2.out.2.1; omega) (show w.heap.size ≤ u2.heap.size from P2.out.2.2.size))))
                    refine hK.out _ _ (SF.out _ P3.out.1 P3.out.2.1) (fun hHeld => ?_)
                    clear hK K hba
                    try go_frame
                    unfold ecs zev at P3 Q3
                    generalize u2.alloc _ = u3 at *
                    generalize u2.heap.size = ge at *
                    refine ready_list (i := 9) rfl (by kernel_rfl) (fun K hK => ?_)
                    go_simp
                    refine (N7 _ P3.out.1 P3.out.2.1).mono ?_
                    rintro e u4 ⟨rfl, hb3⟩
                    have P4 := Lib.hid (And.intro (P3.out.1.held hb3) (And.intro (P3.out.2.1.held hb3) (P3.out.2.2.trans (hb3.mono P3.out.2.2.size))))
                    have Q4 := Lib.hid (And.intro (Q3.out.1.held hb3) Q3.out.2)
                    refine hK.out _ _ (SF.out _ P4.out.1 P4.out.2.1) (fun hHeld => ?_)
                    clear hK K hb3
                    try go_frame
                    refine take_list (i := 18) (v := .agg #[.int .i64 (y0 : Nat), .int .i64 (v1 : Nat), .int .i64 (v4 : Nat), .int .i64 (v7 : Nat), .int .u32 0, .int .i64 0, .string ST]) rfl (by kernel_rfl) (by kernel_rfl) (by kernel_rfl) (fun _ _ _ h => h) (.inl ⟨rfl, ?_⟩) hHeld ?_
                    · (intro w hSw; go_simp)
                    go_frame
                    refine ready_list (i := 20) rfl (by kernel_rfl) (fun K hK => ?_)
                    rw [if_pos (by rfl)]
                    refine wp_store_mid _ _ _ rfl _ _ #[.int .i64 (y0 : Nat), .int .i64 (v1 : Nat), .int .i64 (v4 : Nat), .int .i64 (v7 : Nat), .int .u32 0, .int .i64 0, .string ST] rfl rfl Q4.out.1.ev_there7 (by show _ = some 7; kernel_rfl) (by simp [Value.oneCell']) ?_
                    have hT : Turn [ge] u4 (u4.setCells ge 0 [.int .i64 (y0 : Nat), .int .i64 (v1 : Nat), .int .i64 (v4 : Nat), .int .i64 (v7 : Nat), .int .u32 0, .int .i64 0, .string ST]) := Turn.setCells _ (by simp) _ _
                    have hE5 : Blk 30 (u4.setCells ge 0 [.int .i64 (y0 : Nat), .int .i64 (v1 : Nat), .int .i64 (v4 : Nat), .int .i64 (v7 : Nat), .int .u32 0, .int .i64 0, .string ST]) ge #[.int .i64 (y0 : Nat), .int .i64 (v1 : Nat), .int .i64 (v4 : Nat), .int .i64 (v7 : Nat), .int .u32 0, .int .i64 0, .string ST] := Q4.out.1.setCells [.int .i64 (y0 : Nat), .int .i64 (v1 : Nat), .int .i64 (v4 : Nat), .int .i64 (v7 : Nat), .int .u32 0, .int .i64 0, .string ST] 0
                    have hB5 := P4.out.1.turn hT (by simp; exact fun e => Q4.out.2.1 e.symm)
                    have hS5 : Sl (u4.setCells ge 0 [.int .i64 (y0 : Nat), .int .i64 (v1 : Nat), .int .i64 (v4 : Nat), .int .i64 (v7 : Nat), .int .u32 0, .int .i64 0, .string ST]) (some ⟨g, o6, none⟩) m c6 D := sl_turn P4.out.2.1 hT (by simp; exact fun e => Q4.out.2.2.1 e.symm)
                    have R5 := Lib.hid (And.intro hE5 (And.intro hB5 (And.intro hS5 (And.intro (P4.out.2.2.trans (hT.below (B := w.heap.size) (by simp; exact Q4.out.2.2.2) P4.out.2.2.size)) Q4.out.2))))
                    refine hK.out _ _ (SF.out _ hB5 hS5) (fun hHeld => ?_)
                    clear hK K hT hE5 hB5 hS5
                    refine wpAnyH_done (by kernel_rfl) ?_ _
                    try go_frame
                    go_wp2_with fail
                    go_meet
                    case rel => exact ⟨ge, rfl, R5.out.1, R5.out.2.1, R5.out.2.2.1, R5.out.2.2.2.1, R5.out.2.2.2.2.1, R5.out.2.2.2.2.2.1, R5.out.2.2.2.2.2.2⟩
                · go_simp
                  have hba := below_new u1 (.cells (ecs zev) 30)
                  have P2 := Lib.hid (And.intro (P1.out.1.held hba) (And.intro (P1.out.2.1.held hba) (P1.out.2.2.trans (hba.mono P1.out.2.2.size))))
                  have Q2 := Lib.hid (And.intro (Blk.new u1 30 (ecs zev)) (And.intro (show u1.heap.size ≠ rb from fun e => by have := P1.out.1.lt; omega) (And.intro (show u1.heap.size ≠ g from fun e => by have := GB.out _ P1.out.2.1; omega) (show w.heap.size ≤ u1.heap.size from P1.out.2.2.size))))
                  refine hK.out _ _ (SF.out _ P2.out.1 P2.out.2.1) (fun hHeld => ?_)
                  clear hK K hba
                  try go_frame
                  unfold ecs zev at P2 Q2
                  generalize u1.alloc _ = u2 at *
                  generalize u1.heap.size = ge at *
                  refine ready_list (i := 7) rfl (by kernel_rfl) (fun K hK => ?_)
                  go_simp
                  refine (N4 _ P2.out.1 P2.out.2.1).mono ?_
                  rintro e u3 ⟨rfl, hb2⟩
                  have P3 := Lib.hid (And.intro (P2.out.1.held hb2) (And.intro (P2.out.2.1.held hb2) (P2.out.2.2.trans (hb2.mono P2.out.2.2.size))))
                  have Q3 := Lib.hid (And.intro (Q2.out.1.held hb2) Q2.out.2)
                  refine hK.out _ _ (SF.out _ P3.out.1 P3.out.2.1) (fun hHeld => ?_)
                  clear hK K hb2
                  try go_frame
                  refine ready_list (i := 9) rfl (by kernel_rfl) (fun K hK => ?_)
                  go_simp
                  refine (N7 _ P3.out.1 P3.out.2.1).mono ?_
                  rintro e u4 ⟨rfl, hb3⟩
                  have P4 := Lib.hid (And.intro (P3.out.1.held hb3) (And.intro (P3.out.2.1.held hb3) (P3.out.2.2.trans (hb3.mono P3.out.2.2.size))))
                  have Q4 := Lib.hid (And.intro (Q3.out.1.held hb3) Q3.out.2)
                  refine hK.out _ _ (SF.out _ P4.out.1 P4.out.2.1) (fun hHeld => ?_)
                  clear hK K hb3
                  try go_frame
                  refine take_list (i := 18) (v := .agg #[.int .i64 (y0 : Nat), .int .i64 (v1 : Nat), .int .i64 (v4 : Nat), .int .i64 (v7 : Nat), .int .u32 0, .int .i64 0, .string ST]) rfl (by kernel_rfl) (by kernel_rfl) (by kernel_rfl) (fun _ _ _ h => h) (.inl ⟨rfl, ?_⟩) hHeld ?_
                  · (intro w hSw; go_simp)
                  go_frame
                  refine ready_list (i := 20) rfl (by kernel_rfl) (fun K hK => ?_)
                  rw [if_pos (by rfl)]
                  refine wp_store_mid _ _ _ rfl _ _ #[.int .i64 (y0 : Nat), .int .i64 (v1 : Nat), .int .i64 (v4 : Nat), .int .i64 (v7 : Nat), .int .u32 0, .int .i64 0, .string ST] rfl rfl Q4.out.1.ev_there7 (by show _ = some 7; kernel_rfl) (by simp [Value.oneCell']) ?_
                  have hT : Turn [ge] u4 (u4.setCells ge 0 [.int .i64 (y0 : Nat), .int .i64 (v1 : Nat), .int .i64 (v4 : Nat), .int .i64 (v7 : Nat), .int .u32 0, .int .i64 0, .string ST]) := Turn.setCells _ (by simp) _ _
                  have hE5 : Blk 30 (u4.setCells ge 0 [.int .i64 (y0 : Nat), .int .i64 (v1 : Nat), .int .i64 (v4 : Nat), .int .i64 (v7 : Nat), .int .u32 0, .int .i64 0, .string ST]) ge #[.int .i64 (y0 : Nat), .int .i64 (v1 : Nat), .int .i64 (v4 : Nat), .int .i64 (v7 : Nat), .int .u32 0, .int .i64 0, .string ST] := Q4.out.1.setCells [.int .i64 (y0 : Nat), .int .i64 (v1 : Nat), .int .i64 (v4 : Nat), .int .i64 (v7 : Nat), .int .u32 0, .int .i64 0, .string ST] 0
                  have hB5 := P4.out.1.turn hT (by simp; exact fun e => Q4.out.2.1 e.symm)
                  have hS5 : Sl (u4.setCells ge 0 [.int .i64 (y0 : Nat), .int .i64 (v1 : Nat), .int .i64 (v4 : Nat), .int .i64 (v7 : Nat), .int .u32 0, .int .i64 0, .string ST]) (some ⟨g, o6, none⟩) m c6 D := sl_turn P4.out.2.1 hT (by simp; exact fun e => Q4.out.2.2.1 e.symm)
                  have R5 := Lib.hid (And.intro hE5 (And.intro hB5 (And.intro hS5 (And.intro (P4.out.2.2.trans (hT.below (B := w.heap.size) (by simp; exact Q4.out.2.2.2) P4.out.2.2.size)) Q4.out.2))))
                  refine hK.out _ _ (SF.out _ hB5 hS5) (fun hHeld => ?_)
                  clear hK K hT hE5 hB5 hS5
                  refine wpAnyH_done (by kernel_rfl) ?_ _
                  try go_frame
                  go_wp2_with fail
                  go_meet
                  case rel => exact ⟨ge, rfl, R5.out.1, R5.out.2.1, R5.out.2.2.1, R5.out.2.2.2.1, R5.out.2.2.2.2.1, R5.out.2.2.2.2.2.1, R5.out.2.2.2.2.2.2⟩
              · go_simp
                have hba := below_new w10.drew (.cells (ecs zev) 30)
                have P1 := Lib.hid (And.intro (P0.out.1.held hba) (And.intro (P0.out.2.1.held hba) (P0.out.2.2.trans (hba.mono P0.out.2.2.size))))
                have Q1 := Lib.hid (And.intro (Blk.new w10.drew 30 (ecs zev)) (And.intro (show w10.drew.heap.size ≠ rb from fun e => by have := P0.out.1.lt; omega) (And.intro (show w10.drew.heap.size ≠ g from fun e => by have := GB.out _ P0.out.2.1; omega) (show w.heap.size ≤ w10.drew.heap.size from P0.out.2.2.size))))
                refine hK.out _ _ (SF.out _ P1.out.1 P1.out.2.1) (fun hHeld => ?_)
                clear hK K hba
                try go_frame
                unfold ecs zev at P1 Q1
                rw [show ∀ o, w10.drew.alloc o = (w10.alloc o).drew from fun _ => rfl] at P1 Q1
                rw [show w10.drew.heap.size = w10.heap.size from rfl] at Q1
                generalize (w10.alloc _).drew = u1 at *
                generalize w10.heap.size = ge at *
                refine ready_list (i := 5) rfl (by kernel_rfl) (fun K hK => ?_)
                go_simp
                refine (N1 _ P1.out.1 P1.out.2.1).mono ?_
                rintro e u2 ⟨rfl, hb1⟩
                have P2 := Lib.hid (And.intro (P1.out.1.held hb1) (And.intro (P1.out.2.1.held hb1) (P1.out.2.2.trans (hb1.mono P1.out.2.2.size))))
                have Q2 := Lib.hid (And.intro (Q1.out.1.held hb1) Q1.out.2)
                refine hK.out _ _ (SF.out _ P2.out.1 P2.out.2.1) (fun hHeld => ?_)
                clear hK K hb1
                try go_frame
                refine ready_list (i := 7) rfl (by kernel_rfl) (fun K hK => ?_)
                go_simp
                refine (N4 _ P2.out.1 P2.out.2.1).mono ?_
                rintro e u3 ⟨rfl, hb2⟩
                have P3 := Lib.hid (And.intro (P2.out.1.held hb2) (And.intro (P2.out.2.1.held hb2) (P2.out.2.2.trans (hb2.mono P2.out.2.2.size))))
                have Q3 := Lib.hid (And.intro (Q2.out.1.held hb2) Q2.out.2)
                refine hK.out _ _ (SF.out _ P3.out.1 P3.out.2.1) (fun hHeld => ?_)
                clear hK K hb2
                try go_frame
                refine ready_list (i := 9) rfl (by kernel_rfl) (fun K hK => ?_)
                go_simp
                refine (N7 _ P3.out.1 P3.out.2.1).mono ?_
                rintro e u4 ⟨rfl, hb3⟩
                have P4 := Lib.hid (And.intro (P3.out.1.held hb3) (And.intro (P3.out.2.1.held hb3) (P3.out.2.2.trans (hb3.mono P3.out.2.2.size))))
                have Q4 := Lib.hid (And.intro (Q3.out.1.held hb3) Q3.out.2)
                refine hK.out _ _ (SF.out _ P4.out.1 P4.out.2.1) (fun hHeld => ?_)
                clear hK K hb3
                try go_frame
                refine take_list (i := 18) (v := .agg #[.int .i64 (y0 : Nat), .int .i64 (v1 : Nat), .int .i64 (v4 : Nat), .int .i64 (v7 : Nat), .int .u32 0, .int .i64 0, .string ST]) rfl (by kernel_rfl) (by kernel_rfl) (by kernel_rfl) (fun _ _ _ h => h) (.inl ⟨rfl, ?_⟩) hHeld ?_
                · (intro w hSw; go_simp)
                go_frame
                refine ready_list (i := 20) rfl (by kernel_rfl) (fun K hK => ?_)
                rw [if_pos (by rfl)]
                refine wp_store_mid _ _ _ rfl _ _ #[.int .i64 (y0 : Nat), .int .i64 (v1 : Nat), .int .i64 (v4 : Nat), .int .i64 (v7 : Nat), .int .u32 0, .int .i64 0, .string ST] rfl rfl Q4.out.1.ev_there7 (by show _ = some 7; kernel_rfl) (by simp [Value.oneCell']) ?_
                have hT : Turn [ge] u4 (u4.setCells ge 0 [.int .i64 (y0 : Nat), .int .i64 (v1 : Nat), .int .i64 (v4 : Nat), .int .i64 (v7 : Nat), .int .u32 0, .int .i64 0, .string ST]) := Turn.setCells _ (by simp) _ _
                have hE5 : Blk 30 (u4.setCells ge 0 [.int .i64 (y0 : Nat), .int .i64 (v1 : Nat), .int .i64 (v4 : Nat), .int .i64 (v7 : Nat), .int .u32 0, .int .i64 0, .string ST]) ge #[.int .i64 (y0 : Nat), .int .i64 (v1 : Nat), .int .i64 (v4 : Nat), .int .i64 (v7 : Nat), .int .u32 0, .int .i64 0, .string ST] := Q4.out.1.setCells [.int .i64 (y0 : Nat), .int .i64 (v1 : Nat), .int .i64 (v4 : Nat), .int .i64 (v7 : Nat), .int .u32 0, .int .i64 0, .string ST] 0
                have hB5 := P4.out.1.turn hT (by simp; exact fun e => Q4.out.2.1 e.symm)
                have hS5 : Sl (u4.setCells ge 0 [.int .i64 (y0 : Nat), .int .i64 (v1 : Nat), .int .i64 (v4 : Nat), .int .i64 (v7 : Nat), .int .u32 0, .int .i64 0, .string ST]) (some ⟨g, o6, none⟩) m c6 D := sl_turn P4.out.2.1 hT (by simp; exact fun e => Q4.out.2.2.1 e.symm)
                have R5 := Lib.hid (And.intro hE5 (And.intro hB5 (And.intro hS5 (And.intro (P4.out.2.2.trans (hT.below (B := w.heap.size) (by simp; exact Q4.out.2.2.2) P4.out.2.2.size)) Q4.out.2))))
                refine hK.out _ _ (SF.out _ hB5 hS5) (fun hHeld => ?_)
                clear hK K hT hE5 hB5 hS5
                refine wpAnyH_done (by kernel_rfl) ?_ _
                try go_frame
                go_wp2_with fail
                go_meet
                case rel => exact ⟨ge, rfl, R5.out.1, R5.out.2.1, R5.out.2.2.1, R5.out.2.2.2.1, R5.out.2.2.2.2.1, R5.out.2.2.2.2.2.1, R5.out.2.2.2.2.2.2⟩
            case rest =>
              clear q0 P0 SF N1 N4 N7 hA7 cv7
              obtain ⟨ge, rfl, hge, hbr, hsl, hbw, hn1, hn2, hge0⟩ := hcut
              have e10 := hsl.at_ (k := 10) (by omega)
              have e11 := hsl.at_ (k := 11) (by omega)
              have e12 := hsl.at_ (k := 12) (by omega)
              have e13 := hsl.at_ (k := 13) (by omega)
              have e14 := hsl.at_ (k := 14) (by omega)
              have b10 := hsl.bytes.lt 10
              have b11 := hsl.bytes.lt 11
              have b12 := hsl.bytes.lt 12
              have b13 := hsl.bytes.lt 13
              have b14 := hsl.bytes.lt 14
              have hv10 : val ((D.drop 10).take 4) = D.getD 10 0 * 16777216 + D.getD 11 0 * 65536 + D.getD 12 0 * 256 + D.getD 13 0 := by
                have hl := hsl.bytes.1
                have : (D.drop 10).take 4 = [D.getD 10 0, D.getD 11 0, D.getD 12 0, D.getD 13 0] := by
                  apply List.ext_getElem
                  · simp; omega
                  · intro k h1 h2
                    have hk : k = 0 ∨ k = 1 ∨ k = 2 ∨ k = 3 := by simp at h2; omega
                    rcases hk with rfl | rfl | rfl | rfl <;> simp [List.getD, show 10 < D.length by omega, show 11 < D.length by omega, show 12 < D.length by omega, show 13 < D.length by omega]
                rw [this]; simp only [val, List.foldl]; omega
              have eb : wc.cell? ⟨rb, 0, none⟩ = some (.slice (some ⟨g, o6, none⟩) m c6) := hbr.at_ 0
              obtain ⟨y14, hy14⟩ : ∃ y, y = D.getD 14 0 := ⟨_, rfl⟩
              rw [← hy14] at e14 b14
              have hall : Hid (ecs (parse D) = #[.int .i64 (y0 : Nat), .int .i64 (v1 : Nat), .int .i64 (v4 : Nat), .int .i64 (v7 : Nat), .int .u32 ((D.getD 10 0 : Nat) * 16777216 + (D.getD 11 0 : Nat) * 65536 + (D.getD 12 0 : Nat) * 256 + (D.getD 13 0 : Nat) : Int), .int .i64 (y14 : Nat), .string ST]) := Lib.hid (by
                unfold ecs parse
                simp only
                rw [hv10, hy14, LET.out.1, LET.out.2.1, LET.out.2.2.1, LET.out.2.2.2.1, LET.out.2.2.2.2.2, LET.out.2.2.2.2.1, NR.out.2.2]
                simp [toU])
              have hfit := (parse_fits hsl.bytes.2.2.1).2
              have HR := fun u => lright_eq hfit NR.out.2.1 u
              rw [hall.out] at HR
              generalize D.getD 10 0 = y10 at *
              generalize D.getD 11 0 = y11 at *
              generalize D.getD 12 0 = y12 at *
              generalize D.getD 13 0 = y13 at *
              have W0 := Lib.hid (And.intro hge (And.intro hbr (And.intro hsl (And.intro hbw (And.intro hn1 (And.intro hn2 hge0))))))
              clear hge hbr hsl hbw hv10 hy14 hfit hall hx0' hv1 hv4 hv7
              go_upto_region 25 with fail
              have i14m : (14 : Int) < (m : Int) := by omega
              have i13m : (13 : Int) < (m : Int) := by omega
              have i12m : (12 : Int) < (m : Int) := by omega
              have i11m : (11 : Int) < (m : Int) := by omega
              have i10m : (10 : Int) < (m : Int) := by omega
              have r0 : wc.drew.cell? ⟨rb, 0, none⟩ = some (.slice (some ⟨g, o6, none⟩) m c6) := eb
              have r1 : wc.drew.cell? ⟨g, o6 + 10, none⟩ = some (.int .u8 (y10 : Nat)) := e10
              have r2 : wc.drew.cell? ⟨g, o6 + 11, none⟩ = some (.int .u8 (y11 : Nat)) := e11
              have r3 : wc.drew.cell? ⟨g, o6 + 12, none⟩ = some (.int .u8 (y12 : Nat)) := e12
              have r4 : wc.drew.cell? ⟨g, o6 + 13, none⟩ = some (.int .u8 (y13 : Nat)) := e13
              have r5 : wc.drew.cell? ⟨g, o6 + 14, none⟩ = some (.int .u8 (y14 : Nat)) := e14
              clear eb e10 e11 e12 e13 e14
              refine wp_region_held_drew (S := fun u => (u.cell? ⟨rb, 0, none⟩ = some (.slice (some ⟨g, o6, none⟩) m c6) ∧ u.cell? ⟨g, o6 + 10, none⟩ = some (.int .u8 (y10 : Nat)) ∧ u.cell? ⟨g, o6 + 11, none⟩ = some (.int .u8 (y11 : Nat)) ∧ u.cell? ⟨g, o6 + 12, none⟩ = some (.int .u8 (y12 : Nat)) ∧ u.cell? ⟨g, o6 + 13, none⟩ = some (.int .u8 (y13 : Nat)) ∧ u.cell? ⟨g, o6 + 14, none⟩ = some (.int .u8 (y14 : Nat)))) (by kernel_rfl) ⟨r0, r1, r2, r3, r4, r5⟩ (fun hHeld => ?_)
              refine take_list (i := 0) (v := .slice (some ⟨g, o6, none⟩) m c6) rfl (by kernel_rfl) (by kernel_rfl) (by kernel_rfl) (fun _ _ _ h => h) (.inl ⟨rfl, ?_⟩) hHeld ?_
              · (intro w hSw; go_simp)
              go_frame
              refine take_list (i := 1) (v := .pointer (some ⟨g, o6 + 10, none⟩)) rfl (by kernel_rfl) (by kernel_rfl) (by kernel_rfl) (fun _ _ _ h => h) (.inl ⟨rfl, ?_⟩) hHeld ?_
              · (intro w hSw; go_simp; try (intro e0; omega))
              go_frame
              refine take_list (i := 2) (v := .int .u8 (y10 : Nat)) rfl (by kernel_rfl) (by kernel_rfl) (by kernel_rfl) (fun _ _ _ h => h) (.inl ⟨rfl, ?_⟩) hHeld ?_
              · (intro w hSw; go_simp)
              go_frame
              refine take_list (i := 3) (v := .int .u32 (y10 : Nat)) rfl (by kernel_rfl) (by kernel_rfl) (by kernel_rfl) (fun _ _ _ h => h) (.inl ⟨rfl, ?_⟩) hHeld ?_
              · (intro w hSw; go_simp; try exact wrap32 (by omega))
              go_frame
              refine take_list (i := 4) (v := .int .u32 ((y10 : Int) * 16777216)) rfl (by kernel_rfl) (by kernel_rfl) (by kernel_rfl) (fun _ _ _ h => h) (.inl ⟨rfl, ?_⟩) hHeld ?_
              · (intro w hSw; go_simp; try exact wrapu32 (by omega) (by omega))
              go_frame
              refine take_list (i := 5) (v := .slice (some ⟨g, o6, none⟩) m c6) rfl (by kernel_rfl) (by kernel_rfl) (by kernel_rfl) (fun _ _ _ h => h) (.inl ⟨rfl, ?_⟩) hHeld ?_
              · (intro w hSw; go_simp)
              go_frame
              refine take_list (i := 6) (v := .pointer (some ⟨g, o6 + 11, none⟩)) rfl (by kernel_rfl) (by kernel_rfl) (by kernel_rfl) (fun _ _ _ h => h) (.inl ⟨rfl, ?_⟩) hHeld ?_
              · (intro w hSw; go_simp; try (intro e0; omega))
              go_frame
              refine take_list (i := 7) (v := .int .u8 (y11 : Nat)) rfl (by kernel_rfl) (by kernel_rfl) (by kernel_rfl) (fun _ _ _ h => h) (.inl ⟨rfl, ?_⟩) hHeld ?_
              · (intro w hSw; go_simp)
              go_frame
              refine take_list (i := 8) (v := .int .u32 (y11 : Nat)) rfl (by kernel_rfl) (by kernel_rfl) (by kernel_rfl) (fun _ _ _ h => h) (.inl ⟨rfl, ?_⟩) hHeld ?_
              · (intro w hSw; go_simp; try exact wrap32 (by omega))
              go_frame
              refine take_list (i := 9) (v := .int .u32 ((y11 : Int) * 65536)) rfl (by kernel_rfl) (by kernel_rfl) (by kernel_rfl) (fun _ _ _ h => h) (.inl ⟨rfl, ?_⟩) hHeld ?_
              · (intro w hSw; go_simp; try exact wrapu32 (by omega) (by omega))
              go_frame
              refine take_list (i := 10) (v := .int .u32 ((y10 : Int) * 16777216 + (y11 : Int) * 65536)) rfl (by kernel_rfl) (by kernel_rfl) (by kernel_rfl) (fun _ _ _ h => h) (.inl ⟨rfl, ?_⟩) hHeld ?_
              · (intro w hSw; go_simp; try exact wrapu32 (by omega) (by omega))
              go_frame
              refine take_list (i := 11) (v := .slice (some ⟨g, o6, none⟩) m c6) rfl (by kernel_rfl) (by kernel_rfl) (by kernel_rfl) (fun _ _ _ h => h) (.inl ⟨rfl, ?_⟩) hHeld ?_
              · (intro w hSw; go_simp)
              go_frame
              refine take_list (i := 12) (v := .pointer (some ⟨g, o6 + 12, none⟩)) rfl (by kernel_rfl) (by kernel_rfl) (by kernel_rfl) (fun _ _ _ h => h) (.inl ⟨rfl, ?_⟩) hHeld ?_
              · (intro w hSw; go_simp; try (intro e0; omega))
              go_frame
              refine take_list (i := 13) (v := .int .u8 (y12 : Nat)) rfl (by kernel_rfl) (by kernel_rfl) (by kernel_rfl) (fun _ _ _ h => h) (.inl ⟨rfl, ?_⟩) hHeld ?_
              · (intro w hSw; go_simp)
              go_frame
              refine take_list (i := 14) (v := .int .u32 (y12 : Nat)) rfl (by kernel_rfl) (by kernel_rfl) (by kernel_rfl) (fun _ _ _ h => h) (.inl ⟨rfl, ?_⟩) hHeld ?_
              · (intro w hSw; go_simp; try exact wrap32 (by omega))
              go_frame
              refine take_list (i := 15) (v := .int .u32 ((y12 : Int) * 256)) rfl (by kernel_rfl) (by kernel_rfl) (by kernel_rfl) (fun _ _ _ h => h) (.inl ⟨rfl, ?_⟩) hHeld ?_
              · (intro w hSw; go_simp; try exact wrapu32 (by omega) (by omega))
              go_frame
              refine take_list (i := 16) (v := .int .u32 ((y10 : Int) * 16777216 + (y11 : Int) * 65536 + (y12 : Int) * 256)) rfl (by kernel_rfl) (by kernel_rfl) (by kernel_rfl) (fun _ _ _ h => h) (.inl ⟨rfl, ?_⟩) hHeld ?_
              · (intro w hSw; go_simp; try exact wrapu32 (by omega) (by omega))
              go_frame
              refine take_list (i := 17) (v := .slice (some ⟨g, o6, none⟩) m c6) rfl (by kernel_rfl) (by kernel_rfl) (by kernel_rfl) (fun _ _ _ h => h) (.inl ⟨rfl, ?_⟩) hHeld ?_
              · (intro w hSw; go_simp)
              go_frame
              refine take_list (i := 18) (v := .pointer (some ⟨g, o6 + 13, none⟩)) rfl (by kernel_rfl) (by kernel_rfl) (by kernel_rfl) (fun _ _ _ h => h) (.inl ⟨rfl, ?_⟩) hHeld ?_
              · (intro w hSw; go_simp; try (intro e0; omega))
              go_frame
              refine take_list (i := 19) (v := .int .u8 (y13 : Nat)) rfl (by kernel_rfl) (by kernel_rfl) (by kernel_rfl) (fun _ _ _ h => h) (.inl ⟨rfl, ?_⟩) hHeld ?_
              · (intro w hSw; go_simp)
              go_frame
              refine take_list (i := 20) (v := .int .u32 (y13 : Nat)) rfl (by kernel_rfl) (by kernel_rfl) (by kernel_rfl) (fun _ _ _ h => h) (.inl ⟨rfl, ?_⟩) hHeld ?_
              · (intro w hSw; go_simp; try exact wrap32 (by omega))
              go_frame
              refine take_list (i := 21) (v := .int .u32 ((y10 : Int) * 16777216 + (y11 : Int) * 65536 + (y12 : Int) * 256 + (y13 : Int))) rfl (by kernel_rfl) (by kernel_rfl) (by kernel_rfl) (fun _ _ _ h => h) (.inl ⟨rfl, ?_⟩) hHeld ?_
              · (intro w hSw; go_simp; try exact wrapu32 (by omega) (by omega))
              go_frame
              refine take_list (i := 22) (v := .slice (some ⟨g, o6, none⟩) m c6) rfl (by kernel_rfl) (by kernel_rfl) (by kernel_rfl) (fun _ _ _ h => h) (.inl ⟨rfl, ?_⟩) hHeld ?_
              · (intro w hSw; go_simp)
              go_frame
              refine take_list (i := 23) (v := .pointer (some ⟨g, o6 + 14, none⟩)) rfl (by kernel_rfl) (by kernel_rfl) (by kernel_rfl) (fun _ _ _ h => h) (.inl ⟨rfl, ?_⟩) hHeld ?_
              · (intro w hSw; go_simp; try (intro e0; omega))
              go_frame
              refine take_list (i := 24) (v := .int .u8 (y14 : Nat)) rfl (by kernel_rfl) (by kernel_rfl) (by kernel_rfl) (fun _ _ _ h => h) (.inl ⟨rfl, ?_⟩) hHeld ?_
              · (intro w hSw; go_simp)
              go_frame
              refine take_list (i := 25) (v := .int .i64 (y14 : Nat)) rfl (by kernel_rfl) (by kernel_rfl) (by kernel_rfl) (fun _ _ _ h => h) (.inl ⟨rfl, ?_⟩) hHeld ?_
              · (intro w hSw; go_simp; try exact wrap64 (by omega))
              go_frame
              refine take_list (i := 26) (v := .agg #[.int .u32 ((y10 : Int) * 16777216 + (y11 : Int) * 65536 + (y12 : Int) * 256 + (y13 : Int)), .int .i64 (y14 : Nat)]) rfl (by kernel_rfl) (by kernel_rfl) (by kernel_rfl) (fun _ _ _ h => h) (.inl ⟨rfl, ?_⟩) hHeld ?_
              · (intro w hSw; go_simp)
              go_frame
              refine take_list (i := 27) (v := .pointer (some ⟨ge, 4, none⟩)) rfl (by kernel_rfl) (by kernel_rfl) (by kernel_rfl) (fun _ _ _ h => h) (.inl ⟨rfl, ?_⟩) hHeld ?_
              · (intro w hSw; go_simp)
              go_frame
              refine ready_list (i := 28) rfl (by kernel_rfl) (fun K hK => ?_)
              rw [if_pos (by rfl)]
              refine wp_store_mid _ _ _ rfl _ _ #[.int .u32 ((y10 : Int) * 16777216 + (y11 : Int) * 65536 + (y12 : Int) * 256 + (y13 : Int)), .int .i64 (y14 : Nat)] rfl rfl (by intro j hj; have hj2 : j < 2 := hj; refine ⟨?_, W0.out.1.drew.free (4 + j)⟩; rw [show (wc.drew).cell? ⟨ge, 4 + j, none⟩ = _ from W0.out.1.drew.at_ (4 + j), Array.getElem?_eq_getElem (show 4 + j < 7 by omega)]; rfl) (by show _ = some 2; kernel_rfl) (by simp [Value.oneCell']) ?_
              have hT : Turn [ge] wc.drew (wc.drew.setCells ge 4 [.int .u32 ((y10 : Int) * 16777216 + (y11 : Int) * 65536 + (y12 : Int) * 256 + (y13 : Int)), .int .i64 (y14 : Nat)]) := Turn.setCells _ (by simp) _ _
              have hE5 : Blk 30 (wc.drew.setCells ge 4 [.int .u32 ((y10 : Int) * 16777216 + (y11 : Int) * 65536 + (y12 : Int) * 256 + (y13 : Int)), .int .i64 (y14 : Nat)]) ge #[.int .i64 (y0 : Nat), .int .i64 (v1 : Nat), .int .i64 (v4 : Nat), .int .i64 (v7 : Nat), .int .u32 ((y10 : Int) * 16777216 + (y11 : Int) * 65536 + (y12 : Int) * 256 + (y13 : Int)), .int .i64 (y14 : Nat), .string ST] := W0.out.1.drew.setCells [.int .u32 ((y10 : Int) * 16777216 + (y11 : Int) * 65536 + (y12 : Int) * 256 + (y13 : Int)), .int .i64 (y14 : Nat)] 4
              have hS5 : Sl (wc.drew.setCells ge 4 [.int .u32 ((y10 : Int) * 16777216 + (y11 : Int) * 65536 + (y12 : Int) * 256 + (y13 : Int)), .int .i64 (y14 : Nat)]) (some ⟨g, o6, none⟩) m c6 D := sl_turn (show Sl wc.drew _ _ _ _ from let t := W0.out.2.2.1; ⟨t.bytes, t.cap, t.plain⟩) hT (by simp; exact fun e => W0.out.2.2.2.2.2.1 e.symm)
              have s0 := hT.cell r0 (by simp; exact fun e => W0.out.2.2.2.2.1 e.symm)
              have s1 := hT.cell r1 (by simp; exact fun e => W0.out.2.2.2.2.2.1 e.symm)
              have s2 := hT.cell r2 (by simp; exact fun e => W0.out.2.2.2.2.2.1 e.symm)
              have s3 := hT.cell r3 (by simp; exact fun e => W0.out.2.2.2.2.2.1 e.symm)
              have s4 := hT.cell r4 (by simp; exact fun e => W0.out.2.2.2.2.2.1 e.symm)
              have s5 := hT.cell r5 (by simp; exact fun e => W0.out.2.2.2.2.2.1 e.symm)
              have hB5 := W0.out.2.2.2.1.drew.trans (hT.below (B := w.heap.size) (by simp; exact W0.out.2.2.2.2.2.2) W0.out.2.2.2.1.size)
              refine hK.out _ _ ⟨s0, s1, s2, s3, s4, s5⟩ (fun hHeld => ?_)
              clear hK K hHeld r0 r1 r2 r3 r4 r5 s0 s1 s2 s3 s4 s5 hS5 hT
              refine wpAnyH_done (by kernel_rfl) ?_ _
              try go_frame
              generalize wc.drew.setCells ge 4 _ = w20 at *
              have x0 : w20.cell? ⟨ge, 0, none⟩ = some (.int .i64 (y0 : Nat)) := hE5.at_ 0
              have x1 : w20.cell? ⟨ge, 1, none⟩ = some (.int .i64 (v1 : Nat)) := hE5.at_ 1
              have x2 : w20.cell? ⟨ge, 2, none⟩ = some (.int .i64 (v4 : Nat)) := hE5.at_ 2
              have x3 : w20.cell? ⟨ge, 3, none⟩ = some (.int .i64 (v7 : Nat)) := hE5.at_ 3
              have x4 : w20.cell? ⟨ge, 4, none⟩ = some (.int .u32 ((y10 : Int) * 16777216 + (y11 : Int) * 65536 + (y12 : Int) * 256 + (y13 : Int))) := hE5.at_ 4
              have x5 : w20.cell? ⟨ge, 5, none⟩ = some (.int .i64 (y14 : Nat)) := hE5.at_ 5
              have x6 : w20.cell? ⟨ge, 6, none⟩ = some (.string ST) := hE5.at_ 6
              have B20 := Lib.hid hB5
              clear hE5 hB5
              go_wp2_with (go_at_call 10; refine (HR _).mono ?_; rintro e21 w21 ⟨rfl, hb21⟩)
              go_ret
              exact ⟨rfl, B20.out.trans (hb21.mono B20.out.size)⟩
      · have := flat_ge l
        have := EV2.out.1.at_
        omega
end Go.Proofs.Ytnpocnfmekgieaa
