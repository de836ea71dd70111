/-
  WalSectors' walk.
  WalSectors: whatever size and records: which sectors a journal has is what the page says, and what it knows is what the statement's model knows; what comes in reads as it did. No condition.
-/
import Derived.Test.YtpgcnjoodoabhaaGreatS19
import Derived.Deep.Cut
import Derived.Deep.CutRange
import Derived.Deep.RegionWith
import Derived.Test.YtpgcnjoodoabhaaGreatS03
namespace Go.Proofs.YtpgcnjoodoabhaaGreat
open Go.RowKit Rm

theorem and_one (z : Int) : ∃ c : Nat, c ≤ 1 ∧ bits .and .i64 z 1 = (c : Int) := by
  have h : (BitVec.ofInt 64 z &&& BitVec.ofInt 64 1).toNat ≤ 1 := by
    rw [BitVec.toNat_and]
    exact Nat.and_le_right
  have e : bits .and .i64 z 1 = IntKind.i64.wrap ((BitVec.ofInt 64 z &&& BitVec.ofInt 64 1).toNat : Int) := rfl
  rw [e]
  generalize (BitVec.ofInt 64 z &&& BitVec.ofInt 64 1).toNat = n at h
  refine ⟨n, h, ?_⟩
  simp only [IntKind.wrap, IntKind.bits, IntKind.signed]
  simp
  omega
/-- while the records are appended -/
def WsR (w : World) (rs : List Rc) (half nn d S M lb md mo mf : Nat) (wv rv kv : Value) (wr : World) : Prop :=
  ∃ (gb i region gen len N : Nat) (T : Sm) (ws : List Rc), kv = .int .i64 i ∧ rv = .int .i64 region ∧ i ≤ rs.length ∧ region ≤ 1 ∧ Wj w half nn d S M lb md mo mf gb gen (region * half) len N T ws N T wv ws wr ∧
    ws.length = 1 + len ∧ 1 + len ≤ half ∧ N ≤ i ∧ gen ≤ 1 + i ∧ (ws[0]?.getD Rm.zero).gen = gen ∧ (∀ r ∈ ws, r.Fits)

theorem WsR.held {w : World} {rs : List Rc} {half nn d S M lb md mo mf : Nat} {wv rv kv : Value} {W W' : World} (h : WsR w rs half nn d S M lb md mo mf wv rv kv W) (hb : Below W.heap.size W W') : WsR w rs half nn d S M lb md mo mf wv rv kv W' := by
  obtain ⟨gb, i, region, gen, len, N, T, ws, h1, h2, h3, h4, h5, h6⟩ := h
  exact ⟨gb, i, region, gen, len, N, T, ws, h1, h2, h3, h4, h5.held hb, h6⟩

/-- while the statement's list is laid anew -/
def LyR (w : World) (half nn d S M lb md mo mf gb gen region len N : Nat) (T : Sm) (r0 : Rc) (ws L : List Rc) (BL : Nat) (pL : Option Addr) (nL cL g1 : Nat) (wv kv : Value) (W : World) : Prop :=
  ∃ j : Nat, kv = .int .i64 j ∧ j ≤ nL ∧ Wj w half nn d S M lb md mo mf gb gen (region * half) len N T ws N T wv (beginR g1 :: laid g1 L j) W ∧ Blk 41 W gb (rcl r0) ∧ Wl BL (.slice pL nL cL) L W ∧
    ∀ y, some y = (Value.slice pL nL cL).ownBlock → some y ≠ wv.ownBlock

/-- where the record is about to be appended, and the statement's list is that of its region -/
def RdyW (w : World) (half nn d S M lb md mo mf gb N i : Nat) (T : Sm) (r0 : Rc) (wv rv : Value) (W : World) : Prop :=
  ∃ (gz nz rz lz : Nat) (wz : List Rc) (pz : Option Addr) (cz : Nat), wv = .slice pz lz cz ∧ rv = .int .i64 rz ∧ rz ≤ 1 ∧
    (Calls Tryz.prog 12 #[.pointer (some ⟨lb, 0, none⟩), .agg (rcl r0)] W fun e W' => e = .returned (.int .i64 0) ∧
      Wj w half nn d S M lb md mo mf gb gz (rz * half) (nz + 1) (N + 1) (app T r0) (wz ++ [inAt gz (1 + nz) r0]) N T wv wz W' ∧ W'.heap[gb]? = W.heap[gb]? ∧ W.heap.size ≤ W'.heap.size) ∧
    Blk 41 W gb (rcl r0) ∧ lz = wz.length ∧ wz.length = 1 + nz ∧ (∀ r ∈ wz, r.Fits) ∧ (wz[0]?.getD Rm.zero).gen = gz ∧ gz ≤ 2 + i ∧ nz + 1 + 1 ≤ half

set_option maxRecDepth 100000 in
set_option maxHeartbeats 3000000 in
theorem sectors_any {A : Option Addr} {n cap : Nat} {rs : List Rc} {w : World} (size : Int) (hl : rs.length = n) (hcap : n ≤ cap) (hpl : 0 < n → ∃ b off, A = some ⟨b, off, none⟩) (hfit : ∀ r ∈ rs, r.Fits) (hR : ∀ b off, A = some ⟨b, off, none⟩ → Recs w b off rs) (hmx : n ≤ maxLen) :
    Calls Tryz.prog 3 #[.int .i64 size, .slice A n cap] w fun e w' => e = .returned (.bool true) ∧ Below w.heap.size w w' := by
  unfold maxLen at hmx
  by_cases h60 : 60 < n
  · have d1 : decide ((60 : Int) < (n : Int)) = true := decide_eq_true (by omega)
    go_enter Tryz.func3, Tryz.ntmps3
    clear hR hfit hpl
    go_wp2_with fail
    refine (whead_any _).mono ?_
    rintro e w1 ⟨rfl, hb1⟩
    have V := Lib.hid hb1
    clear hb1
    go_wp2_with fail
    go_ret
    exact ⟨rfl, V.out⟩
  have d1 : decide ((60 : Int) < (n : Int)) = false := decide_eq_false (by omega)
  have H := Lib.hid (And.intro hl (And.intro hpl (And.intro hfit hR)))
  clear hl hpl hfit hR
  obtain ⟨c1, hc1, ec1⟩ := and_one size
  obtain ⟨uc, huc⟩ : ∃ uc : Nat, IntKind.u64.wrap size = (uc : Int) := ⟨(IntKind.u64.wrap size).toNat, by simp [IntKind.wrap, IntKind.bits, IntKind.signed]; omega⟩
  obtain ⟨h12, hh12⟩ : ∃ h12, h12 = uc % 12 := ⟨_, rfl⟩
  have hh12b : h12 < 12 := by omega
  have hrm : (uc : Int).tmod 12 = (h12 : Int) := by rw [hh12]; rfl
  have hrm2 : (uc : Int) % 12 = (h12 : Int) := by omega
  obtain ⟨half, hhalf⟩ : ∃ half, half = 2 + h12 := ⟨_, rfl⟩
  obtain ⟨nn, hnn⟩ : ∃ nn, nn = 2 * half + c1 := ⟨_, rfl⟩
  have hnnb : 4 ≤ nn ∧ nn ≤ 27 ∧ nn / 2 = half := by omega
  go_enter Tryz.func3, Tryz.ntmps3
  go_wp2_with fail
  refine (whead_any _).mono ?_
  rintro e w1 ⟨rfl, hb1⟩
  have V := Lib.hid hb1
  clear hb1
  have e1 : (2 + (h12 : Int)) = (half : Int) := by omega
  have e2 : 2 * (half : Int) + (c1 : Int) = (nn : Int) := by omega
  have HE := Lib.hid (And.intro hnnb (And.intro e1 e2))
  have hhb : 2 ≤ half ∧ half ≤ 13 := by omega
  clear hh12 hhalf hnn hnnb e1 e2
  go_wp2_with fail
  rw [HE.out.2.1, HE.out.2.2]
  obtain ⟨hnn4, hnn27, hnnh⟩ := HE.out.1
  refine (new_in nn (by omega) (by omega) w1).mono ?_
  rintro e w2 ⟨rfl, hD, hb2⟩
  have hd : ∀ x, x ∈ [w1.heap.size + 2, w1.heap.size, w1.heap.size + 1] → w.heap.size ≤ x := fun x hx => by have := V.out.size; simp at hx; omega
  have HO := open_well hD (fun i _ => recAt_zero) (by decide) (by decide) (id := 5) (by omega) (by omega) hnn4
  have hdl := hD.head.lt
  have hB2 := next V.out hb2
  have hSlt := hD.ltS
  have hMlt := hD.map.lt
  clear hD hb2 HE ec1 huc hrm hrm2 hh12b hc1
  generalize w1.heap.size + 2 = d at *
  generalize w1.heap.size + 1 = M at *
  generalize w1.heap.size = S at *
  have X := Lib.hid (And.intro hd (And.intro hB2 (And.intro hdl (And.intro hSlt hMlt))))
  clear hd hB2 hdl hSlt hMlt V
  go_wp2_with fail
  refine HO.mono ?_
  rintro e w3 ⟨lb, rfl, hlb, hN, hD, hT⟩
  rw [hnnh] at hN
  obtain ⟨hd, hB2, hdl, hSlt, hMlt⟩ := X.out
  have hB3 := hB2.trans (hT.below hd hB2.size)
  have hz3 := hT.size
  have X2 := Lib.hid (And.intro hd (And.intro hB3 (And.intro hdl (And.intro hSlt (And.intro hMlt (And.intro hlb (And.intro hN (And.intro hD hz3))))))))
  clear hd hB2 hdl hSlt hMlt hB3 hlb hN hD hT hz3 X HO
  have HM := model_new 5 w3
  go_wp2_with fail
  refine HM.mono ?_
  rintro e w4 ⟨md, mo, mf, rfl, hSy, hb4, hm1, hm2, hm3⟩
  obtain ⟨hd, hB3, hdl, hSlt, hMlt, hlb, ⟨cn, cm, hnm, hSt⟩, hD, hz3⟩ := X2.out
  have hB4 := next hB3 hb4
  have hlb3 := hSt.head.lt
  have hD4 := hD.held hb4
  have hb5 := below_new w4 (.cells (rcl (beginR 1)) 41)
  have hz4 := hb4.size
  obtain ⟨sm1, sm2, sm3, hMd⟩ := hSy
  have hml := hMd.head.lt
  have hol := hMd.owns.lt
  have hfl := hMd.floors.lt
  have hz2 : w.heap.size ≤ w2.heap.size := by have := hd S (by simp); omega
  have hW : Wl w.heap.size (.slice (some ⟨w4.heap.size, 0, none⟩) 1 1) [beginR 1] (w4.alloc (.cells (rcl (beginR 1)) 41)) := Wl.one w4 (by omega) _ rfl
  have hne : ∀ x, x < w4.heap.size → some x ≠ (Value.slice (some ⟨w4.heap.size, 0, none⟩) 1 1).ownBlock := fun x hx e => by
    have : x = w4.heap.size := by simpa [Value.ownBlock] using e
    omega
  have hLg : ∀ x, x ∈ fp lb none none → x = lb := fun x hx => by simpa [mem_fp] using hx
  have hdM : ∀ x, x ∈ [d, S, M] → x < w2.heap.size := fun x hx => by
    simp only [List.mem_cons, List.not_mem_nil, or_false] at hx
    rcases hx with rfl | rfl | rfl <;> assumption
  have hmM : ∀ x, x ∈ [md, mo, mf] → w3.heap.size ≤ x ∧ x < w4.heap.size := fun x hx => by
    simp only [List.mem_cons, List.not_mem_nil, or_false] at hx
    rcases hx with rfl | rfl | rfl
    · exact ⟨hm1, hml⟩
    · exact ⟨hm2, hol⟩
    · exact ⟨hm3, hfl⟩
  have ST := Lib.hid (show WsR w rs half nn d S M lb md mo mf (.slice (some ⟨w4.heap.size, 0, none⟩) 1 1) (.int .i64 0) (.int .i64 0) (w4.alloc (.cells (rcl (beginR 1)) 41)) from
    ⟨w4.heap.size + 1, 0, 0, 1, 0, 0, sm0, [beginR 1], rfl, rfl, by omega, by omega,
      ⟨⟨none, none, ⟨cn, cm, hnm, by rw [Nat.zero_mul]; exact (hSt.held hb4).held hb5⟩, fun x hx => by
          have e := hLg x hx
          subst e
          exact ⟨fun h => by have := hdM _ h; omega, fun h => by have := hmM _ h; omega, hne _ (by omega), by omega, by omega⟩⟩,
        ⟨_, hD4.held hb5, fun i hi => by
          have hi0 : i = 0 := by simpa using hi
          subst hi0
          show synced _ _ _ = _
          unfold synced
          rw [show ((0 * half + 0 : Nat) : Int) = ((0 : Nat) : Int) + (0 : Nat) by omega, upd_sameD]
          rfl⟩,
        ⟨sm1, sm2, sm3, hMd.held hb5⟩, hW, fun x hx => ⟨fun h => by have := hdM x hx; have := hmM x h; omega, hne x (by have := hdM x hx; omega), hd x hx, by have := hdM x hx; omega⟩, fun x hx => ⟨hne x (hmM x hx).2, by have := (hmM x hx).1; omega, by have := (hmM x hx).2; omega⟩, fun e => by simp [Value.ownBlock] at e, next hB4 hb5, good0⟩,
      rfl, by omega, by omega, by omega, rfl, fun r hr => by
        have : r = beginR 1 := by simpa using hr
        subst this
        exact begin_fits (by omega) (by omega)⟩)
  clear hd hB3 hdl hSlt hMlt hlb hnm hSt hD hz3 hB4 hlb3 hD4 hb5 hz4 hMd hml hol hfl hz2 hW hne hLg hdM hmM X2 HM hm1 hm2 hm3 hb4 sm3
  go_wp2_with fail
  change Code.wp _ _ _ _ (w4.alloc (.cells (rcl (beginR 1)) 41))
  generalize w4.alloc (.cells (rcl (beginR 1)) 41) = W5 at *
  obtain ⟨g0, hg0⟩ : ∃ g0, g0 = w4.heap.size := ⟨_, rfl⟩
  rw [← hg0] at ST ⊢
  clear hg0
  go_loopw [10, 11, 54] (fun wv rv kv wr => WsR w rs half nn d S M lb md mo mf wv rv kv wr) (fun _ _ kv _ => n - (intOf kv).toNat)
  case atStart => exact ST.out
  case round =>
    clear ST d1
    obtain ⟨gb0, i, region, gen, len, N, T, ws, rfl, rfl, hi, hreg, hJ, hws, hlh, hNi, hgi, hg0, hfw⟩ := hrel
    have hin : rs.length = n := H.out.1
    by_cases hlt : i < n
    · obtain ⟨b, off, rfl⟩ := H.out.2.1 (by omega)
      have hk : i < rs.length := by omega
      have hrf := H.out.2.2.1 rs[i] (List.getElem_mem hk)
      have hRw := (H.out.2.2.2 b off rfl).held hJ.below
      obtain ⟨r, hr⟩ : ∃ r, r = rs[i] := ⟨_, rfl⟩
      obtain ⟨pw, cw, hwv, -⟩ := hJ.want.form
      subst hwv
      obtain ⟨lw, hlw⟩ : ∃ lw, lw = ws.length := ⟨_, rfl⟩
      rw [← hlw] at hJ ⊢
      rw [← hr] at hrf
      obtain ⟨c0, c1', c2, c3, c4, c5, c6, c7, c8⟩ := hRw.cells hk (kd := r.kind) (g := r.gen) (l := r.lsn) (i := r.id) (a := r.a) (n := r.len) (o := r.on) (s := r.seq) (m := r.met) hr.symm
      have q1 : IntKind.i64.wrap ((i : Int) + 1) = ((i + 1 : Nat) : Int) := by rw [IntKind.wrap_i64]; omega
      have Y := Lib.hid (And.intro hJ (And.intro hrf (And.intro hg0 (And.intro hfw (And.intro hws hRw)))))
      clear hJ hrf hg0 hfw hws hr hRw
      go_upto_region 18 with (fail)
      clear c0 c1' c2 c3 c4 c5 c6 c7 c8
      obtain ⟨hJ, hrf, hg0, hfw, hws, hRw⟩ := Y.out
      obtain ⟨r0, hr0⟩ : ∃ r0 : Rc, r0 = ⟨r.kind, 0, 0, r.id, r.a, r.len, r.on, r.seq, r.met⟩ := ⟨_, rfl⟩
      have hf0 : r0.Fits := by rw [hr0]; exact ⟨hrf.k1, hrf.k2, by show 0 < 4294967296; omega, by show 0 < 4294967296; omega, hrf.id, hrf.a, hrf.n1, hrf.n2, hrf.seq, hrf.met⟩
      have hX := Blk.new wr 41 (rcl r0)
      have hJ1 := hJ.newbox (.cells (rcl r0) 41)
      have hgw := hJ.below.size
      have hcl : rcl r0 = #[.int .i64 r.kind, .int .u32 0, .int .u32 0, .int .u32 r.id, .int .u32 r.a, .int .i64 r.len, .bool r.on, .int .u32 r.seq, .int .u16 r.met] := by rw [hr0]; rfl
      have hk0 : r0.kind = r.kind := by rw [hr0]
      rw [← hcl]
      have hbW := below_new wr (.cells (rcl r0) 41)
      obtain ⟨gb, hgb⟩ : ∃ gb, gb = wr.heap.size := ⟨_, rfl⟩
      have hsW := size_new wr (.cells (rcl r0) 41)
      rw [← hgb] at hX hJ1 hgw hsW ⊢
      generalize wr.alloc (.cells (rcl r0) 41) = W1 at *
      have hgb1 : gb < W1.heap.size := by omega
      have b0 : W1.cell? ⟨gb, 0, none⟩ = some (.int .i64 r.kind) := by rw [hcl] at hX; exact hX.at_ 0
      have b1 : W1.cell? ⟨gb, 1, none⟩ = some (.int .u32 0) := by rw [hcl] at hX; exact hX.at_ 1
      have b2 : W1.cell? ⟨gb, 2, none⟩ = some (.int .u32 0) := by rw [hcl] at hX; exact hX.at_ 2
      have b3 : W1.cell? ⟨gb, 3, none⟩ = some (.int .u32 r.id) := by rw [hcl] at hX; exact hX.at_ 3
      have b4 : W1.cell? ⟨gb, 4, none⟩ = some (.int .u32 r.a) := by rw [hcl] at hX; exact hX.at_ 4
      have b5 : W1.cell? ⟨gb, 5, none⟩ = some (.int .i64 r.len) := by rw [hcl] at hX; exact hX.at_ 5
      have b6 : W1.cell? ⟨gb, 6, none⟩ = some (.bool r.on) := by rw [hcl] at hX; exact hX.at_ 6
      have b7 : W1.cell? ⟨gb, 7, none⟩ = some (.int .u32 r.seq) := by rw [hcl] at hX; exact hX.at_ 7
      have b8 : W1.cell? ⟨gb, 8, none⟩ = some (.int .u16 r.met) := by rw [hcl] at hX; exact hX.at_ 8
      have R0 := Lib.hid (show WsR w rs half nn d S M lb md mo mf (.slice pw lw cw) (.int .i64 region) (.int .i64 ((i : Int) + 1)) W1 from ⟨gb, i + 1, region, gen, len, N, T, ws, congrArg (Value.int .i64) (by omega), rfl, by omega, hreg, hJ1, by omega, hlh, by omega, by omega, hg0, hfw⟩)
      have RR : ∀ q, right r0 = q → Calls Tryz.prog 9 #[.agg #[.int .i64 r.kind, .int .u32 0, .int .u32 0, .int .u32 r.id, .int .u32 r.a, .int .i64 r.len, .bool r.on, .int .u32 r.seq, .int .u16 r.met]] W1 fun e w' => e = .returned (.bool q) ∧ Below W1.heap.size W1 w' := fun q hq => by
        rw [hr0] at hq
        exact rright_eqR hrf.a hq W1
      have Z := Lib.hid (And.intro hJ1 (And.intro hX (And.intro hf0 (And.intro hg0 (And.intro hfw (And.intro hws (And.intro hcl (And.intro hlw (And.intro hk0 hgw)))))))))
      clear hJ hrf hg0 hfw hws hRw hf0 hX hJ1 hcl hbW hsW Y hgb hlw hk0
      cases hrt : right r0
      · have RF := RR _ hrt
        clear RR hrt
        go_wp2_with fail
        refine RF.mono ?_
        rintro e V ⟨rfl, hb⟩
        have RZ := Lib.hid (R0.out.held hb)
        clear RF R0 b0 b1 b2 b3 b4 b5 b6 b7 b8 hb Z
        go_wp2_with fail
        go_roundw
        case rel => exact RZ.out
        case measure => simp only [intOf]; omega
      · have RF := RR _ hrt
        have HRT := Lib.hid hrt
        clear RR hrt
        go_wp2_with fail
        refine RF.mono ?_
        rintro e V ⟨rfl, hb⟩
        have b0' := held hb b0
        by_cases hk1 : r.kind = 1
        · have dk1 : (r.kind == 1) = true := beq_iff_eq.2 hk1
          have RZ := Lib.hid (R0.out.held hb)
          clear RF R0 b0 b1 b2 b3 b4 b5 b6 b7 b8 hb Z hk1
          go_wp2_with fail
          go_roundw
          case rel => exact RZ.out
          case measure => simp only [intOf]; omega
        · have dk1 : (r.kind == 1) = false := beq_eq_false_iff_ne.2 hk1
          clear RF R0
          go_upto_if 71 with (fail)
          clear b1 b2 b3 b4 b5 b6 b7 b8 b0 b0'
          go_cut [10, 11, 14, 15, 16, 17] from 55 to 182 (fun wv rv _ _ _ _ wx => RdyW w half nn d S M lb md mo mf gb N i T r0 wv rv wx)
          case first =>
            cases hq : ((lw : Int) == (half : Int))
            · obtain ⟨hJ1, hX, hf0, hg0, hfw, hws, hcl, hlw, hk0, hgw⟩ := Z.out
              have hfull : ¬ lw = half := fun e => by rw [e] at hq; simp at hq
              have hJv := hJ1.held hb
              have hXv := hX.held hb
              have hreg2 : region * half + half ≤ 2 * half := by
                have : region * half ≤ 1 * half := Nat.mul_le_mul hreg (Nat.le_refl _)
                omega
              have APP := hJv.append (r := r0) (by omega) (by omega) (by omega) (by omega) hws hXv.lt hf0 HRT.out (by rw [hk0]; exact hk1)
              have RY := Lib.hid (show RdyW w half nn d S M lb md mo mf gb N i T r0 (.slice pw lw cw) (.int .i64 region) V from ⟨gen, len, region, lw, ws, pw, cw, rfl, rfl, hreg, APP, hXv, hlw, hws, hfw, hg0, by omega, by omega⟩)
              clear hJ1 hX hf0 hg0 hfw hws hcl hlw hk0 hgw hJv hXv hreg2 APP Z hb HRT hk1 hfull
              go_wp2_with fail
              go_meet
              case rel => exact RY.out
            · obtain ⟨hJ1, hX, hf0, hg0, hfw, hws, hcl, hlw, hk0, hgw⟩ := Z.out
              have hfull : lw = half := by have := beq_iff_eq.1 hq; omega
              have hJv := hJ1.held hb
              have hXv := hX.held hb
              have RS := hJv.state_
              have RC := hJv.records2
              have Z2 := Lib.hid (And.intro hJv (And.intro hXv (And.intro hf0 (And.intro hg0 (And.intro hws (And.intro hcl (And.intro hlw (And.intro hk0 (And.intro hgw hfull)))))))))
              clear hJ1 hX hf0 hg0 hfw hws hcl hlw hk0 hgw hfull hJv hXv Z hb
              go_wp2_with fail
              refine RS.mono ?_
              rintro e w' ⟨rfl, rfl⟩
              clear RS
              go_wp2_with fail
              refine RC.mono ?_
              rintro e Va ⟨vL, L, rfl, hIs, hLr, hWL, hba, hLn⟩
              clear RC
              obtain ⟨pL, cL, rfl, -⟩ := hWL.form
              obtain ⟨nL, hnL⟩ : ∃ nL, nL = L.length := ⟨_, rfl⟩
              rw [← hnL] at hWL hLn ⊢
              obtain ⟨hJv, hXv, hf0, hg0, hws, hcl, hlw, hk0, hgw, hfull⟩ := Z2.out
              have hJa := hJv.held hba
              have hXa := hXv.held hba
              have hnLb : nL ≤ 61 := by omega
              by_cases hroom : half < nL + 2
              · have dr : decide ((half : Int) < (nL : Int) + 2) = true := decide_eq_true (by omega)
                have AN := hJa.none_ (by omega) (by omega) hIs (by omega) (by omega) (r := r0) hf0 HRT.out (by rw [hk0]; exact hk1)
                rw [hcl] at AN
                have b0 : Va.cell? ⟨gb, 0, none⟩ = some (.int .i64 r.kind) := by rw [hcl] at hXa; exact hXa.at_ 0
                have b1 : Va.cell? ⟨gb, 1, none⟩ = some (.int .u32 0) := by rw [hcl] at hXa; exact hXa.at_ 1
                have b2 : Va.cell? ⟨gb, 2, none⟩ = some (.int .u32 0) := by rw [hcl] at hXa; exact hXa.at_ 2
                have b3 : Va.cell? ⟨gb, 3, none⟩ = some (.int .u32 r.id) := by rw [hcl] at hXa; exact hXa.at_ 3
                have b4 : Va.cell? ⟨gb, 4, none⟩ = some (.int .u32 r.a) := by rw [hcl] at hXa; exact hXa.at_ 4
                have b5 : Va.cell? ⟨gb, 5, none⟩ = some (.int .i64 r.len) := by rw [hcl] at hXa; exact hXa.at_ 5
                have b6 : Va.cell? ⟨gb, 6, none⟩ = some (.bool r.on) := by rw [hcl] at hXa; exact hXa.at_ 6
                have b7 : Va.cell? ⟨gb, 7, none⟩ = some (.int .u32 r.seq) := by rw [hcl] at hXa; exact hXa.at_ 7
                have b8 : Va.cell? ⟨gb, 8, none⟩ = some (.int .u16 r.met) := by rw [hcl] at hXa; exact hXa.at_ 8
                have ZA := Lib.hid hJa
                clear hJv hXv hf0 hg0 hws hcl hlw hk0 hgw hfull hJa hXa hIs hLr hWL hba hLn hnL Z2 HRT hk1
                go_wp2_with fail
                refine AN.mono ?_
                rintro e Vb ⟨rfl, hbb⟩
                clear AN b0 b1 b2 b3 b4 b5 b6 b7 b8
                have hJb := ZA.out.held hbb
                have SS := hJb.state_
                have SH := hJb.shows
                have HB := Lib.hid hJb.below
                clear hJb hbb ZA
                go_wp2_with fail
                refine SS.mono ?_
                rintro e w' ⟨rfl, rfl⟩
                clear SS
                go_wp2_with fail
                refine SH.mono ?_
                rintro e Vc ⟨rfl, hbc⟩
                have HC := Lib.hid (next HB.out hbc)
                clear SH hbc HB
                go_wp2_with fail
                go_ret
                exact ⟨rfl, HC.out⟩
              · have dr : decide ((half : Int) < (nL : Int) + 2) = false := decide_eq_false (by omega)
                obtain ⟨aw, cw2, hv2, -, hA2, hRw⟩ := hJa.want.recs
                obtain ⟨bw, ow, hae, -⟩ := hA2 (by omega)
                simp only [Value.slice.injEq] at hv2
                obtain ⟨hpw, -, -⟩ := hv2
                subst hae
                subst hpw
                have hz0 : 0 < ws.length := by omega
                have hlw0 : 0 < lw := by omega
                have cg : Va.cell? ⟨bw, ow + 1, none⟩ = some (.int .u32 (gen : Nat)) := by
                  have := hRw bw ow rfl 0 hz0 1 (by omega)
                  rw [show ow + (9 * 0 + 1) = ow + 1 by omega] at this
                  rw [this]
                  have e0 : ws[0]?.getD Rm.zero = ws[0] := by simp [hz0]
                  rw [e0] at hg0
                  show some (Value.int .u32 ((ws[0].gen : Nat) : Int)) = _
                  rw [hg0]
                obtain ⟨g1, hg1⟩ : ∃ g1, g1 = gen + 1 := ⟨_, rfl⟩
                obtain ⟨rz, hrz⟩ : ∃ rz, rz = 1 - region := ⟨_, rfl⟩
                have qg : IntKind.u32.wrap ((gen : Int) + 1) = (g1 : Int) := by simp [IntKind.wrap, IntKind.bits, IntKind.signed]; omega
                have qrz : IntKind.i64.wrap (1 - (region : Int)) = (rz : Int) := by rw [IntKind.wrap_i64]; omega
                have qg2 : (gen : Int) + 1 = (g1 : Int) := by omega
                have qrz2 : 1 - (region : Int) = (rz : Int) := by omega
                obtain ⟨hJw, hne⟩ := hJa.rewant hXa.lt (beginR g1) rfl
                have hbn := below_new Va (.cells (rcl (beginR g1)) 41)
                have hXw := hXa.held hbn
                have hWw := hWL.held hbn
                have hLne : ∀ y, some y = (Value.slice pL nL cL).ownBlock → some y ≠ (Value.slice (some ⟨Va.heap.size, 0, none⟩) 1 1).ownBlock := fun y hy => hne y (hWL.lt hy.symm).1
                have ST := Lib.hid (show LyR w half nn d S M lb md mo mf gb gen region len N T r0 ws L V.heap.size pL nL cL g1 (.slice (some ⟨Va.heap.size, 0, none⟩) 1 1) (.int .i64 0) (Va.alloc (.cells (rcl (beginR g1)) 41)) from ⟨0, rfl, by omega, hJw, hXw, hWw, hLne⟩)
                have Z3 := Lib.hid (And.intro hg1 (And.intro hrz (And.intro hIs (And.intro hLr (And.intro hnL (And.intro hf0 (And.intro hws (And.intro hlw (And.intro hk0 hfull)))))))))
                have hroom2 : nL + 2 ≤ half := by omega
                have hg1b : g1 < 4294967296 := by omega
                clear hJv hXv hf0 hg0 hws hcl hlw hk0 hgw hfull hJa hXa hIs hLr hWL hba hLn hnL Z2 hA2 hRw hz0 hg1 hrz hJw hne hbn hXw hWw hLne hroom
                go_upto_region 26 with (fail)
                clear cg qg qg2 qrz qrz2 dr hlw0
                change Code.wp _ _ _ _ (Va.alloc (.cells (rcl (beginR g1)) 41))
                generalize Va.alloc (.cells (rcl (beginR g1)) 41) = Vb at *
                obtain ⟨g0', hg0'⟩ : ∃ g0', g0' = Va.heap.size := ⟨_, rfl⟩
                rw [← hg0'] at ST ⊢
                clear hg0'
                go_wp2_with fail
                go_loopw [10, 102] (fun wv kv wr => LyR w half nn d S M lb md mo mf gb gen region len N T r0 ws L V.heap.size pL nL cL g1 wv kv wr) (fun _ kv _ => nL - (intOf kv).toNat)
                case atStart => exact ST.out
                case round =>
                  clear ST
                  obtain ⟨j, rfl, hj, hJ, hX, hWL, hap⟩ := hrel
                  by_cases hjl : j < nL
                  · obtain ⟨hg1, hrz, hIs, hLr, hnL, hf0, hws, hlw, hk0, hfull⟩ := Z3.out
                    have hj2 : j < L.length := by omega
                    obtain ⟨aL, cL2, hvL, -, hAL, hRL⟩ := hWL.recs
                    obtain ⟨bL, oL, hae, hown⟩ := hAL (by omega)
                    simp only [Value.slice.injEq] at hvL
                    obtain ⟨hpL, -, -⟩ := hvL
                    subst hae
                    subst hpL
                    have hRr := hRL bL oL rfl
                    obtain ⟨x, hx⟩ : ∃ x, x = L[j] := ⟨_, rfl⟩
                    obtain ⟨-, hxf, hxg, hxl⟩ := hLr x (by rw [hx]; exact List.getElem_mem hj2)
                    have hxe : L[j]?.getD Rm.zero = x := by rw [hx]; simp [hj2]
                    obtain ⟨k0, k1, k2, k3, k4, k5, k6, k7, k8⟩ := hRr.cells hj2 (kd := x.kind) (g := x.gen) (l := x.lsn) (i := x.id) (a := x.a) (n := x.len) (o := x.on) (s := x.seq) (m := x.met) hx.symm
                    have qj : IntKind.i64.wrap ((j : Int) + 1) = ((j + 1 : Nat) : Int) := by rw [IntKind.wrap_i64]; omega
                    have qj2 : IntKind.u32.wrap ((j : Int) + 1) = (j : Int) + 1 := by simp [IntKind.wrap, IntKind.bits, IntKind.signed]; omega
                    obtain ⟨pv, cv, hwv, -⟩ := hJ.want.form
                    subst hwv
                    have hlv : (beginR g1 :: laid g1 L j).length = 1 + j := by simp [laid_length]; omega
                    rw [hlv] at hJ hap ⊢
                    have hcx : rcl (inAt g1 (1 + j) x) = #[.int .i64 x.kind, .int .u32 g1, .int .u32 ((j : Int) + 1), .int .u32 x.id, .int .u32 x.a, .int .i64 x.len, .bool x.on, .int .u32 x.seq, .int .u16 x.met] := by
                      rw [show ((j : Int) + 1) = ((1 + j : Nat) : Int) by omega]; rfl
                    have hbn := below_new wr (.cells (rcl (inAt g1 (1 + j) x)) 41)
                    have hJn := hJ.held hbn
                    have hXn := hX.held hbn
                    have hWn := hWL.held hbn
                    have hBx := Blk.new wr 41 (rcl (inAt g1 (1 + j) x))
                    obtain ⟨o8, ho8⟩ : ∃ o8, o8 = Obj.cells (rcl (inAt g1 (1 + j) x)) 41 := ⟨_, rfl⟩
                    have ho9 : o8 = Obj.cells #[.int .i64 x.kind, .int .u32 g1, .int .u32 ((j : Int) + 1), .int .u32 x.id, .int .u32 x.a, .int .i64 x.len, .bool x.on, .int .u32 x.seq, .int .u16 x.met] 41 := by rw [ho8, hcx]
                    rw [← ho8] at hJn hXn hWn hBx
                    have Y4 := Lib.hid (And.intro hJn (And.intro hXn (And.intro hWn (And.intro hBx (And.intro hap (And.intro hxe (And.intro hown hlv)))))))
                    clear hJ hX hWL hap hRL hAL hRr hx hxf hxg hxl hxe hbn hJn hXn hWn hBx hown hlv hg1 hrz hIs hLr hnL hf0 hws hlw hk0 hfull ho8
                    go_upto_region 31 with (fail)
                    clear k0 k1 k2 k3 k4 k5 k6 k7 k8
                    rw [← ho9]
                    obtain ⟨hJn, hXn, hWn, hBx, hap, hxe, hown, hlv⟩ := Y4.out
                    obtain ⟨gx, hgx⟩ : ∃ gx, gx = wr.heap.size := ⟨_, rfl⟩
                    rw [← hgx] at hBx ⊢
                    generalize wr.alloc o8 = W8 at *
                    clear hgx
                    have x0 : W8.cell? ⟨gx, 0, none⟩ = some (.int .i64 x.kind) := by rw [hcx] at hBx; exact hBx.at_ 0
                    have x1 : W8.cell? ⟨gx, 1, none⟩ = some (.int .u32 g1) := by rw [hcx] at hBx; exact hBx.at_ 1
                    have x2 : W8.cell? ⟨gx, 2, none⟩ = some (.int .u32 ((j : Int) + 1)) := by rw [hcx] at hBx; exact hBx.at_ 2
                    have x3 : W8.cell? ⟨gx, 3, none⟩ = some (.int .u32 x.id) := by rw [hcx] at hBx; exact hBx.at_ 3
                    have x4 : W8.cell? ⟨gx, 4, none⟩ = some (.int .u32 x.a) := by rw [hcx] at hBx; exact hBx.at_ 4
                    have x5 : W8.cell? ⟨gx, 5, none⟩ = some (.int .i64 x.len) := by rw [hcx] at hBx; exact hBx.at_ 5
                    have x6 : W8.cell? ⟨gx, 6, none⟩ = some (.bool x.on) := by rw [hcx] at hBx; exact hBx.at_ 6
                    have x7 : W8.cell? ⟨gx, 7, none⟩ = some (.int .u32 x.seq) := by rw [hcx] at hBx; exact hBx.at_ 7
                    have x8 : W8.cell? ⟨gx, 8, none⟩ = some (.int .u16 x.met) := by rw [hcx] at hBx; exact hBx.at_ 8
                    obtain ⟨g', cap', W', hr, hJ', hkp, -, hg'⟩ := hJn.push hXn.lt (inAt g1 (1 + j) x) (by omega) rfl
                    have hWn' : Wl V.heap.size (.slice (some ⟨bL, oL, none⟩) nL cL) L W' := hWn.of_block (fun b' e => by
                      obtain ⟨C, hC⟩ : ∃ C, Blk 41 W8 b' C := by
                        rcases hWn.2 with ⟨h1, _⟩ | ⟨gq, _, curq, h1, _, hq, _⟩
                        · rw [h1] at e; cases e
                        · rw [h1] at e; cases e; exact ⟨curq, hq⟩
                      exact (hkp b' _ C hC (hap b' e.symm)).trans hC.symm)
                    have hX' := hkp gb _ _ hXn hJn.box
                    have hap' := fun y hy => hg' y ((hWn.lt (b := y) (Eq.symm hy)).1) (hap y hy)
                    rw [hlv] at hr hJ' hap'
                    obtain ⟨q', hq'⟩ : ∃ q', q' = 1 + j + 1 := ⟨_, rfl⟩
                    rw [← hq'] at hr hJ' hap'
                    rw [hcx] at hr
                    have hls : beginR g1 :: laid g1 L j ++ [inAt g1 (1 + j) x] = beginR g1 :: laid g1 L (j + 1) := by
                      rw [← hxe]; simp [laid, List.range_succ]
                    rw [hls] at hJ'
                    have RL := Lib.hid (show LyR w half nn d S M lb md mo mf gb gen region len N T r0 ws L V.heap.size (some ⟨bL, oL, none⟩) nL cL g1 (.slice (some ⟨g', 0, none⟩) q' cap') (.int .i64 ((j : Int) + 1)) W' from ⟨j + 1, congrArg (Value.int .i64) (by omega), by omega, hJ', hX', hWn', hap'⟩)
                    clear hJn hXn hWn hBx hap hxe hown hlv hJ' hkp hg' hWn' hX' hap' hq' hls Y4 hcx ho9
                    go_wp2_with (first
                      | (at_builtin; refine Lib.wpList_append_run _ rfl (.tmp 113) (.tmp 115) 22 22 rfl _ _ rfl rfl _ _ hr ?_)
                      | fail)
                    go_roundw
                    case rel => exact RL.out
                    case measure => simp only [intOf]; omega
                  · obtain rfl : j = nL := by omega
                    obtain ⟨hg1, hrz, hIs, hLr, hnL, hf0, hws, hlw, hk0, hfull⟩ := Z3.out
                    have hreg2 : half - region * half = rz * half := by
                      have : region = 0 ∨ region = 1 := by omega
                      rcases this with e | e <;> (subst e; simp [hrz])
                    have hreg3 : region * half ≤ half ∧ (half - region * half) + half ≤ nn := by
                      have : region = 0 ∨ region = 1 := by omega
                      rcases this with e | e <;> (subst e; omega)
                    have APP := hJ.full (by omega) (by omega) (by omega) hreg3.1 (by omega) hreg3.2 (by omega) hIs (by omega) hX.lt (r := r0) hf0 HRT.out (by rw [hk0]; exact hk1)
                    rw [hreg2, ← hg1, ← hnL] at APP
                    obtain ⟨pv, cv, hwv, -⟩ := hJ.want.form
                    subst hwv
                    have hlv : (beginR g1 :: laid g1 L j).length = 1 + j := by simp [laid_length]; omega
                    obtain ⟨lv, hlv2⟩ : ∃ lv, lv = (beginR g1 :: laid g1 L j).length := ⟨_, rfl⟩
                    rw [← hlv2] at APP ⊢
                    have RY := Lib.hid (show RdyW w half nn d S M lb md mo mf gb N i T r0 (.slice pv lv cv) (.int .i64 rz) wr from ⟨g1, j, rz, lv, beginR g1 :: laid g1 L j, pv, cv, rfl, rfl, by omega, APP, hX, hlv2, hlv, fun y hy => by
                      rcases List.mem_cons.1 hy with rfl | hy
                      · exact begin_fits hg1b (by omega)
                      · obtain ⟨k, hk, rfl⟩ := List.mem_map.1 hy
                        have hk2 : k < L.length := by have := List.mem_range.1 hk; omega
                        refine inAt_fits ?_ hg1b (by omega)
                        rw [show L[k]?.getD Rm.zero = L[k] by simp [hk2]]
                        exact (hLr _ (List.getElem_mem hk2)).2.1, rfl, by omega, by omega⟩)
                    clear hJ hX hWL hap hg1 hrz hIs hLr hnL hf0 hws hlw hk0 hfull hreg2 hreg3 APP hlv hlv2 Z3 HRT hk1
                    go_wp2_with fail
                    go_meet
                    case rel => exact RY.out
          case rest =>
            obtain ⟨V3', rfl⟩ : ∃ V3', V3' = V := ⟨_, rfl⟩
            obtain ⟨gz, nz, rz, lz, wz, pz, cz, rfl, rfl, hrz, APP, hXv, hlz1, hlz2, hfz, hgz, hgenz, hlenz⟩ := hcut
            obtain ⟨-, -, hf0, -, -, -, hcl, -, hk0, hgw⟩ := Z.out
            clear hb HRT hk1
            obtain ⟨V, rfl⟩ : ∃ V, V = wc := ⟨_, rfl⟩
            have TL := Lib.hid (And.intro APP (And.intro hXv (And.intro hXv.lt (And.intro hf0 (And.intro (And.intro hlz1 hlz2) (And.intro hfz (And.intro hgz (And.intro hcl (And.intro hk0 (And.intro hgw (And.intro hNi (And.intro hgenz hlenz))))))))))))
            have hlz13 : lz ≤ 13 := by omega
            clear APP hXv hf0 hcl hk0 hgw hlz1 hlz2 hfz hgz hgenz hlenz Z
            obtain ⟨APP, hXv, hgv, hf0, hlz, hfz, hgz, hcl, hk0, hgw, hN1, hgen1, hlen1⟩ := TL.out
            have b0 : V.cell? ⟨gb, 0, none⟩ = some (.int .i64 r.kind) := by rw [hcl] at hXv; exact hXv.at_ 0
            have b1 : V.cell? ⟨gb, 1, none⟩ = some (.int .u32 0) := by rw [hcl] at hXv; exact hXv.at_ 1
            have b2 : V.cell? ⟨gb, 2, none⟩ = some (.int .u32 0) := by rw [hcl] at hXv; exact hXv.at_ 2
            have b3 : V.cell? ⟨gb, 3, none⟩ = some (.int .u32 r.id) := by rw [hcl] at hXv; exact hXv.at_ 3
            have b4 : V.cell? ⟨gb, 4, none⟩ = some (.int .u32 r.a) := by rw [hcl] at hXv; exact hXv.at_ 4
            have b5 : V.cell? ⟨gb, 5, none⟩ = some (.int .i64 r.len) := by rw [hcl] at hXv; exact hXv.at_ 5
            have b6 : V.cell? ⟨gb, 6, none⟩ = some (.bool r.on) := by rw [hcl] at hXv; exact hXv.at_ 6
            have b7 : V.cell? ⟨gb, 7, none⟩ = some (.int .u32 r.seq) := by rw [hcl] at hXv; exact hXv.at_ 7
            have b8 : V.cell? ⟨gb, 8, none⟩ = some (.int .u16 r.met) := by rw [hcl] at hXv; exact hXv.at_ 8
            rw [hcl] at APP
            have AP := APP
            clear APP hXv hf0 hlz hfz hgz hcl hk0 hgw hN1 hgen1 hlen1
            go_wp2_with fail
            refine AP.mono ?_
            rintro e V1 ⟨rfl, hJ1, hbx1, hs1⟩
            clear AP b0 b1 b2 b3 b4 b5 b6 b7 b8
            obtain ⟨-, hXv, hgv, hf0, hlz, hfz, hgz, hcl, hk0, hgw, hN1, hgen1, hlen1⟩ := TL.out
            have hX1 : Blk 41 V1 gb (rcl r0) := hbx1.trans hXv
            have AQ := hJ1.apply (by omega) hX1.lt hf0
            have b0 : V1.cell? ⟨gb, 0, none⟩ = some (.int .i64 r.kind) := by rw [hcl] at hX1; exact hX1.at_ 0
            have b1 : V1.cell? ⟨gb, 1, none⟩ = some (.int .u32 0) := by rw [hcl] at hX1; exact hX1.at_ 1
            have b2 : V1.cell? ⟨gb, 2, none⟩ = some (.int .u32 0) := by rw [hcl] at hX1; exact hX1.at_ 2
            have b3 : V1.cell? ⟨gb, 3, none⟩ = some (.int .u32 r.id) := by rw [hcl] at hX1; exact hX1.at_ 3
            have b4 : V1.cell? ⟨gb, 4, none⟩ = some (.int .u32 r.a) := by rw [hcl] at hX1; exact hX1.at_ 4
            have b5 : V1.cell? ⟨gb, 5, none⟩ = some (.int .i64 r.len) := by rw [hcl] at hX1; exact hX1.at_ 5
            have b6 : V1.cell? ⟨gb, 6, none⟩ = some (.bool r.on) := by rw [hcl] at hX1; exact hX1.at_ 6
            have b7 : V1.cell? ⟨gb, 7, none⟩ = some (.int .u32 r.seq) := by rw [hcl] at hX1; exact hX1.at_ 7
            have b8 : V1.cell? ⟨gb, 8, none⟩ = some (.int .u16 r.met) := by rw [hcl] at hX1; exact hX1.at_ 8
            rw [hcl] at AQ
            have X1 := Lib.hid hX1
            clear hJ1 hbx1 hs1 hXv hgv hf0 hlz hfz hgz hcl hk0 hgw hN1 hgen1 hlen1 hX1
            go_wp2_with fail
            refine AQ.mono ?_
            rintro e V2 ⟨rfl, hJ2, hbx2, hs2⟩
            clear AQ b0 b1 b2 b3 b4 b5 b6 b7 b8
            obtain ⟨-, -, hgv, hf0, hlz, hfz, hgz, hcl, hk0, hgw, hN1, hgen1, hlen1⟩ := TL.out
            have hX2 : Blk 41 V2 gb (rcl r0) := hbx2.trans X1.out
            obtain ⟨aw, cw2, hv2, -, hA2, hRw⟩ := hJ2.want.recs
            obtain ⟨bw, ow, hae, -⟩ := hA2 (by omega)
            simp only [Value.slice.injEq] at hv2
            obtain ⟨hpz, -, -⟩ := hv2
            subst hae
            subst hpz
            have hz0 : 0 < wz.length := by omega
            have cg : V2.cell? ⟨bw, ow + 1, none⟩ = some (.int .u32 (gz : Nat)) := by
              have := hRw bw ow rfl 0 hz0 1 (by omega)
              rw [show ow + (9 * 0 + 1) = ow + 1 by omega] at this
              rw [this]
              have e0 : wz[0]?.getD Rm.zero = wz[0] := by simp [hz0]
              rw [e0] at hgz
              show some (Value.int .u32 ((wz[0].gen : Nat) : Int)) = _
              rw [hgz]
            have hlz0 : 0 < lz := by omega
            have f1 := hX2.free 1
            have f2 := hX2.free 2
            have b1 : V2.cell? ⟨gb, 1, none⟩ = some (.int .u32 0) := by rw [hcl] at hX2; exact hX2.at_ 1
            have b2 : (V2.setCell ⟨gb, 1, none⟩ (.int .u32 (gz : Nat))).cell? ⟨gb, 2, none⟩ = some (.int .u32 0) := by rw [hcl] at hX2; exact (hX2.store 1 (.int .u32 (gz : Nat))).at_ 2
            have f2' : (V2.setCell ⟨gb, 1, none⟩ (.int .u32 (gz : Nat))).frozen? ⟨gb, 2, none⟩ = false := (hX2.store 1 (.int .u32 (gz : Nat))).free 2
            have qz : IntKind.u32.wrap (lz : Int) = (lz : Int) := by simp [IntKind.wrap, IntKind.bits, IntKind.signed]; omega
            have hX3 : Blk 41 ((V2.setCell ⟨gb, 1, none⟩ (.int .u32 (gz : Nat))).setCell ⟨gb, 2, none⟩ (.int .u32 (lz : Nat))) gb (rcl (inAt gz (1 + nz) r0)) := by
              have h3 := (hX2.store 1 (.int .u32 (gz : Nat))).store 2 (.int .u32 (lz : Nat))
              have e3 : lz = 1 + nz := by omega
              rw [e3] at h3 ⊢
              exact h3
            have hJ3 := (hJ2.setbox hgw 1 (.int .u32 (gz : Nat))).setbox hgw 2 (.int .u32 (lz : Nat))
            have X3 := Lib.hid (And.intro hX3 hJ3)
            clear hJ2 hbx2 hs2 hgv hf0 hlz hfz hgz hcl hk0 hgw hN1 hgen1 hlen1 hX2 hA2 hRw hz0 hX3 hJ3 X1
            go_upto_region 38 with (fail)
            clear cg f1 f2 b1 b2 f2' qz
            obtain ⟨hX3, hJ3⟩ := X3.out
            generalize (V2.setCell ⟨gb, 1, none⟩ (.int .u32 (gz : Nat))).setCell ⟨gb, 2, none⟩ (.int .u32 (lz : Nat)) = V3 at *
            obtain ⟨-, -, -, hf0, hlz, hfz, hgz, hcl, hk0, hgw, hN1, hgen1, hlen1⟩ := TL.out
            have hc3 : rcl (inAt gz (1 + nz) r0) = #[.int .i64 r.kind, .int .u32 gz, .int .u32 lz, .int .u32 r.id, .int .u32 r.a, .int .i64 r.len, .bool r.on, .int .u32 r.seq, .int .u16 r.met] := by
              rw [hr0, show lz = 1 + nz by omega]; rfl
            have b0 : V3.cell? ⟨gb, 0, none⟩ = some (.int .i64 r.kind) := by rw [hc3] at hX3; exact hX3.at_ 0
            have b1 : V3.cell? ⟨gb, 1, none⟩ = some (.int .u32 gz) := by rw [hc3] at hX3; exact hX3.at_ 1
            have b2 : V3.cell? ⟨gb, 2, none⟩ = some (.int .u32 lz) := by rw [hc3] at hX3; exact hX3.at_ 2
            have b3 : V3.cell? ⟨gb, 3, none⟩ = some (.int .u32 r.id) := by rw [hc3] at hX3; exact hX3.at_ 3
            have b4 : V3.cell? ⟨gb, 4, none⟩ = some (.int .u32 r.a) := by rw [hc3] at hX3; exact hX3.at_ 4
            have b5 : V3.cell? ⟨gb, 5, none⟩ = some (.int .i64 r.len) := by rw [hc3] at hX3; exact hX3.at_ 5
            have b6 : V3.cell? ⟨gb, 6, none⟩ = some (.bool r.on) := by rw [hc3] at hX3; exact hX3.at_ 6
            have b7 : V3.cell? ⟨gb, 7, none⟩ = some (.int .u32 r.seq) := by rw [hc3] at hX3; exact hX3.at_ 7
            have b8 : V3.cell? ⟨gb, 8, none⟩ = some (.int .u16 r.met) := by rw [hc3] at hX3; exact hX3.at_ 8
            obtain ⟨g4, c4, V4, hr4, hJ4, hkp, hs4, -⟩ := hJ3.push hX3.lt (inAt gz (1 + nz) r0) (by omega) rfl
            obtain ⟨l4, hl4⟩ : ∃ l4, l4 = wz.length + 1 := ⟨_, rfl⟩
            rw [← hl4] at hr4 hJ4
            rw [hc3] at hr4
            have hX4 : Blk 41 V4 gb (rcl (inAt gz (1 + nz) r0)) := hkp gb _ _ hX3 hJ3.box
            have hff : (inAt gz (1 + nz) r0).Fits := ⟨hf0.k1, hf0.k2, by show gz < 4294967296; omega, by show 1 + nz < 4294967296; omega, hf0.id, hf0.a, hf0.n1, hf0.n2, hf0.seq, hf0.met⟩
            have hl4b : l4 = lz + 1 := by omega
            have X4 := Lib.hid (And.intro hJ4 (And.intro hX4 (And.intro hff (And.intro hl4b hc3))))
            clear hX3 hJ3 hJ4 hX4 hff hl4 hl4b hf0 hlz hfz hgz hcl hk0 hgw hN1 hgen1 hlen1 hkp hs4 X3 hc3
            go_upto_region 39 with (first
              | (at_builtin; refine Lib.wpList_append_run _ rfl (.tmp 134) (.tmp 136) 22 22 rfl _ _ rfl rfl _ _ hr4 ?_)
              | fail)
            clear hr4 b0 b1 b2 b3 b4 b5 b6 b7 b8
            obtain ⟨hJ4, hX4, hff, hl4b, hc3⟩ := X4.out
            have hJd := hJ4.held (Below.refl V4.heap.size V4).drew
            have x1 : V4.drew.cell? ⟨gb, 1, none⟩ = some (.int .u32 gz) := by rw [hc3] at hX4; exact hX4.at_ 1
            have hl4c : (l4 : Int) - 1 = (nz : Int) + 1 := by have := TL.out.2.2.2.2.1; omega
            have hl4d : (((nz + 1 : Nat) : Int) != (l4 : Int) - 1) = false := by rw [bne_eq_false_iff_eq]; omega
            have hl414 : l4 ≤ 14 ∧ 1 ≤ l4 := by omega
            have hgg : ((gz : Int) != (gz : Int)) = false := by rw [bne_eq_false_iff_eq]
            have hl4f : ((nz : Int) + 1 != (l4 : Int) - 1) = false := by rw [bne_eq_false_iff_eq]; omega
            have JD := Lib.hid hJd
            clear hJ4 hX4 hff hl4b hc3 hJd
            go_cut [157] from 55 to 182 (fun v wx => v = .bool false ∧ Below V4.heap.size V4 wx)
            case first =>
              clear X4 TL
              refine wp_region_held_drew (S := fun w' => w'.cell? ⟨gb, 1, none⟩ = some (.int .u32 (gz : Nat))) (by kernel_rfl) x1 (fun hHeld => ?_)
              refine take_list (i := 0) (v := .pointer (some ⟨lb, 0, none⟩)) rfl (by kernel_rfl) (by kernel_rfl) (by kernel_rfl) (fun _ _ _ h => h) (.inl ⟨rfl, ?_⟩) hHeld ?_
              · (intro w hSw; go_simp)
              go_frame
              refine take_list (i := 2) (v := .pointer (some ⟨gb, 1, none⟩)) rfl (by kernel_rfl) (by kernel_rfl) (by kernel_rfl) (fun _ _ _ h => h) (.inl ⟨rfl, ?_⟩) hHeld ?_
              · (intro w hSw; go_simp)
              go_frame
              refine take_list (i := 3) (v := .int .u32 (gz : Nat)) rfl (by kernel_rfl) (by kernel_rfl) (by kernel_rfl) (fun _ _ _ h => h) (.inl ⟨rfl, ?_⟩) hHeld ?_
              · (intro w hSw; go_simp)
              go_frame
              refine ready_list (i := 1) rfl (by kernel_rfl) (fun K hK => ?_)
              go_simp
              refine (JD.out.gen_).mono ?_
              rintro e w' ⟨rfl, rfl⟩
              refine hK.out _ _ x1 (fun hHeld => ?_)
              clear hK K
              try go_frame
              refine take_list (i := 4) (v := .bool false) rfl (by kernel_rfl) (by kernel_rfl) (by kernel_rfl) (fun _ _ _ h => h) (.inl ⟨rfl, ?_⟩) hHeld ?_
              · (intro w hSw; go_simp)
              go_frame
              refine take_list (i := 5) (v := .bool false) rfl (by kernel_rfl) (by kernel_rfl) (by kernel_rfl) (fun _ _ _ h => h) (.inl ⟨rfl, ?_⟩) hHeld ?_
              · (intro w hSw; go_simp)
              go_frame
              refine take_list (i := 6) (v := .pointer (some ⟨lb, 0, none⟩)) rfl (by kernel_rfl) (by kernel_rfl) (by kernel_rfl) (fun _ _ _ h => h) (.inl ⟨rfl, ?_⟩) hHeld ?_
              · (intro w hSw; go_simp)
              go_frame
              refine take_list (i := 8) (v := .slice (some ⟨g4, 0, none⟩) l4 c4) rfl (by kernel_rfl) (by kernel_rfl) (by kernel_rfl) (fun _ _ _ h => h) (.inl ⟨rfl, ?_⟩) hHeld ?_
              · (intro w hSw; go_simp)
              go_frame
              refine take_list (i := 9) (v := .int .i64 (l4 : Int)) rfl (by kernel_rfl) (by kernel_rfl) (by kernel_rfl) (fun _ _ _ h => h) (.inl ⟨rfl, ?_⟩) hHeld ?_
              · (intro w hSw; go_simp)
              go_frame
              refine take_list (i := 10) (v := .int .i64 ((l4 : Int) - 1)) rfl (by kernel_rfl) (by kernel_rfl) (by kernel_rfl) (fun _ _ _ h => h) (.inl ⟨rfl, ?_⟩) hHeld ?_
              · (intro w hSw; go_simp <;> (rw [IntKind.wrap_i64]; omega))
              go_frame
              refine ready_list (i := 7) rfl (by kernel_rfl) (fun K hK => ?_)
              go_simp
              refine (JD.out.len_).mono ?_
              rintro e w' ⟨rfl, rfl⟩
              refine hK.out _ _ x1 (fun hHeld => ?_)
              clear hK K
              try go_frame
              refine take_list (i := 11) (v := .bool false) rfl (by kernel_rfl) (by kernel_rfl) (by kernel_rfl) (fun _ _ _ h => h) (.inl ⟨rfl, ?_⟩) hHeld ?_
              · (intro w hSw; go_simp)
              go_frame
              refine take_list (i := 12) (v := .bool false) rfl (by kernel_rfl) (by kernel_rfl) (by kernel_rfl) (fun _ _ _ h => h) (.inl ⟨rfl, ?_⟩) hHeld ?_
              · (intro w hSw; go_simp)
              go_frame
              refine take_list (i := 13) (v := .bool false) rfl (by kernel_rfl) (by kernel_rfl) (by kernel_rfl) (fun _ _ _ h => h) (.inl ⟨rfl, ?_⟩) hHeld ?_
              · (intro w hSw; go_simp)
              go_frame
              refine take_list (i := 14) (v := .pointer (some ⟨md, 0, none⟩)) rfl (by kernel_rfl) (by kernel_rfl) (by kernel_rfl) (fun _ _ _ h => h) (.inl ⟨rfl, ?_⟩) hHeld ?_
              · (intro w hSw; go_simp)
              go_frame
              refine take_list (i := 15) (v := .pointer (some ⟨lb, 0, none⟩)) rfl (by kernel_rfl) (by kernel_rfl) (by kernel_rfl) (fun _ _ _ h => h) (.inl ⟨rfl, ?_⟩) hHeld ?_
              · (intro w hSw; go_simp)
              go_frame
              refine ready_list (i := 16) rfl (by kernel_rfl) (fun K hK => ?_)
              go_simp
              refine (JD.out.state_).mono ?_
              rintro e w' ⟨rfl, rfl⟩
              refine hK.out _ _ x1 (fun hHeld => ?_)
              clear hK K
              try go_frame
              refine ready_list (i := 17) rfl (by kernel_rfl) (fun K hK => ?_)
              go_simp
              refine (JD.out.shows).mono ?_
              rintro e w6 ⟨rfl, hb6⟩
              have HB6 := Lib.hid ((Below.refl V4.heap.size V4).drew.trans hb6)
              have x6 := held hb6 x1
              refine hK.out _ _ x6 (fun hHeld => ?_)
              clear hK K
              try go_frame
              refine take_list (i := 18) (v := .bool false) rfl (by kernel_rfl) (by kernel_rfl) (by kernel_rfl) (fun _ _ _ h => h) (.inl ⟨rfl, ?_⟩) hHeld ?_
              · (intro w hSw; go_simp)
              go_frame
              refine take_list (i := 19) (v := .bool false) rfl (by kernel_rfl) (by kernel_rfl) (by kernel_rfl) (fun _ _ _ h => h) (.inl ⟨rfl, ?_⟩) hHeld ?_
              · (intro w hSw; go_simp)
              go_frame
              refine wpAnyH_done (by kernel_rfl) ?_ _
              try go_frame
              go_wp2_with fail
              go_meet
              case rel => exact ⟨rfl, HB6.out⟩
            case rest =>
              obtain ⟨rfl, hcb⟩ := hcut
              obtain ⟨W7, rfl⟩ : ∃ W7, W7 = wc := ⟨_, rfl⟩
              obtain ⟨ws4, hws4⟩ : ∃ ws4, ws4 = wz ++ [inAt gz (1 + nz) r0] := ⟨_, rfl⟩
              obtain ⟨hJ4, -, hff, hl4b, -⟩ := X4.out
              obtain ⟨-, -, -, -, hlz, hfz, hgz, -, -, -, hN1, hgen1, hlen1⟩ := TL.out
              rw [← hws4] at hJ4
              have hl4e : ws4.length = l4 := by rw [hws4, List.length_append, List.length_singleton]; omega
              have hfw4 : ∀ x ∈ ws4, x.Fits := fun x hx => by
                rw [hws4] at hx
                rcases List.mem_append.1 hx with hx | hx
                · exact hfz x hx
                · rw [List.mem_singleton] at hx; subst hx; exact hff
              have hg4 : (ws4[0]?.getD Rm.zero).gen = gz := by rw [hws4, List.getElem?_append_left (by omega)]; exact hgz
              have hJ7 := hJ4.held hcb
              have R7 := Lib.hid (And.intro hJ7 (And.intro hl4e (And.intro hfw4 (And.intro hg4 (And.intro hl4b (And.intro hN1 (And.intro hgen1 (And.intro hlen1 hlz))))))))
              clear hJ4 hff hl4b hlz hfz hgz hN1 hgen1 hlen1 hl4e hfw4 hg4 hJ7 X4 TL JD x1 hl4c hl4d hl4f hgg hcb hws4
              go_wp2_with fail
              go_loopw [160] (fun k wr => ∃ j : Nat, k = .int .i64 j ∧ j ≤ l4 ∧ Below W7.heap.size W7 wr) (fun k _ => l4 - (intOf k).toNat)
              case atStart => exact ⟨0, rfl, by omega, Below.refl _ _⟩
              case round =>
                obtain ⟨j, rfl, hj, hB⟩ := hrel
                by_cases hjl : j < l4
                · obtain ⟨hJ7, hl4e, hfw4, -, hl4b, -, -, hlen1, hlz⟩ := R7.out
                  have hJr := hJ7.held hB
                  have hj2 : j < ws4.length := by omega
                  obtain ⟨a4, cc4, hv4, -, -, hR4⟩ := hJr.want.recs
                  simp only [Value.slice.injEq] at hv4
                  have hRr := hR4 g4 0 hv4.1.symm
                  obtain ⟨x, hx⟩ : ∃ x, x = ws4[j] := ⟨_, rfl⟩
                  have hxf := hfw4 x (by rw [hx]; exact List.getElem_mem hj2)
                  have hxe : ws4[j]?.getD Rm.zero = x := by rw [hx]; simp [hj2]
                  obtain ⟨k0, k1, k2, k3, k4, k5, k6, k7, k8⟩ := hRr.cells hj2 (kd := x.kind) (g := x.gen) (l := x.lsn) (i := x.id) (a := x.a) (n := x.len) (o := x.on) (s := x.seq) (m := x.met) hx.symm
                  simp only [Nat.zero_add] at k0 k1 k2 k3 k4 k5 k6 k7 k8
                  have qj : IntKind.i64.wrap ((j : Int) + 1) = ((j + 1 : Nat) : Int) := by rw [IntKind.wrap_i64]; omega
                  obtain ⟨rh, hrh⟩ : ∃ rh, rh = rz * half := ⟨_, rfl⟩
                  have hrh13 : rh ≤ 13 ∧ rh + half ≤ nn := by
                    have : rz = 0 ∨ rz = 1 := by omega
                    rcases this with e | e <;> (subst e; omega)
                  have qr : IntKind.i64.wrap ((rz : Int) * (half : Int)) = (rh : Int) := by
                    rw [hrh, ← Int.natCast_mul, ← hrh, IntKind.wrap_i64]; omega
                  have qr2 : (rz : Int) * (half : Int) = (rh : Int) := by rw [hrh, Int.natCast_mul]
                  have hx8 := Blk.new wr 41 (rcl x)
                  have hb8 := below_new wr (.cells (rcl x) 41)
                  have RD := (hJr.held hb8).read (i := j) hj2 (by rw [← hrh]; omega) (z := (rh : Int) + (j : Int)) (by rw [← hrh]; omega)
                  rw [hxe] at RD
                  have X8 := Lib.hid (And.intro hx8 (And.intro hxf (And.intro hB hb8)))
                  clear hJ7 hl4e hfw4 hl4b hlz hlen1 hJr hv4 hR4 hRr hx hxf hxe hx8 hb8 hrh hB
                  go_upto_region 44 with (fail)
                  clear k0 k1 k2 k3 k4 k5 k6 k7 k8
                  change Code.wp _ _ _ _ (wr.alloc (.cells (rcl x) 41))
                  obtain ⟨gx, hgx⟩ : ∃ gx, gx = wr.heap.size := ⟨_, rfl⟩
                  obtain ⟨hx8, hxf, hB, hb8⟩ := X8.out
                  rw [← hgx] at hx8 ⊢
                  generalize wr.alloc (.cells (rcl x) 41) = W8 at *
                  have Y8 := Lib.hid (And.intro hx8 (And.intro hxf (hB.trans (hb8.mono hB.size))))
                  clear hx8 hxf hB hb8 hgx X8
                  go_wp2_with fail
                  refine RD.mono ?_
                  rintro e W9 ⟨g9, c9, rfl, hBy9, hb9⟩
                  clear RD qr qr2
                  obtain ⟨hx8, hxf, hB8⟩ := Y8.out
                  have hx9 := hx8.held hb9
                  have CV : Hid (∀ y, Below W9.heap.size W9 y → (convert 51 9 (.slice (some ⟨g9, 0, none⟩) 48 c9)).run Tryz.prog y = .ok (.string ⟨(toU (Rm.bytes x)).toArray⟩) y) := Lib.hid (fun y hy => by
                    have h1 := (hBy9.held hy).nats (by unfold maxLen; omega)
                    rw [nats_u8s (bytes_lt x)] at h1
                    exact conv_str h1)
                  have cv1 := CV.out W9.drew (Below.refl W9.heap.size W9).drew
                  have BY : Hid (∀ y, Calls Tryz.prog 18 #[.agg #[.int .i64 x.kind, .int .u32 x.gen, .int .u32 x.lsn, .int .u32 x.id, .int .u32 x.a, .int .i64 x.len, .bool x.on, .int .u32 x.seq, .int .u16 x.met]] y fun e y' => ∃ b cap, e = .returned (.slice (some ⟨b, 0, none⟩) 48 cap) ∧ Ob y' b cap (Rm.bytes x) ∧ y.heap.size ≤ b ∧ Below y.heap.size y y') := Lib.hid (fun y => bytes_any x.kind x.gen x.lsn x.id x.a x.len x.on x.seq x.met hxf.gen hxf.lsn hxf.id hxf.a hxf.seq hxf.met y)
                  have y0 : W9.drew.cell? ⟨gx, 0, none⟩ = some (.int .i64 x.kind) := hx9.at_ 0
                  have y1 : W9.drew.cell? ⟨gx, 1, none⟩ = some (.int .u32 x.gen) := hx9.at_ 1
                  have y2 : W9.drew.cell? ⟨gx, 2, none⟩ = some (.int .u32 x.lsn) := hx9.at_ 2
                  have y3 : W9.drew.cell? ⟨gx, 3, none⟩ = some (.int .u32 x.id) := hx9.at_ 3
                  have y4 : W9.drew.cell? ⟨gx, 4, none⟩ = some (.int .u32 x.a) := hx9.at_ 4
                  have y5 : W9.drew.cell? ⟨gx, 5, none⟩ = some (.int .i64 x.len) := hx9.at_ 5
                  have y6 : W9.drew.cell? ⟨gx, 6, none⟩ = some (.bool x.on) := hx9.at_ 6
                  have y7 : W9.drew.cell? ⟨gx, 7, none⟩ = some (.int .u32 x.seq) := hx9.at_ 7
                  have y8 : W9.drew.cell? ⟨gx, 8, none⟩ = some (.int .u16 x.met) := hx9.at_ 8
                  have hB9 := Lib.hid (hB8.trans (hb9.mono (by have := hB8.size; omega)))
                  clear hx8 hxf hB8 hx9 Y8 hb9 hBy9
                  go_upto_region 45 with (fail)
                  go_cut [180] from 161 to 181 (fun v wx => v = .bool false ∧ Below W9.heap.size W9 wx)
                  case first =>
                    go_region_with (first
                      | (go_at_call 18; refine (BY.out _).mono ?_; rintro e yb ⟨gz9, cz9, rfl, hOb, -, hyb⟩; have hBb := (Below.refl W9.heap.size W9).drew.trans hyb; have HBb := Lib.hid hBb; have cv2 := CV.out yb hBb; have cv3 := conv_str (cap := cz9) (hOb.bytes (bytes_lt x) (by rw [bytes_length]; omega)); rw [bytes_length] at cv3; clear hOb hyb hBb))
                    all_goals
                      go_wp2_with fail
                      go_meet
                      case rel => exact ⟨rfl, HBb.out⟩
                  case rest =>
                    obtain ⟨rfl, hcb⟩ := hcut
                    have RB := Lib.hid (hB9.out.trans (hcb.mono (by have := hB9.out.size; omega)))
                    clear hcb y0 y1 y2 y3 y4 y5 y6 y7 y8 cv1 CV BY
                    go_wp2_with fail
                    go_roundw
                    case rel => exact ⟨j + 1, by rfl, by omega, RB.out⟩
                    case measure => simp only [intOf]; omega
                · have RZ := Lib.hid (show WsR w rs half nn d S M lb md mo mf (.slice (some ⟨g4, 0, none⟩) l4 c4) (.int .i64 rz) (.int .i64 ((i : Int) + 1)) wr from by
                    obtain ⟨hJ7, hl4e, hfw4, hg4, hl4b, hN1, hgen1, hlen1, hlz⟩ := R7.out
                    exact ⟨gb, i + 1, rz, gz, nz + 1, N + 1, app T r0, ws4, congrArg (Value.int .i64) (by omega), rfl, by omega, hrz, hJ7.held hB, by omega, by omega, by omega, by omega, hg4, hfw4⟩)
                  clear hB R7
                  go_wp2_with fail
                  go_roundw
                  case rel => exact RZ.out
                  case measure => simp only [intOf]; omega
    · obtain rfl : i = n := by omega
      have HB := Lib.hid hJ.below
      clear hJ hfw hg0
      go_wp2_with fail
      go_ret
      exact ⟨rfl, HB.out⟩
end Go.Proofs.YtpgcnjoodoabhaaGreat

namespace Go.Proofs.YtpgcnjoodoabhaaGreat
open Go.ChangeShapes Go.WideShapes Go.ChangeAt Go.RowKit Go.Joins Rm

set_option maxRecDepth 100000 in
theorem sectors_lifted (os : Os) (started : os.Started) (H : Type) (enc : TypeId × Value → H) :
    ReturnsInHanded {} Tryz.checked os 3 .any (Rows.walSectorsSpec.pre6 enc Tryz.prog Tryz.f3 Rows.walSectorsRow.domain false) (Rows.walSectorsSpec.post enc Tryz.prog Tryz.f3 false true false false) := by
  refine returnsInHanded_of_change (C := Tryz.checked) row_own started (by kernel_rfl) Tryz.func3
    (ChangeSpec.witness6 (enc := enc) (C := Tryz.checked) false ⟨#[], #[.int .i64 0, .slice none 0 0], []⟩ 8 (by kernel_rfl) (by kernel_rfl) (by kernel_rfl) (by kernel_rfl)) ?_
  intro W base args ds gs before hval0 hW hcnd _
  have hval : ∀ (j : Nat) t v, Tryz.f3.params[j]? = some t → args[j]? = some v → Value.okWide Tryz.prog W .any base t v := hval0
  obtain ⟨p, q, hA0, hV, rfl, hfz, hnd⟩ := id hW
  have hA : DataW.TrodAll enc Tryz.prog W 0 (fun _ => true) true Tryz.f3.params.toList args.toList ds p := hA0
  rw [Tryz.params3] at hA hval
  obtain ⟨v0, vs0, d0, ds0, p0, q0, hargs, rfl, rfl, h0, r0⟩ := trodAll_cons hA
  obtain ⟨v1, vs1, d1, ds1, p1, q1, rfl, rfl, rfl, h1, r1⟩ := trodAll_cons r0
  obtain ⟨rfl, rfl, rfl⟩ := trodAll_nil r1
  obtain rfl : args = #[v0, v1] := by cases args; simp_all
  obtain ⟨z0, rfl, -, -, -⟩ := open_int Tryz.underlying3 (hval 0 3 v0 rfl rfl) h0
  obtain ⟨a0, len0, cap0, rfl⟩ := okWide_slice Tryz.underlying22 (hval 1 22 v1 rfl rfl)
  obtain ⟨fuel, hf⟩ := h1
  obtain ⟨hle, hmx, hA1, rs, hl, hF, hR⟩ := open_recs hf
  refine (sectors_any z0 hl hle hA1 hF hR hmx).mono fun e W' ⟨he, hb⟩ => ?_
  subst he
  exact ⟨_, rfl, law_post row_laidOut (by rw [Tryz.params3]; decide +kernel) rfl Tryz.underlying4 rfl rfl hW hb⟩

theorem walSectors_holds : Rows.WalSectorsSaid :=
  OpenClaim.holds_of_wide 3 Tryz.f3 rfl rfl rfl rfl rfl rfl rfl ⟨rfl, rfl, rfl, rfl, rfl⟩ rfl rfl rfl rfl rfl (by kernel_rfl) Tryz.func3 (by kernel_rfl)
    (of_decide_eq_true (by kernel_rfl)) (by unfold Func.isWrapper; first | (rw [if_pos (by decide +kernel)]; kernel_rfl) | (rw [if_neg (by decide +kernel)]; exact ⟨rfl, rfl⟩))
    (fun os started H enc _ => sectors_lifted os started H enc)
#print axioms walSectors_holds
end Go.Proofs.YtpgcnjoodoabhaaGreat

