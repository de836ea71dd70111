/-
  TlvPads' walk: the list is gone through.
-/
import Derived.Test.YtpdbaediepofjaaTlvS
import Derived.Deep.Cut
import Derived.Deep.CutRange
namespace Go.Proofs.Ytpdbaediepofjaa
open Go.RowKit Tm

/-- while the list is gone through -/
def PadR (w : World) (us : List Up) (B n : Nat) (bv wv iv kv : Value) (wr : World) : Prop :=
  ∃ (i id : Nat) (bb : List Nat) (want : List Up) (g L cap : Nat), kv = .int .i64 i ∧ iv = .int .u32 id ∧ bv = .slice (some ⟨g, 0, none⟩) L cap ∧ i ≤ n ∧ id < 4294967296 ∧ Lb B bv bb wr ∧ Lv B wv want wr ∧
    (∀ r, walk 0 (bb ++ r) = (walk id r).map (want ++ ·)) ∧ want = (us.take i).filter (fun u => right u) ∧ bb.length ≤ 48 * i ∧ (∀ c ∈ bb, c < 256) ∧ Below B w wr

theorem and_u8_seven (p : Nat) : ∃ c : Nat, c ≤ 7 ∧ bits .and .u8 (p : Int) 7 = (c : Int) := by
  have h : (BitVec.ofInt 8 p &&& BitVec.ofInt 8 7).toNat ≤ 7 := by
    rw [BitVec.toNat_and]
    exact Nat.and_le_right
  have e : bits .and .u8 (p : Int) 7 = IntKind.u8.wrap ((BitVec.ofInt 8 p &&& BitVec.ofInt 8 7).toNat : Int) := rfl
  rw [e]
  generalize (BitVec.ofInt 8 p &&& BitVec.ofInt 8 7).toNat = n at h
  refine ⟨n, h, ?_⟩
  simp only [IntKind.wrap, IntKind.bits, IntKind.signed]
  simp
  omega
theorem u8_wf {z : Int} (h : (Lit.int .u8 z).wf = true) : ∃ c : Nat, c < 256 ∧ z = c := by
  have h1 : IntKind.u8.min = 0 := rfl
  have h2 : IntKind.u8.max = 255 := rfl
  simp only [Lit.wf, Bool.and_eq_true, decide_eq_true_eq] at h
  exact ⟨z.toNat, by omega, by omega⟩

set_option maxRecDepth 100000 in
set_option maxHeartbeats 8000000 in
theorem pads_any {A A1 A3 : Option Addr} {n n1 n3 cap cap1 cap3 : Nat} {us : List Up} {ps os : List Nat} {w : World} (h : Ulw w A n cap us) (h1 : Sl w A1 n1 cap1 ps) (z : Int) (hz : (Lit.int .u8 z).wf = true) (h3 : Sl w A3 n3 cap3 os) :
    Calls Try.prog 6 #[.slice A n cap, .slice A1 n1 cap1, .int .u8 z, .slice A3 n3 cap3] w fun e w' => e = .returned (.bool true) ∧ Below w.heap.size w w' := by
  have hn := h.len
  have hmx := h.max
  have hmx1 := h1.bytes.2.1
  have hmx3 := h3.bytes.2.1
  unfold maxLen at hmx hmx1 hmx3
  have H := Lib.hid (And.intro h (And.intro h1 h3))
  clear h h1 h3
  by_cases h12 : 12 < n
  · have d1 : decide ((12 : Int) < (n : Int)) = true := decide_eq_true (by omega)
    go_enter Try.func6, Try.ntmps6
    go_wp2_with fail
    refine (head_any _).mono ?_
    rintro e w1 ⟨rfl, hb1⟩
    have V := Lib.hid hb1
    clear hb1
    go_wp2_with fail
    go_ret
    exact ⟨rfl, V.out⟩
  have d1 : decide ((12 : Int) < (n : Int)) = false := decide_eq_false (by omega)
  by_cases h40 : 40 < n1
  · have d2 : decide ((40 : Int) < (n1 : Int)) = true := decide_eq_true (by omega)
    go_enter Try.func6, Try.ntmps6
    go_wp2_with fail
    refine (head_any _).mono ?_
    rintro e w1 ⟨rfl, hb1⟩
    have V := Lib.hid hb1
    clear hb1
    go_wp2_with fail
    go_ret
    exact ⟨rfl, V.out⟩
  have d2 : decide ((40 : Int) < (n1 : Int)) = false := decide_eq_false (by omega)
  by_cases h20 : 20 < n3
  · have d3 : decide ((20 : Int) < (n3 : Int)) = true := decide_eq_true (by omega)
    go_enter Try.func6, Try.ntmps6
    go_wp2_with fail
    refine (head_any _).mono ?_
    rintro e w1 ⟨rfl, hb1⟩
    have V := Lib.hid hb1
    clear hb1
    go_wp2_with fail
    go_ret
    exact ⟨rfl, V.out⟩
  have d3 : decide ((20 : Int) < (n3 : Int)) = false := decide_eq_false (by omega)
  obtain ⟨c, hc, rfl⟩ := u8_wf hz
  clear hz
  go_enter Try.func6, Try.ntmps6
  go_wp2_with fail
  refine (head_any _).mono ?_
  rintro e w1 ⟨rfl, hb1⟩
  have V := Lib.hid hb1
  clear hb1
  go_upto_region 5 with (fail)
  go_cut [40] from 16 (fun v wx => v = .bool (decide (c = 0 ∨ c = 2 ∨ c = 3)) ∧ wx = w1)
  case first =>
    clear V d1 d2 d3
    by_cases c0 : c = 0
    · have e0 : ((c : Int) == 0) = true := beq_iff_eq.2 (by omega)
      go_wp2_with fail
      go_meet
      case rel => exact ⟨congrArg Value.bool (decide_eq_true (by omega)).symm, rfl⟩
    · have e0 : ((c : Int) == 0) = false := beq_eq_false_iff_ne.2 (by omega)
      by_cases c2 : c = 2
      · have e2 : ((c : Int) == 2) = true := beq_iff_eq.2 (by omega)
        go_wp2_with fail
        go_meet
        case rel => exact ⟨congrArg Value.bool (decide_eq_true (by omega)).symm, rfl⟩
      · have e2 : ((c : Int) == 2) = false := beq_eq_false_iff_ne.2 (by omega)
        by_cases c3 : c = 3
        · have e3 : ((c : Int) == 3) = true := beq_iff_eq.2 (by omega)
          go_wp2_with fail
          go_meet
          case rel => exact ⟨congrArg Value.bool (decide_eq_true (by omega)).symm, rfl⟩
        · have e3 : ((c : Int) == 3) = false := beq_eq_false_iff_ne.2 (by omega)
          go_wp2_with fail
          go_meet
          case rel => exact ⟨congrArg Value.bool (decide_eq_false (by omega)).symm, rfl⟩
  case rest =>
    obtain ⟨rfl, rfl⟩ := hcut
    go_upto_if 40 with (fail)
    go_cut [2] from 16 (fun v wx => (∃ k : Nat, v = .int .u8 k ∧ k < 256 ∧ k ≠ 0 ∧ k ≠ 2 ∧ k ≠ 3) ∧ wx = wc)
    case first =>
      clear V d1 d2 d3
      by_cases hb : c = 0 ∨ c = 2 ∨ c = 3
      · have e0 : decide (c = 0 ∨ c = 2 ∨ c = 3) = true := decide_eq_true hb
        go_wp2_with fail
        go_meet
        case rel => exact ⟨⟨9, rfl, by omega, by omega, by omega, by omega⟩, rfl⟩
      · have e0 : decide (c = 0 ∨ c = 2 ∨ c = 3) = false := decide_eq_false hb
        go_wp2_with fail
        go_meet
        case rel => exact ⟨⟨c, rfl, hc, by omega, by omega, by omega⟩, rfl⟩
    case rest =>
      obtain ⟨⟨kk, rfl, hk256, hk0, hk2, hk3⟩, rfl⟩ := hcut
      obtain ⟨W1, rfl⟩ : ∃ W1, W1 = wc := ⟨_, rfl⟩
      clear hc d1 d2 d3
      go_wp2_with fail
      have hbA := below_new W1 (.cells #[] 5)
      have hsA := size_new W1 (.cells #[] 5)
      have hbC := below_new (W1.alloc (.cells #[] 5)) (.cells #[] 31)
      have hL0 := (Lb.empty (B := W1.heap.size) W1 (Nat.le_refl _)).held hbC
      have hV0 := Lv.empty (B := W1.heap.size) (W1.alloc (.cells #[] 5)) hbA.size
      rw [hsA] at hV0
      have hb0 := next hbA hbC
      have ST := Lib.hid (show PadR W1 us W1.heap.size n (.slice (some ⟨W1.heap.size, 0, none⟩) 0 0) (.slice (some ⟨W1.heap.size + 1, 0, none⟩) 0 0) (.int .u32 0) (.int .i64 0) ((W1.alloc (.cells #[] 5)).alloc (.cells #[] 31)) from ⟨0, 0, [], [], W1.heap.size, 0, 0, rfl, rfl, rfl, by omega, by omega, hL0, hV0, fun r => by rw [List.nil_append]; cases walk 0 r <;> simp, by simp, by simp, by simp, hb0⟩)
      clear hbA hsA hbC hL0 hV0 hb0
      go_loopw [9, 10, 11, 45] (fun bv wv iv kv wr => PadR W1 us W1.heap.size n bv wv iv kv wr) (fun _ _ _ kv _ => n - (intOf kv).toNat)
      case atStart => exact ST.out
      case round =>
        clear ST
        obtain ⟨i, id, bb, want, g, L, cp, rfl, rfl, rfl, hi, hid, hLb, hW, hInv, hwant, hlen, hbt, hb⟩ := hrel
        have hwl : want.length ≤ 12 := by rw [hwant]; exact Nat.le_trans (List.length_filter_le _ _) (by rw [List.length_take]; omega)
        by_cases hlt : i < n
        · obtain ⟨b, off, rfl⟩ := H.out.1.plain (by omega)
          have hk : i < us.length := by omega
          have hfit := H.out.1.fits us[i] (List.getElem_mem hk)
          have htk : us.take (i + 1) = us.take i ++ [us[i]] := List.take_succ_eq_append_getElem hk
          have hUw := (H.out.1.ul (by omega)).held (next V.out hb)
          generalize hu : us[i] = u at *
          obtain ⟨c0, c1, c2, c3, c4⟩ := hUw.at_ hk (a := u.a) (len := u.len) (id := u.id) (seq := u.seq) (met := u.met) hu
          have R := lright_any u.a u.len u.id u.seq u.met hfit.a (wr.alloc (.cells #[.int .u32 u.a, .int .i64 u.len, .int .u32 u.id, .int .u32 u.seq, .int .u16 u.met] 31))
          have q1 : IntKind.i64.wrap ((i : Int) + 1) = ((i + 1 : Nat) : Int) := by rw [IntKind.wrap_i64]; omega
          have X := Lib.hid (And.intro hLb (And.intro hW (And.intro hInv (And.intro hwant (And.intro hlen (And.intro hbt (And.intro hb (And.intro hfit htk))))))))
          clear hLb hW hInv hwant hlen hbt hb hfit htk hUw hu
          go_upto_region 13 with (fail)
          clear c0 c1 c2 c3 c4
          have hA := Blk.new wr 31 #[.int .u32 u.a, .int .i64 u.len, .int .u32 u.id, .int .u32 u.seq, .int .u16 u.met]
          have hb1 := below_new wr (.cells #[.int .u32 u.a, .int .i64 u.len, .int .u32 u.id, .int .u32 u.seq, .int .u16 u.met] 31)
          generalize wr.alloc _ = W2 at *
          obtain ⟨gu, hgu⟩ : ∃ gu, gu = wr.heap.size := ⟨_, rfl⟩
          rw [← hgu] at hA ⊢
          have c0 : W2.cell? ⟨gu, 0, none⟩ = some (.int .u32 u.a) := hA.at_ 0
          have c1 : W2.cell? ⟨gu, 0 + 1, none⟩ = some (.int .i64 u.len) := hA.at_ 1
          have c2 : W2.cell? ⟨gu, 0 + 2, none⟩ = some (.int .u32 u.id) := hA.at_ 2
          have c3 : W2.cell? ⟨gu, 0 + 3, none⟩ = some (.int .u32 u.seq) := hA.at_ 3
          have c4 : W2.cell? ⟨gu, 0 + 4, none⟩ = some (.int .u16 u.met) := hA.at_ 4
          have X2 := Lib.hid (And.intro hA hb1)
          clear hA hb1 hgu
          go_wp2_with fail
          refine R.mono ?_
          rintro e V0 ⟨rfl, hb2⟩
          clear R c0 c1 c2 c3 c4
          obtain ⟨hLb, hW, hInv, hwant, hlen, hbt, hb, hfit, htk⟩ := X.out
          have hbn := next X2.out.2 hb2
          have hX := X2.out.1.held hb2
          have hLb := hLb.held hbn
          have hW := hW.held hbn
          have hb := next hb hbn
          clear X X2 hb2 hbn
          have hue : (⟨u.a, u.len, u.id, u.seq, u.met⟩ : Up) = u := rfl
          rw [hue]
          cases hr : right u
          · have R := Lib.hid (show PadR W1 us W1.heap.size n (.slice (some ⟨g, 0, none⟩) L cp) u10 (.int .u32 id) (.int .i64 ((i : Int) + 1)) V0 from ⟨i + 1, id, bb, want, g, L, cp, congrArg (Value.int .i64) (by omega), rfl, rfl, by omega, hid, hLb, hW, hInv, by rw [htk, List.filter_append, ← hwant]; simp [hr], by omega, hbt, hb⟩)
            clear hLb hW hInv hwant hlen hbt hb hfit htk hX hr hue
            go_wp2_with fail
            go_roundw
            case rel => exact R.out
            case measure => simp only [intOf]; omega
          · have hVo := next V.out hb
            have G := Lib.hid (And.intro hr (And.intro hfit (And.intro hwant htk)))
            by_cases hp : i < n1
            · have dp : decide ((i : Int) < (n1 : Int)) = true := decide_eq_true (by omega)
              obtain ⟨b1, o1, rfl⟩ := H.out.2.1.plain (by omega)
              have cpd : V0.cell? ⟨b1, o1 + i, none⟩ = some (.int .u8 (ps.getD i 0 : Nat)) := (H.out.2.1.held hVo).at_ hp
              obtain ⟨zz, hz7, ez⟩ := and_u8_seven (ps.getD i 0)
              have hz8 : IntKind.i64.wrap (zz : Int) = (zz : Int) := by rw [IntKind.wrap_i64]; omega
              generalize ps.getD i 0 = pv at *
              obtain ⟨g1, p1, V1, m1, hm1, hr1, hL1, hB1, hK1⟩ := hLb.zeros hb.size zz (by omega)
              have hX1 := hK1 _ _ _ (by decide) hX
              have hW1 := hW.keep hK1
              have hb1 := hb.trans hB1
              have q3 : IntKind.u8.wrap (n3 : Int) = (n3 : Int) := by simp [IntKind.wrap, IntKind.bits, IntKind.signed]; omega
              obtain ⟨o, ho⟩ : ∃ o, o = Obj.cells (cls [kk, n3]) 5 := ⟨_, rfl⟩
              have ho2 : o = Obj.cells #[.int .u8 (kk : Int), .int .u8 (n3 : Int)] 5 := ho
              obtain ⟨g2, p2, V2, m2, hm2, hr2, hL2, hB2, hK2⟩ := Lb.lit (news := [kk, n3]) (k := 2) hL1 hb1.size ho rfl (by omega) (by intro c hc; simp at hc; omega) (by simp; omega)
              rw [ho2] at hr2
              have hX2 := hK2 _ _ _ (by decide) hX1
              have hW2 := hW1.keep hK2
              have hb2 := hb1.trans hB2
              have hBo := (H.out.2.2.held (next V.out hb2)).bytes
              have hol := hBo.1
              have hob := hBo.2.2.1
              obtain ⟨g3, p3, V, m3, hm3, hr3, hL3, hB3, hK3⟩ := Lb.app0 hL2 hb2.size hBo (by simp; omega) cap3
              have hX3 := hK3 _ _ _ (by decide) hX2
              have hW3 := hW2.keep hK3
              have hb3 := hb2.trans hB3
              obtain ⟨bb1, hbb1⟩ : ∃ bb1, bb1 = bb ++ List.replicate zz 0 ++ [kk, n3] ++ os := ⟨_, rfl⟩
              rw [← hbb1] at hL3
              have hInv1 : ∀ r, walk 0 (bb1 ++ r) = (walk id r).map (want ++ ·) := fun r => by
                rw [hbb1, List.append_assoc, List.append_assoc, List.append_assoc, hInv, walk_zeros, ← hol]
                exact congrArg (Option.map (want ++ ·)) (walk_odd hk0 hk2 hk3 os id r)
              have hlen1 : bb1.length ≤ 48 * i + 29 := by rw [hbb1]; simp; omega
              have hbt1 : ∀ c ∈ bb1, c < 256 := fun c hc => by
                rw [hbb1] at hc
                rcases List.mem_append.1 hc with hc | hc
                · rcases List.mem_append.1 hc with hc | hc
                  · rcases List.mem_append.1 hc with hc | hc
                    · exact hbt c hc
                    · have := (List.mem_replicate.1 hc).2; omega
                  · simp at hc; omega
                · exact hob c hc
              have T := Lib.hid (And.intro hL3 (And.intro hInv1 (And.intro hlen1 (And.intro hbt1 (And.intro hX3 (And.intro hW3 hb3))))))
              clear hLb hW hInv hwant hlen hbt hb hfit htk hX hr hue hVo hm1 hL1 hB1 hK1 hX1 hW1 hb1 ho ho2 hm2 hL2 hB2 hK2 hX2 hW2 hb2 hBo hol hob hm3 hL3 hB3 hK3 hX3 hW3 hb3 hbb1 hInv1 hlen1 hbt1 hz7
              go_upto_region 17 with (first
                | (at_builtin; refine Lib.wpList_append_run _ rfl (.tmp 57) (.tmp 63) 35 3 rfl _ _ rfl rfl _ _ hr1 ?_)
                | (at_builtin; refine Lib.wpList_append_run _ rfl (.tmp 65) (.tmp 70) 35 35 rfl _ _ rfl rfl _ _ hr2 ?_)
                | (at_builtin; refine Lib.wpList_append_run _ rfl (.tmp 71) (.tmp 72) 35 35 rfl _ _ rfl rfl _ _ hr3 ?_)
                | fail)
              clear hr1 hr2 hr3 cpd ez hz8 q3 dp
              obtain ⟨hLb, hInv, hlen, hbt, hX, hW, hb⟩ := T.out
              have k0 : V.cell? ⟨gu, 0, none⟩ = some (.int .u32 (u.a : Nat)) := hX.at_ 0
              have k1 : V.cell? ⟨gu, 0 + 1, none⟩ = some (.int .i64 u.len) := hX.at_ 1
              have k2 : V.cell? ⟨gu, 0 + 2, none⟩ = some (.int .u32 (u.id : Nat)) := hX.at_ 2
              have k3 : V.cell? ⟨gu, 0 + 3, none⟩ = some (.int .u32 (u.seq : Nat)) := hX.at_ 3
              have k4 : V.cell? ⟨gu, 0 + 4, none⟩ = some (.int .u16 (u.met : Nat)) := hX.at_ 4
              have PP := lparts_any G.out.1 G.out.2.1 hid V
              unfold ucs at PP
              clear hLb hInv hlen hbt hX hW hb
              go_wp2_with fail
              refine PP.mono ?_
              rintro e V2 ⟨g2, c2, L2, rfl, hL2, hg2, hO2, hb2⟩
              clear PP k0 k1 k2 k3 k4
              obtain ⟨hLb, hInv, hlen, hbt, hX, hW, hb⟩ := T.out
              have hpl := parts_le G.out.1 id
              have hp0 : 0 < L2 := by have := parts_ne u id; rw [hL2]; exact List.length_pos_iff.2 this
              have hpb := parts_lt G.out.1 id
              have hBy := hO2.bytes hpb (by omega)
              rw [← hL2] at hBy hpl
              have hbn := next hb hb2
              obtain ⟨g3, c3, V3, q3, hq3, hr3, hL3, hB3, hK3⟩ := (hLb.held hb2).app (A := some ⟨g2, 0, none⟩) hbn.size hBy hp0 (by omega) c2
              have hX3 := hK3 _ _ _ (by decide) (hX.held hb2)
              have hW3 := (hW.held hb2).keep hK3
              have hb3 := hbn.trans hB3
              have hlen3 : (bb1 ++ parts u id).length ≤ 48 * (i + 1) := by rw [List.length_append, ← hL2]; omega
              have hbt3 : ∀ c ∈ bb1 ++ parts u id, c < 256 := fun c hc => (List.mem_append.1 hc).elim (hbt c) (hpb c)
              have hInv3 : ∀ r, walk 0 (bb1 ++ parts u id ++ r) = (walk u.id r).map (want ++ [u] ++ ·) := fun r => by
                rw [List.append_assoc, hInv, walk_parts G.out.1 G.out.2.1]
                cases walk u.id r <;> simp
              obtain ⟨g4, c4, V4, hr4, hW4, hg4, hB4⟩ := hW3.push1 hb3.size u (by omega) rfl
              have hL4 := (hL3.held (below_new V3 (.cells u.cs 31))).grown (hW3.held (below_new _ _)) hg4
              have hb4 := hb3.trans hB4
              have k0 : V3.cell? ⟨gu, 0, none⟩ = some (.int .u32 (u.a : Nat)) := hX3.at_ 0
              have k1 : V3.cell? ⟨gu, 0 + 1, none⟩ = some (.int .i64 u.len) := hX3.at_ 1
              have k2 : V3.cell? ⟨gu, 0 + 2, none⟩ = some (.int .u32 (u.id : Nat)) := hX3.at_ 2
              have k3 : V3.cell? ⟨gu, 0 + 3, none⟩ = some (.int .u32 (u.seq : Nat)) := hX3.at_ 3
              have k4 : V3.cell? ⟨gu, 0 + 4, none⟩ = some (.int .u16 (u.met : Nat)) := hX3.at_ 4
              have F := G.out.2.2
              have hfw : us.filter (fun u => right u) = us.filter (fun u => right u) := rfl
              have hwant : want ++ [u] = (us.take (i + 1)).filter (fun u => right u) := by rw [F.2, List.filter_append, ← F.1]; simp [G.out.1]
              obtain ⟨q4, hq4⟩ : ∃ q4, q4 = want.length + 1 := ⟨_, rfl⟩
              rw [← hq4] at hr4 hW4
              have R := Lib.hid (show PadR W1 us W1.heap.size n (.slice (some ⟨g3, 0, none⟩) q3 c3) (.slice (some ⟨g4, 0, none⟩) q4 c4) (.int .u32 u.id) (.int .i64 ((i : Int) + 1)) V4 from ⟨i + 1, u.id, bb1 ++ parts u id, want ++ [u], g3, q3, c3, congrArg (Value.int .i64) (by omega), rfl, rfl, by omega, G.out.2.1.id, hL4, hW4, hInv3, hwant, hlen3, hbt3, hb4⟩)
              clear hLb hInv hlen hbt hX hW hb hb2 hO2 hg2 hL2 hpl hp0 hpb hBy hbn hq3 hL3 hB3 hK3 hX3 hW3 hb3 hlen3 hbt3 hInv3 hW4 hg4 hB4 hL4 hb4 F hfw hwant hq4 T
              have hr4' : (Builtin.append_ #[22, 22] 22 #[u10, .slice (some ⟨V3.heap.size, 0, none⟩) 1 1]).run Try.prog (V3.alloc (.cells #[.int .u32 u.a, .int .i64 u.len, .int .u32 u.id, .int .u32 u.seq, .int .u16 u.met] 31)) = .ok (.slice (some ⟨g4, 0, none⟩) q4 c4) V4 := hr4
              go_wp2_with (first
                | (at_builtin; refine Lib.wpList_append_run _ rfl (.tmp 74) (.tmp 77) 35 35 rfl _ _ rfl rfl _ _ hr3 ?_)
                | (at_builtin; refine Lib.wpList_append_run _ rfl (.tmp 81) (.tmp 83) 22 22 rfl _ _ rfl rfl _ _ hr4' ?_)
                | fail)
              go_roundw
              case rel => exact R.out
              case measure => simp only [intOf]; omega
            · have dp : decide ((i : Int) < (n1 : Int)) = false := decide_eq_false (by omega)
              obtain ⟨bb1, hbb1⟩ : ∃ bb1, bb1 = bb := ⟨_, rfl⟩
              rw [← hbb1] at hLb hInv hlen hbt
              have hlen1 : bb1.length ≤ 48 * i + 29 := by omega
              obtain ⟨V, rfl⟩ : ∃ V, V = V0 := ⟨_, rfl⟩
              have T := Lib.hid (And.intro hLb (And.intro hInv (And.intro hlen1 (And.intro hbt (And.intro hX (And.intro hW hb))))))
              clear hLb hW hInv hwant hlen hbt hb hfit htk hX hr hue hVo hbb1 hlen1
              go_upto_region 17 with (fail)
              clear dp
              obtain ⟨hLb, hInv, hlen, hbt, hX, hW, hb⟩ := T.out
              have k0 : V.cell? ⟨gu, 0, none⟩ = some (.int .u32 (u.a : Nat)) := hX.at_ 0
              have k1 : V.cell? ⟨gu, 0 + 1, none⟩ = some (.int .i64 u.len) := hX.at_ 1
              have k2 : V.cell? ⟨gu, 0 + 2, none⟩ = some (.int .u32 (u.id : Nat)) := hX.at_ 2
              have k3 : V.cell? ⟨gu, 0 + 3, none⟩ = some (.int .u32 (u.seq : Nat)) := hX.at_ 3
              have k4 : V.cell? ⟨gu, 0 + 4, none⟩ = some (.int .u16 (u.met : Nat)) := hX.at_ 4
              have PP := lparts_any G.out.1 G.out.2.1 hid V
              unfold ucs at PP
              clear hLb hInv hlen hbt hX hW hb
              go_wp2_with fail
              refine PP.mono ?_
              rintro e V2 ⟨g2, c2, L2, rfl, hL2, hg2, hO2, hb2⟩
              clear PP k0 k1 k2 k3 k4
              obtain ⟨hLb, hInv, hlen, hbt, hX, hW, hb⟩ := T.out
              have hpl := parts_le G.out.1 id
              have hp0 : 0 < L2 := by have := parts_ne u id; rw [hL2]; exact List.length_pos_iff.2 this
              have hpb := parts_lt G.out.1 id
              have hBy := hO2.bytes hpb (by omega)
              rw [← hL2] at hBy hpl
              have hbn := next hb hb2
              obtain ⟨g3, c3, V3, q3, hq3, hr3, hL3, hB3, hK3⟩ := (hLb.held hb2).app (A := some ⟨g2, 0, none⟩) hbn.size hBy hp0 (by omega) c2
              have hX3 := hK3 _ _ _ (by decide) (hX.held hb2)
              have hW3 := (hW.held hb2).keep hK3
              have hb3 := hbn.trans hB3
              have hlen3 : (bb1 ++ parts u id).length ≤ 48 * (i + 1) := by rw [List.length_append, ← hL2]; omega
              have hbt3 : ∀ c ∈ bb1 ++ parts u id, c < 256 := fun c hc => (List.mem_append.1 hc).elim (hbt c) (hpb c)
              have hInv3 : ∀ r, walk 0 (bb1 ++ parts u id ++ r) = (walk u.id r).map (want ++ [u] ++ ·) := fun r => by
                rw [List.append_assoc, hInv, walk_parts G.out.1 G.out.2.1]
                cases walk u.id r <;> simp
              obtain ⟨g4, c4, V4, hr4, hW4, hg4, hB4⟩ := hW3.push1 hb3.size u (by omega) rfl
              have hL4 := (hL3.held (below_new V3 (.cells u.cs 31))).grown (hW3.held (below_new _ _)) hg4
              have hb4 := hb3.trans hB4
              have k0 : V3.cell? ⟨gu, 0, none⟩ = some (.int .u32 (u.a : Nat)) := hX3.at_ 0
              have k1 : V3.cell? ⟨gu, 0 + 1, none⟩ = some (.int .i64 u.len) := hX3.at_ 1
              have k2 : V3.cell? ⟨gu, 0 + 2, none⟩ = some (.int .u32 (u.id : Nat)) := hX3.at_ 2
              have k3 : V3.cell? ⟨gu, 0 + 3, none⟩ = some (.int .u32 (u.seq : Nat)) := hX3.at_ 3
              have k4 : V3.cell? ⟨gu, 0 + 4, none⟩ = some (.int .u16 (u.met : Nat)) := hX3.at_ 4
              have F := G.out.2.2
              have hfw : us.filter (fun u => right u) = us.filter (fun u => right u) := rfl
              have hwant : want ++ [u] = (us.take (i + 1)).filter (fun u => right u) := by rw [F.2, List.filter_append, ← F.1]; simp [G.out.1]
              obtain ⟨q4, hq4⟩ : ∃ q4, q4 = want.length + 1 := ⟨_, rfl⟩
              rw [← hq4] at hr4 hW4
              have R := Lib.hid (show PadR W1 us W1.heap.size n (.slice (some ⟨g3, 0, none⟩) q3 c3) (.slice (some ⟨g4, 0, none⟩) q4 c4) (.int .u32 u.id) (.int .i64 ((i : Int) + 1)) V4 from ⟨i + 1, u.id, bb1 ++ parts u id, want ++ [u], g3, q3, c3, congrArg (Value.int .i64) (by omega), rfl, rfl, by omega, G.out.2.1.id, hL4, hW4, hInv3, hwant, hlen3, hbt3, hb4⟩)
              clear hLb hInv hlen hbt hX hW hb hb2 hO2 hg2 hL2 hpl hp0 hpb hBy hbn hq3 hL3 hB3 hK3 hX3 hW3 hb3 hlen3 hbt3 hInv3 hW4 hg4 hB4 hL4 hb4 F hfw hwant hq4 T
              have hr4' : (Builtin.append_ #[22, 22] 22 #[u10, .slice (some ⟨V3.heap.size, 0, none⟩) 1 1]).run Try.prog (V3.alloc (.cells #[.int .u32 u.a, .int .i64 u.len, .int .u32 u.id, .int .u32 u.seq, .int .u16 u.met] 31)) = .ok (.slice (some ⟨g4, 0, none⟩) q4 c4) V4 := hr4
              go_wp2_with (first
                | (at_builtin; refine Lib.wpList_append_run _ rfl (.tmp 74) (.tmp 77) 35 35 rfl _ _ rfl rfl _ _ hr3 ?_)
                | (at_builtin; refine Lib.wpList_append_run _ rfl (.tmp 81) (.tmp 83) 22 22 rfl _ _ rfl rfl _ _ hr4' ?_)
                | fail)
              go_roundw
              case rel => exact R.out
              case measure => simp only [intOf]; omega
        · obtain rfl : i = n := by omega
          obtain ⟨hLe, hBg, hO⟩ := hLb.ob'
          have hbl : bb.length ≤ 576 := by omega
          have hwk : walk 0 bb = some want := by
            have := hInv []
            rw [List.append_nil, walk_nil] at this
            simpa using this
          have hri : ∀ u ∈ want, u.Fits := fun u hu => by
            rw [hwant] at hu
            exact H.out.1.fits u (List.mem_of_mem_take (List.mem_filter.1 hu).1)
          have hL576 : L ≤ 576 := by omega
          have hO2 : Lb wr.heap.size (.slice (some ⟨wr.heap.size, 0, none⟩) 4 4) [87, 1, bb.length / 256 % 256, bb.length % 256] (wr.alloc (.cells (cls [87, 1, bb.length / 256 % 256, bb.length % 256]) 5)) := Lb.fresh wr (Nat.le_refl _) rfl (by omega)
          obtain ⟨o, ho⟩ : ∃ o, o = Obj.cells (cls [87, 1, bb.length / 256 % 256, bb.length % 256]) 5 := ⟨_, rfl⟩
          have ho2 : o = Obj.cells #[.int .u8 87, .int .u8 1, .int .u8 ((L : Int) / 256), .int .u8 ((L : Int) % 256)] 5 := by
            rw [ho, hLe, show ((bb.length : Nat) : Int) / 256 = ((bb.length / 256 % 256 : Nat) : Int) by omega, show ((bb.length : Nat) : Int) % 256 = ((bb.length % 256 : Nat) : Int) by omega]
            rfl
          rw [← ho] at hO2
          have hb1 := below_new wr o
          have hBy := ((hO.held hb1).bytes hbt (by omega))
          rw [← hLe] at hBy
          obtain ⟨g2, c2, V2, L2, hL2, hr2, hLb2, hB2, -⟩ := Lb.app0 hO2 hb1.size hBy (by simp; omega) cp
          obtain ⟨hL2e, -, hOb2⟩ := hLb2.ob'
          have hpg : [87, 1, bb.length / 256 % 256, bb.length % 256] ++ bb = page bb := rfl
          rw [hpg] at hOb2 hL2e
          have hS2 := hOb2.sl (page_lt hbt) (by rw [page_length]; omega)
          rw [← hL2e] at hS2
          have hdec : Tm.decode (page bb) = some want := by rw [decode_page (by omega), hwk]
          have DE := decode_any hS2 hdec
          rw [ho2] at hr2
          have Z := Lib.hid (And.intro (hW.held (hb1.trans hB2)) (And.intro hri (And.intro (next (next V.out hb) (hb1.trans hB2)) hwl)))
          clear hLb hW hInv hwant hlen hbt hb hLe hBg hO hbl hwk hri hO2 ho ho2 hb1 hBy hLb2 hB2 hL2e hOb2 hpg hS2 hdec hwl hL2
          go_wp2_with (first
            | (at_builtin; refine Lib.wpList_append_run _ rfl (.tmp 95) (.tmp 96) 35 35 rfl _ _ rfl rfl _ _ hr2 ?_)
            | fail)
          refine DE.mono ?_
          rintro e V3 ⟨hb3, hD⟩
          clear DE hr2
          rcases hD with ⟨h, -⟩ | ⟨us', v, hus, rfl, hLu⟩
          · cases h
          · cases hus
            obtain ⟨hW, hri, hbb, hwl⟩ := Z.out
            obtain ⟨A4, c4, rfl, hU4⟩ := hLu.ul hri (by omega)
            obtain ⟨A5, c5, rfl, hU5⟩ := (hW.held hb3).ul hri (by omega)
            have SA := same_any hU4 hU5
            rw [decide_eq_true rfl] at SA
            have hbz := Lib.hid (next hbb hb3)
            clear hW hri hbb hwl hLu hU4 hU5 hb3 Z
            go_wp2_with fail
            refine SA.mono ?_
            rintro e V4 ⟨rfl, hb4⟩
            have hz := Lib.hid (next hbz.out hb4)
            clear SA hb4
            go_wp2_with fail
            go_ret
            exact ⟨rfl, hz.out⟩
end Go.Proofs.Ytpdbaediepofjaa
