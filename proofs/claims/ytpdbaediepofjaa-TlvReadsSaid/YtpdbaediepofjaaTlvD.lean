/-
  The contract of package tlv's Decode.
-/
import Derived.Test.YtpdbaediepofjaaTlvL
import Derived.Below
import Derived.BigRegion
import Derived.Outline
import Derived.Deep.Cut
namespace Go.Proofs.Ytpdbaediepofjaa
open Go.RowKit Tm

/-- while the parts are gone through -/
def DecR (w : World) (D : Option (List Up)) (lv iv rv : Value) (wr : World) : Prop :=
  ∃ (us : List Up) (id : Nat) (A : Option Addr) (k cap : Nat) (x : List Nat), iv = .int .u32 id ∧ rv = .slice A k cap ∧ id < 4294967296 ∧ Sl w A k cap x ∧ Lu w.heap.size lv us wr ∧ D = (walk id x).map (us ++ ·) ∧ Below w.heap.size w wr ∧ us.length + k ≤ 1024
def lenOf : Value → Nat
  | .slice _ k _ => k
  | _ => 0
theorem told_eq {A : Option Addr} {n cap : Nat} {bs : List Nat} {w : World} (h : Sl w A n cap bs) {id : Nat} :
    ∃ u : Up, ∃ r : Bool, (Calls Try.prog 24 #[.slice A n cap, .int .u32 id] w fun e w' => e = .returned (.tuple #[.agg (ucs u.a u.len u.id u.seq u.met), .bool r]) ∧ Below w.heap.size w w') ∧ (told bs id).toList = if r then [u] else [] := by
  cases hf : fits bs
  · exact ⟨⟨0, 0, 0, 0, 0⟩, false, told_short h hf id, by rw [told_no hf]; rfl⟩
  · refine ⟨upOf bs id, right (upOf bs id), told_long h hf rfl rfl, ?_⟩
    rw [told_yes hf]
    cases right (upOf bs id) <;> rfl
theorem map_none {D : Option (List Up)} {us : List Up} (h : D = (none : Option (List Up)).map (us ++ ·)) : D = none := h

theorem cut_high_run (b off n cap k : Nat) (hk : k ≤ cap) (w : World) {z : Int} (hz : z = k) (h0 : 0 < cap) :
    (Instr.slice 35 (.slice (some ⟨b, off, none⟩) n cap) none (some (.int .i64 z)) none).run Try.prog w = .ok (.slice (some ⟨b, off, none⟩) k cap) w := by
  have d1 : (k : Int) ≤ (cap : Int) := by omega
  have d2 : ¬ cap = 0 := by omega
  subst hz
  go_simp
set_option maxHeartbeats 4000000 in
theorem decode_any {A : Option Addr} {n cap : Nat} {bs : List Nat} {w : World} (h : Sl w A n cap bs) {D : Option (List Up)} (hD : Tm.decode bs = D) :
    Calls Try.prog 12 #[.slice A n cap] w fun e w' => Below w.heap.size w w' ∧ ((D = none ∧ e = .returned (.tuple #[.slice none 0 0, .bool false])) ∨ ∃ us v, D = some us ∧ e = .returned (.tuple #[v, .bool true]) ∧ Lu w.heap.size v us w') := by
  have hl := h.bytes.1
  have hmx := h.bytes.2.1
  have hcap := h.cap
  have hmx' : n ≤ 9223372036854775807 := by unfold maxLen at hmx; omega
  clear hmx
  cases hh : headed bs
  · have HC := headed_any h hh
    have E : Hid (D = none) := Lib.hid (by rw [← hD]; unfold Tm.decode; rw [hh]; rfl)
    clear h hD hh hl
    go_enter Try.func12, Try.ntmps12
    go_wp2_with fail
    refine HC.mono ?_
    rintro e w' ⟨rfl, rfl⟩
    go_wp2_with fail
    go_ret2
    exact ⟨Below.refl _ _, .inl ⟨E.out, rfl⟩⟩
  · have HC := headed_any h hh
    have hw : D = walk 0 (bs.drop 4) := by rw [← hD]; unfold Tm.decode; rw [hh]; rfl
    have hh' := hh
    unfold headed at hh'
    rw [decide_eq_true_eq, hl] at hh'
    obtain ⟨h4, h1024, -⟩ := hh'
    obtain ⟨A4, s4, hS4, -⟩ := cut_low h (k := 4) h4 (z := 4) rfl
    obtain ⟨m4, hm4⟩ : ∃ m4, m4 = n - 4 := ⟨_, rfl⟩
    obtain ⟨c4, hc4⟩ : ∃ c4, c4 = cap - 4 := ⟨_, rfl⟩
    rw [← hm4, ← hc4] at s4 hS4
    have h0 : DecR w D (.slice none 0 0) (.int .u32 (0 : Nat)) (.slice A4 m4 c4) w := ⟨[], 0, A4, m4, c4, bs.drop 4, rfl, rfl, by omega, hS4, Lu.nil _ _, by rw [hw]; cases walk 0 (bs.drop 4) <;> simp, Below.refl _ _, by simp; omega⟩
    have H0 := Lib.hid h0
    clear h hD hh hl hw h4 h1024 hS4 hm4 hc4 h0 hcap hmx'
    go_enter Try.func12, Try.ntmps12
    go_wp2_with fail
    refine HC.mono ?_
    rintro e w' ⟨rfl, rfl⟩
    clear HC
    go_wp2_with fail
    clear s4
    go_loopw [4, 5, 6] (fun lv iv rv wr => DecR w D lv iv rv wr) (fun _ _ rv _ => lenOf rv)
    case atStart => exact H0.out
    case round =>
      clear H0
      obtain ⟨us, id, A5, k, c5, x, rfl, rfl, hid, hS, hU, hw, hB, hbig⟩ := hrel
      have hl := hS.bytes.1
      have hck := hS.cap
      by_cases hk : 0 < k
      · obtain ⟨b, off, rfl⟩ := hS.plain hk
        have hx0 : 0 < x.length := by omega
        obtain ⟨⟨m, r⟩, hp⟩ : ∃ q, q = pb x := ⟨_, rfl⟩
        have hp := hp.symm
        have HP := partBytes_any (hS.held hB) hk hp
        cases r
        · have E := Lib.hid (And.intro hB (show D = none by rw [hw, pb_false hx0 hp]; rfl))
          clear hS hU hw hB hp hbig
          go_wp2_with fail
          refine HP.mono ?_
          rintro e w' ⟨rfl, rfl⟩
          go_wp2_with fail
          go_ret2
          exact ⟨E.out.1, .inl ⟨E.out.2, rfl⟩⟩
        · obtain ⟨hm1, hmk, hm2⟩ := pb_true hx0 hp
          rw [hl] at hmk
          have hW := walk_pb (id := id) hx0 hp
          have hSp := hS.part 0 m (by omega)
          rw [List.drop_zero, Nat.add_zero, Nat.sub_zero] at hSp
          have s1 := cut_high_run b off k c5 m (by omega) wr (z := (m : Int)) rfl (by omega)
          obtain ⟨A2, hA2⟩ : ∃ A2 : Option Addr, A2 = if c5 = m then some ⟨b, off, none⟩ else (some (⟨b, off, none⟩ : Addr)).map (·.add m) := ⟨_, rfl⟩
          obtain ⟨k2, hk2⟩ : ∃ k2, k2 = k - m := ⟨_, rfl⟩
          obtain ⟨c2', hc2⟩ : ∃ c2', c2' = c5 - m := ⟨_, rfl⟩
          have s2 := cut_low_run (some ⟨b, off, none⟩) k c5 m hmk hck wr (z := (m : Int)) rfl hA2 hk2 hc2
          have hSr : Sl w A2 k2 c2' (x.drop m) := by
            have := hS.of_part (k := m) (m := k2) (cap' := c2') (by omega) (by omega) hA2
            rwa [List.take_of_length_le (by rw [List.length_drop, hl]; omega)] at this
          have c0 : wr.cell? ⟨b, off, none⟩ = some (.int .u8 (x.getD 0 0 : Nat)) := (hS.held hB).at_ (k := 0) hk
          have hxl := hS.bytes.lt 0
          rw [hW] at hw
          have hlt : k2 < k := by omega
          have hsum : us.length + 1 + k2 ≤ 1024 ∨ m = 1 := by omega
          have hsum0 : us.length + k2 ≤ 1024 := by omega
          clear hW hS hp hx0 hl hA2 hk2 hc2
          generalize hxe : x.getD 0 0 = x0 at *
          clear hxe
          by_cases e2 : x0 = 2
          · subst e2
            have d2 : ((2 : Nat) : Int) = 2 := rfl
            rw [d2] at c0
            by_cases e6 : m = 6
            · have d6 : ((m : Int) == 6) = true := beq_iff_eq.2 (by omega)
              have hb4 : ((x.take m).drop 2).length = 4 := by have := hSp.bytes.1; rw [List.length_drop, this, e6]
              have hn : named 2 ((x.take m).drop 2) id = val ((x.take m).drop 2) := by unfold named; rw [if_pos ⟨rfl, hb4⟩]
              have hs : says 2 ((x.take m).drop 2) id = [] := rfl
              have hv : val ((x.take m).drop 2) < 4294967296 := val_lt 4 _ (by omega) (fun c hc => hSp.bytes.2.2.1 c (List.mem_of_mem_drop hc))
              rw [hn, hs] at hw
              obtain ⟨m3, hm3⟩ : ∃ m3, m3 = m - 2 := ⟨_, rfl⟩
              obtain ⟨c3, hc3⟩ : ∃ c3, c3 = c5 - 2 := ⟨_, rfl⟩
              obtain ⟨o3, ho3⟩ : ∃ o3, o3 = off + 2 := ⟨_, rfl⟩
              have s3 := cut_low_run (some ⟨b, off, none⟩) m c5 2 (by omega) (by omega) wr (z := 2) rfl (A' := some ⟨b, o3, none⟩) (by rw [if_neg (by omega), ho3]; rfl) hm3 hc3
              have HG := get_part (hSp.held hB) 2 m3 (by omega) (by omega) c3
              have e4 : ((x.take m).drop 2).take m3 = (x.take m).drop 2 := List.take_of_length_le (by omega)
              rw [e4, ← ho3] at HG
              have R := Lib.hid (show DecR w D u4 (.int .u32 (val ((x.take m).drop 2) : Nat)) (.slice A2 k2 c2') wr from ⟨us, _, A2, k2, c2', x.drop m, rfl, rfl, hv, hSr, hU, by rw [hw]; cases walk (val ((x.take m).drop 2)) (x.drop m) <;> simp, hB, hsum0⟩)
              clear hw hn hs hSr hU hB hSp hbig hm2 hb4 e4 hm3 hc3 ho3 e6
              generalize val ((x.take m).drop 2) = id2 at *
              go_wp2_with fail
              refine HP.mono ?_
              rintro e w' ⟨rfl, rfl⟩
              clear HP
              go_wp2_with fail
              refine HG.mono ?_
              rintro e w' ⟨rfl, rfl⟩
              clear HG
              go_wp2_with fail
              go_roundw
              case rel => exact R.out
              case measure => simp only [lenOf]; omega
            · have d6 : ((m : Int) == 6) = false := beq_eq_false_iff_ne.2 (by omega)
              have hb4 : ¬ ((x.take m).drop 2).length = 4 := by have := hSp.bytes.1; rw [List.length_drop, this]; omega
              have hn : named 2 ((x.take m).drop 2) id = id := by unfold named; rw [if_neg (fun h => hb4 h.2)]
              have hs : says 2 ((x.take m).drop 2) id = [] := rfl
              rw [hn, hs] at hw
              have R := Lib.hid (show DecR w D u4 (.int .u32 id) (.slice A2 k2 c2') wr from ⟨us, id, A2, k2, c2', x.drop m, rfl, rfl, hid, hSr, hU, by rw [hw]; cases walk id (x.drop m) <;> simp, hB, hsum0⟩)
              clear hw hn hs hSr hU hB hSp hbig hm2 hb4
              go_wp2_with fail
              refine HP.mono ?_
              rintro e w' ⟨rfl, rfl⟩
              clear HP
              go_wp2_with fail
              go_roundw
              case rel => exact R.out
              case measure => simp only [lenOf]; omega
          · have d2 : ((x0 : Int) == 2) = false := beq_eq_false_iff_ne.2 (by omega)
            by_cases e3 : x0 = 3
            · subst e3
              have d3 : ((3 : Nat) : Int) = 3 := rfl
              rw [d3] at c0 d2
              obtain ⟨hm22, -⟩ := hm2 (by omega)
              obtain ⟨A3, hA3⟩ : ∃ A3 : Option Addr, A3 = if c5 = 2 then some ⟨b, off, none⟩ else (some (⟨b, off, none⟩ : Addr)).map (·.add 2) := ⟨_, rfl⟩
              obtain ⟨m3, hm3⟩ : ∃ m3, m3 = m - 2 := ⟨_, rfl⟩
              obtain ⟨c3, hc3⟩ : ∃ c3, c3 = c5 - 2 := ⟨_, rfl⟩
              have s3 := cut_low_run (some ⟨b, off, none⟩) m c5 2 hm22 (by omega) wr (z := 2) rfl hA3 hm3 hc3
              have hSb : Sl wr A3 m3 c3 ((x.take m).drop 2) := by
                have := (hSp.held hB).of_part (k := 2) (m := m3) (cap' := c3) (by omega) (by omega) hA3
                rwa [List.take_of_length_le (by rw [List.length_drop, hSp.bytes.1]; omega)] at this
              obtain ⟨u, r, HT, hsay⟩ := told_eq hSb (id := id)
              have hn : named 3 ((x.take m).drop 2) id = id := rfl
              have hs : says 3 ((x.take m).drop 2) id = if r then [u] else [] := by unfold says; rw [if_pos rfl, hsay]
              rw [hn, hs] at hw
              have Z := Lib.hid (And.intro hw (And.intro hSr (And.intro hU (And.intro hB (And.intro hsum0 (show us.length + 1 + k2 ≤ 1024 by omega))))))
              clear hw hn hs hSr hU hB hSp hbig hm2 hSb hA3 hm3 hc3 hsay
              go_wp2_with fail
              refine HP.mono ?_
              rintro e w' ⟨rfl, rfl⟩
              clear HP
              go_wp2_with fail
              refine HT.mono ?_
              rintro e w3 ⟨rfl, hb3⟩
              clear HT s1 s2 s3 c0
              cases r
              · obtain ⟨hw, hSr, hU, hB, hs0, hs1⟩ := Z.out
                have hb4 := next hb3 (below_new w3 (.cells (ucs u.a u.len u.id u.seq u.met) 31))
                have R := Lib.hid (show DecR w D u4 (.int .u32 id) (.slice A2 k2 c2') (w3.alloc (.cells (ucs u.a u.len u.id u.seq u.met) 31)) from ⟨us, id, A2, k2, c2', x.drop m, rfl, rfl, hid, hSr, hU.held hb4, by rw [hw]; cases walk id (x.drop m) <;> simp, hB.trans (hb4.mono hB.size), hs0⟩)
                clear hw hSr hU hB hs0 hs1 hb3 hb4 Z
                unfold ucs at *
                go_wp2_with fail
                go_roundw
                case rel => exact R.out
                case measure => simp only [lenOf]; omega
              · unfold ucs
                go_upto_region 18 with (fail)
                obtain ⟨hw, hSr, hU, hB, hs0, hs1⟩ := Z.out
                obtain ⟨p4, cp4, rfl, -⟩ := hU.form
                have hX := Blk.new w3 31 (ucs u.a u.len u.id u.seq u.met)
                have hb4 := next hb3 (below_new w3 (.cells (ucs u.a u.len u.id u.seq u.met) 31))
                have hU4 := hU.held hb4
                have hB4 := hB.trans (hb4.mono hB.size)
                unfold ucs at hX hb4 hU4 hB4
                generalize w3.alloc _ = W4 at *
                have c0 : W4.cell? ⟨w3.heap.size, 0, none⟩ = some (.int .u32 (u.a : Int)) := hX.at_ 0
                have c1 : W4.cell? ⟨w3.heap.size, 1, none⟩ = some (.int .i64 u.len) := hX.at_ 1
                have c2 : W4.cell? ⟨w3.heap.size, 2, none⟩ = some (.int .u32 (u.id : Int)) := hX.at_ 2
                have c3 : W4.cell? ⟨w3.heap.size, 3, none⟩ = some (.int .u32 (u.seq : Int)) := hX.at_ 3
                have c4 : W4.cell? ⟨w3.heap.size, 4, none⟩ = some (.int .u16 (u.met : Int)) := hX.at_ 4
                have hb5 := below_new W4 (.cells #[.int .u32 u.a, .int .i64 u.len, .int .u32 u.id, .int .u32 u.seq, .int .u16 u.met] 31)
                have hX5 := Blk.new W4 31 #[.int .u32 u.a, .int .i64 u.len, .int .u32 u.id, .int .u32 u.seq, .int .u16 u.met]
                have hU5 := hU4.held hb5
                have hB5 := hB4.trans (hb5.mono hB4.size)
                have hle : w.heap.size ≤ (W4.alloc (.cells #[.int .u32 u.a, .int .i64 u.len, .int .u32 u.id, .int .u32 u.seq, .int .u16 u.met] 31)).heap.size := hB5.size
                obtain ⟨g', cap', W6, hrun, hU6, hg6, -⟩ := run_us hU5 hle (ad := ⟨W4.heap.size, 0, none⟩) (m := 1) (c := 1) (news := [u]) rfl (fun jj vv hv => by
                  rw [Addr.add_mid, Nat.zero_add, hX5.at_ jj]
                  simpa [ucl, Up.cs, ucs] using hv) (by omega) (by omega) 22
                have hB6 := hB5.grown hg6 hle (fun kk e => (hU5.lt e).2)
                obtain ⟨q', hq'⟩ : ∃ q', q' = us.length + 1 := ⟨_, rfl⟩
                rw [← hq'] at hrun hU6
                have R := Lib.hid (show DecR w D (.slice (some ⟨g', 0, none⟩) q' cap') (.int .u32 id) (.slice A2 k2 c2') W6 from ⟨us ++ [u], id, A2, k2, c2', x.drop m, rfl, rfl, hid, hSr, hU6, by rw [hw]; cases walk id (x.drop m) <;> simp, hB6, by simp; omega⟩)
                clear hw hSr hU hB hs0 hs1 hb3 hb4 Z hU4 hB4 hb5 hX5 hU5 hB5 hle hU6 hg6 hB6 hq' hX
                go_wp2_with (first | (at_builtin; refine Lib.wpList_append_run _ rfl (.tmp 53) (.tmp 55) 22 22 rfl _ _ rfl rfl _ _ hrun ?_) | fail)
                go_roundw
                case rel => exact R.out
                case measure => simp only [lenOf]; omega
            · have d3 : ((x0 : Int) == 3) = false := beq_eq_false_iff_ne.2 (by omega)
              have hn : named x0 ((x.take m).drop 2) id = id := by unfold named; rw [if_neg (by omega)]
              have hs : says x0 ((x.take m).drop 2) id = [] := by unfold says; rw [if_neg e3]
              rw [hn, hs] at hw
              have R := Lib.hid (show DecR w D u4 (.int .u32 id) (.slice A2 k2 c2') wr from ⟨us, id, A2, k2, c2', x.drop m, rfl, rfl, hid, hSr, hU, by rw [hw]; cases walk id (x.drop m) <;> simp, hB, hsum0⟩)
              clear hw hn hs hSr hU hB hSp hbig hm2
              go_wp2_with fail
              refine HP.mono ?_
              rintro e w' ⟨rfl, rfl⟩
              clear HP
              go_wp2_with fail
              go_roundw
              case rel => exact R.out
              case measure => simp only [lenOf]; omega
      · obtain rfl : k = 0 := by omega
        have hx : x = [] := List.length_eq_zero_iff.1 hl
        subst hx
        rw [walk_nil] at hw
        have HH := Lib.hid (And.intro hU (And.intro hw hB))
        clear hU hw hB hS hbig hid
        obtain ⟨p, cp, rfl, -⟩ := HH.out.1.form
        go_wp2_with fail
        go_ret2
        exact ⟨HH.out.2.2, .inr ⟨us, _, by simpa using HH.out.2.1, rfl, HH.out.1⟩⟩
end Go.Proofs.Ytpdbaediepofjaa
