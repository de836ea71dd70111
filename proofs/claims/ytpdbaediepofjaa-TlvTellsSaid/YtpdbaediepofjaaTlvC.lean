/-
  The contract of the statement's own datagrams.
-/
import Derived.Test.YtpdbaediepofjaaTlvS
import Derived.Deep.Cut
import Derived.Deep.CutRange
import Derived.Deep.CutBlock
namespace Go.Proofs.Ytpdbaediepofjaa
open Go.RowKit Tm

theorem Las.empty {B : Nat} (W : World) (hB : B ≤ W.heap.size) : Las B (.slice (some ⟨W.heap.size, 0, none⟩) 0 0) [] (W.alloc (.cells #[] 35)) :=
  ⟨fun _ => 0, fun _ => 0, ⟨rfl, .inr ⟨W.heap.size, 0, #[], rfl, hB, by simpa [Blk] using Blk.new W 35 #[], Nat.le_refl _, by unfold maxLen; omega, rfl, rfl⟩⟩, fun i h => by simp at h, fun i h => by simp at h, fun i j h => by simp at h, fun i h => by simp at h⟩
theorem pages_all : ∀ (l : List Up) (cur : List Nat) (id : Nat) (u : Up) (r : List Up), l = u :: r → right u = true → 1024 < cur.length + (parts u id).length + 4 → pages cur id l = cur :: pages [] 0 l := by
  rintro l cur id u r rfl hr h
  have hp := parts_le hr 0
  rw [pages_new hr h, pages_on hr (by simp; omega), List.nil_append]
/-- while the list is gone through -/
def LeO (us : List Up) (B n : Nat) (w : World) (ov kv : Value) (wr : World) : Prop :=
  ∃ (i : Nat) (D : List (List Nat)), kv = .int .i64 i ∧ i ≤ n ∧ Las B ov (D.map page) wr ∧ pages [] 0 us = D ++ pages [] 0 (us.drop i) ∧ Below B w wr ∧ (∀ b ∈ D, b.length + 4 ≤ 1024 ∧ ∀ c ∈ b, c < 256)
/-- while a datagram is under way -/
def LeI (us : List Up) (n : Nat) (W : World) (D : List (List Nat)) (i0 : Nat) (kv bv dv : Value) (wr : World) : Prop :=
  ∃ (i id : Nat) (cur : List Nat) (g L cp : Nat), kv = .int .i64 i ∧ bv = .slice (some ⟨g, 0, none⟩) L cp ∧ dv = .int .u32 id ∧ i0 ≤ i ∧ i ≤ n ∧ id < 4294967296 ∧ Lb W.heap.size bv cur wr ∧ Below W.heap.size W wr ∧
    pages [] 0 us = D ++ pages cur id (us.drop i) ∧ cur.length + 4 ≤ 1024 ∧ (∀ c ∈ cur, c < 256) ∧ (i = i0 → cur = [] ∧ id = 0)
/-- where it is ready -/
def LeX (us : List Up) (n : Nat) (W : World) (D : List (List Nat)) (i0 : Nat) (kv bv : Value) (wr : World) : Prop :=
  ∃ (i : Nat) (cur : List Nat) (g L cp : Nat), kv = .int .i64 i ∧ bv = .slice (some ⟨g, 0, none⟩) L cp ∧ i0 < i ∧ i ≤ n ∧ Lb W.heap.size bv cur wr ∧ Below W.heap.size W wr ∧
    pages [] 0 us = D ++ (if cur = [] then [] else [cur]) ++ pages [] 0 (us.drop i) ∧ cur.length + 4 ≤ 1024 ∧ (∀ c ∈ cur, c < 256)

set_option maxRecDepth 100000 in
set_option maxHeartbeats 1500000 in
theorem lencode_any {A : Option Addr} {n cap : Nat} {us : List Up} {w : World} (h : Ul w A n cap us) :
    Calls Try.prog 11 #[.slice A n cap] w fun e w' => ∃ v, e = .returned v ∧ Las w.heap.size v (Tm.encode us) w' ∧ Below w.heap.size w w' := by
  have hn := h.len
  have hmx := h.max
  have hcap := h.cap
  have H := Lib.hid h
  clear h
  have hpc := pages_count us [] 0
  go_enter Try.func11, Try.ntmps11
  go_wp2_with fail
  have hL0 : Las w.heap.size (.slice (some ⟨w.heap.size, 0, none⟩) 0 0) [] (w.alloc (.cells #[] 35)) := Las.empty w (Nat.le_refl _)
  have ST := Lib.hid (show LeO us w.heap.size n w (.slice (some ⟨w.heap.size, 0, none⟩) 0 0) (.int .i64 0) (w.alloc (.cells #[] 35)) from ⟨0, [], rfl, by omega, hL0, by simp, below_new _ _, by simp⟩)
  clear hL0
  go_loopw [3, 4] (fun ov kv wr => LeO us w.heap.size n w ov kv wr) (fun _ kv _ => n - (intOf kv).toNat)
  case atStart => exact ST.out
  case round =>
    clear ST
    obtain ⟨i0, D, rfl, hi0, hLas, hpg, hb, hDb⟩ := hrel
    obtain ⟨W0, rfl⟩ : ∃ W0, W0 = wr := ⟨_, rfl⟩
    have X := Lib.hid (And.intro hLas (And.intro hpg (And.intro hb hDb)))
    clear hLas hb hDb
    by_cases hlt0 : i0 < n
    · go_upto_block 2 with (fail)
      have hL1 := Lb.empty (B := W0.heap.size) W0 (Nat.le_refl _)
      have hbE := below_new W0 (.cells #[] 5)
      have ST := Lib.hid (show LeI us n W0 D i0 (.int .i64 i0) (.slice (some ⟨W0.heap.size, 0, none⟩) 0 0) (.int .u32 0) (W0.alloc (.cells #[] 5)) from ⟨i0, 0, [], W0.heap.size, 0, 0, rfl, rfl, rfl, by omega, by omega, by omega, hL1, hbE, hpg, by simp, by simp, fun _ => ⟨rfl, rfl⟩⟩)
      clear hL1 hbE hpg
      generalize W0.alloc (.cells #[] 5) = W1 at *
      go_cut [4, 5, 6, 7] from 9 to 65 (fun kv bv _ _ wx => LeX us n W0 D i0 kv bv wx)
      case first =>
        have HB0 := Lib.hid X.out.2.2.1
        clear X
        go_wp2_with fail
        go_loopw [4, 5, 6] (fun kv bv dv wr => LeI us n W0 D i0 kv bv dv wr) (fun kv _ _ _ => n - (intOf kv).toNat)
        case atStart => exact ST.out
        case round =>
          clear ST
          obtain ⟨i, id, cur, g, L, cp, rfl, rfl, rfl, hi1, hi2, hid, hLb, hb, hpg, hlen, hbt, hz⟩ := hrel
          by_cases hlt : i < n
          · obtain ⟨b, off, rfl⟩ := H.out.plain (by omega)
            have hk : i < us.length := by omega
            have hfit := H.out.fits us[i] (List.getElem_mem hk)
            have hdrop : us.drop i = us[i] :: us.drop (i + 1) := List.drop_eq_getElem_cons hk
            have hUw := H.out.held (next HB0.out hb)
            obtain ⟨u, hu2⟩ : ∃ u, us[i] = u := ⟨_, rfl⟩
            rw [hu2] at hdrop hfit
            have hu := hu2
            replace hu2 := Lib.hid hu2
            obtain ⟨c0, c1, c2, c3, c4⟩ := hUw.at_ hk (a := u.a) (len := u.len) (id := u.id) (seq := u.seq) (met := u.met) hu
            have R := lright_any u.a u.len u.id u.seq u.met hfit.a wr
            have hue : (⟨u.a, u.len, u.id, u.seq, u.met⟩ : Up) = u := rfl
            rw [hue] at R
            have q1 : IntKind.i64.wrap ((i : Int) + 1) = ((i + 1 : Nat) : Int) := by rw [IntKind.wrap_i64]; omega
            rw [hdrop] at hpg
            have Y := Lib.hid (And.intro hLb (And.intro hb (And.intro hpg (And.intro hbt (And.intro hz hfit)))))
            have hLh := Lib.hid hLb.ob'.1
            clear hLb hb hpg hbt hz hfit hdrop hUw hue
            cases hr : right u
            · rw [hr] at R
              clear hu
              go_wp2_with fail
              refine R.mono ?_
              rintro e V ⟨rfl, hb2⟩
              have Rr := Lib.hid (show LeI us n W0 D i0 (.int .i64 ((i : Int) + 1)) (.slice (some ⟨g, 0, none⟩) L cp) (.int .u32 id) V from by
                obtain ⟨hLb, hb, hpg, hbt, hz, hfit⟩ := Y.out
                exact ⟨i + 1, id, cur, g, L, cp, congrArg (Value.int .i64) (by omega), rfl, rfl, by omega, by omega, hid, hLb.held hb2, next hb hb2, by rw [hpg, pages_skip hr], hlen, hbt, fun e => by omega⟩)
              clear R c0 c1 c2 c3 c4 hb2 Y hr
              go_wp2_with fail
              go_roundw
              case rel => exact Rr.out
              case measure => simp only [intOf]; omega
            · rw [hr] at R
              clear hu
              go_wp2_with fail
              refine R.mono ?_
              rintro e V ⟨rfl, hb2⟩
              obtain ⟨hLb, hb, hpg, hbt, hz, hfit⟩ := Y.out
              have hLb := hLb.held hb2
              have hb := next hb hb2
              have k0 := held hb2 c0
              have k1 := held hb2 c1
              have k2 := held hb2 c2
              have k3 := held hb2 c3
              have k4 := held hb2 c4
              clear c0 c1 c2 c3 c4 R Y hb2
              have PP := lparts_any hr hfit hid V
              unfold ucs at PP
              have hpl := parts_le hr id
              have hpb := parts_lt hr id
              have hp0 : 0 < (parts u id).length := List.length_pos_iff.2 (parts_ne u id)
              have Y := Lib.hid (And.intro hLb (And.intro hb (And.intro hpg (And.intro hbt (And.intro hz (And.intro hfit (And.intro hpl (And.intro hpb (And.intro hp0 hr)))))))))
              clear hLb hb hpg hbt hz hfit hpl hpb hp0 hr
              go_wp2_with fail
              refine PP.mono ?_
              rintro e V2 ⟨g2, c2, L2, rfl, hL2, hg2, hO2, hb2⟩
              clear PP
              obtain ⟨hLb, hb, hpg, hbt, hz, hfit, hpl, hpb, hp0, hr⟩ := Y.out
              have hLb := hLb.held hb2
              have hb := next hb hb2
              have kid := held hb2 k2
              clear k0 k1 k2 k3 k4 hb2 Y
              have hL19 : L2 ≤ 19 := by omega
              have hL24 : L ≤ 1020 := by have := hLh.out; omega
              by_cases hov : 1024 < L + L2 + 4
              · have d1 : decide ((1024 : Int) < (L : Int) + (L2 : Int) + 4) = true := decide_eq_true (by omega)
                have hX := Lib.hid (show LeX us n W0 D i0 (.int .i64 i) (.slice (some ⟨g, 0, none⟩) L cp) V2 from have hLe := hLh.out; ⟨i, cur, g, L, cp, rfl, rfl, by
                    rcases Nat.lt_or_ge i0 i with h | h
                    · exact h
                    · have := (hz (by omega)).1
                      rw [this] at hLe
                      simp at hLe
                      omega, by omega, hLb, hb, by
                    have hne : cur ≠ [] := fun e => by rw [e] at hLe; simp at hLe; omega
                    rw [if_neg hne, hpg, List.drop_eq_getElem_cons hk, hu2.out, pages_all _ cur id u _ rfl hr (by omega)]
                    simp, hlen, hbt⟩)
                clear hLb hb hpg hbt hz hfit hpl hpb hp0 hr hO2 hg2 hL2 kid
                go_wp2_with fail
                go_meet
                case rel => exact hX.out
              · have d1 : decide ((1024 : Int) < (L : Int) + (L2 : Int) + 4) = false := decide_eq_false (by omega)
                have hBy := hO2.bytes hpb (by omega)
                rw [← hL2] at hBy
                obtain ⟨g3, c3, V3, q3, hq3, hr3, hL3, hB3, hK3⟩ := hLb.app (A := some ⟨g2, 0, none⟩) hb.size hBy (by omega) (by have := hLh.out; omega) c2
                have kid3 : V3.cell? ⟨b, off + i * 5 + 2, none⟩ = some (.int .u32 (u.id : Nat)) := by
                  have h2 := (H.out.held (next HB0.out (hb.trans hB3))).at_ hk (a := u.a) (len := u.len) (id := u.id) (seq := u.seq) (met := u.met) hu2.out
                  exact h2.2.2.1
                have Rr := Lib.hid (show LeI us n W0 D i0 (.int .i64 ((i : Int) + 1)) (.slice (some ⟨g3, 0, none⟩) q3 c3) (.int .u32 u.id) V3 from ⟨i + 1, u.id, cur ++ parts u id, g3, q3, c3, congrArg (Value.int .i64) (by omega), rfl, rfl, by omega, by omega, hfit.id, hL3, hb.trans hB3, by rw [hpg, pages_on hr (by have := hLh.out; omega)], by have := hLh.out; rw [List.length_append]; omega, fun c hc => (List.mem_append.1 hc).elim (hbt c) (hpb c), fun e => by omega⟩)
                clear hLb hb hpg hbt hz hfit hpl hpb hp0 hr hO2 hg2 hL2 kid hBy hq3 hL3 hB3 hK3
                go_wp2_with (first
                  | (at_builtin; refine Lib.wpList_append_run _ rfl (.tmp 39) (.tmp 40) 35 35 rfl _ _ rfl rfl _ _ hr3 ?_)
                  | fail)
                go_roundw
                case rel => exact Rr.out
                case measure => simp only [intOf]; omega
          · have d1 : decide ((i : Int) < (n : Int)) = false := decide_eq_false (by omega)
            obtain rfl : i = n := by omega
            have hX := Lib.hid (show LeX us i W0 D i0 (.int .i64 i) (.slice (some ⟨g, 0, none⟩) L cp) wr from ⟨i, cur, g, L, cp, rfl, rfl, hlt0, by omega, hLb, hb, by
              have hnil : us.drop i = [] := List.drop_eq_nil_of_le (by omega)
              rw [hpg, hnil]
              simp [pages], hlen, hbt⟩)
            clear hLb hb hpg hbt hz
            go_wp2_with fail
            go_meet
            case rel => exact hX.out
      case rest =>
        clear ST
        obtain ⟨i, cur, g, L, cp, rfl, rfl, hi1, hi2, hLb, hb, hpg, hlen, hbt⟩ := hcut
        obtain ⟨hLas, -, hb0, hDb⟩ := X.out
        have hLe := hLb.ob'.1
        have hLas := hLas.held hb
        have hb2 := next hb0 hb
        by_cases hc : cur = []
        · have hL0 : L = 0 := by rw [hLe, hc]; rfl
          have d1 : decide ((0 : Int) < (L : Int)) = false := decide_eq_false (by omega)
          have d2 : decide (0 < L) = false := decide_eq_false (by omega)
          have d3 : ¬ 0 < L := by omega
          have R := Lib.hid (show LeO us w.heap.size n w u3 (.int .i64 i) wc from ⟨i, D, rfl, hi2, hLas, by rw [hpg, if_pos hc]; simp, hb2, hDb⟩)
          clear hLas hb0 hDb hb hb2 hpg hLb hbt hlen hLe hL0 hc X
          go_wp2_with fail
          go_roundw
          case rel => exact R.out
          case measure => simp only [intOf]; omega
        · have hL0 : 0 < L := by rw [hLe]; exact List.length_pos_iff.2 hc
          have d1 : decide ((0 : Int) < (L : Int)) = true := decide_eq_true (by omega)
          rw [if_neg hc] at hpg
          have hL1020 : L ≤ 1020 := by omega
          have hDl : D.length ≤ n := by
            have := congrArg List.length hpg
            simp only [List.length_append, List.length_cons, List.length_nil] at this
            omega
          obtain ⟨-, -, hO⟩ := hLb.ob'
          have hO2 : Lb wc.heap.size (.slice (some ⟨wc.heap.size, 0, none⟩) 4 4) [87, 1, cur.length / 256 % 256, cur.length % 256] (wc.alloc (.cells (cls [87, 1, cur.length / 256 % 256, cur.length % 256]) 5)) := Lb.fresh wc (Nat.le_refl _) rfl (by omega)
          obtain ⟨o, ho⟩ : ∃ o, o = Obj.cells (cls [87, 1, cur.length / 256 % 256, cur.length % 256]) 5 := ⟨_, rfl⟩
          have ho2 : o = Obj.cells #[.int .u8 87, .int .u8 1, .int .u8 ((L : Int) / 256), .int .u8 ((L : Int) % 256)] 5 := by
            rw [ho, hLe, show ((cur.length : Nat) : Int) / 256 = ((cur.length / 256 % 256 : Nat) : Int) by omega, show ((cur.length : Nat) : Int) % 256 = ((cur.length % 256 : Nat) : Int) by omega]
            rfl
          rw [← ho] at hO2
          have hb1 := below_new wc o
          have hBy := ((hO.held hb1).bytes hbt (by omega))
          rw [← hLe] at hBy
          obtain ⟨g2, c2, V2, L2, hL2, hr2, hLb2, hB2, -⟩ := Lb.app0 hO2 hb1.size hBy (by simp; omega) cp
          obtain ⟨hL2e, hg2, hOb2⟩ := hLb2.ob'
          have hpgc : [87, 1, cur.length / 256 % 256, cur.length % 256] ++ cur = page cur := rfl
          rw [hpgc] at hOb2 hL2e
          have hbV := hb1.trans hB2
          have hbA := next hbV (below_new V2 (.cells #[.slice (some ⟨g2, 0, none⟩) L2 c2] 35))
          have hcell : (V2.alloc (.cells #[.slice (some ⟨g2, 0, none⟩) L2 c2] 35)).cell? ⟨V2.heap.size, 0, none⟩ = some (.slice (some ⟨g2, 0, none⟩) (page cur).length c2) := by rw [← hL2e]; exact (Blk.new V2 35 #[.slice (some ⟨g2, 0, none⟩) L2 c2]).at_ 0
          obtain ⟨g', cap', V3, hr3, hLas3, hB3, -⟩ := hLas.push hbA hb2.size (ad := ⟨V2.heap.size, 0, none⟩) (c := 1) hcell (hOb2.held (below_new V2 _)) hg2 (by simp; omega) 33
          obtain ⟨q', hq'⟩ : ∃ q', q' = (D.map page).length + 1 := ⟨_, rfl⟩
          rw [← hq'] at hr3 hLas3
          have R := Lib.hid (show LeO us w.heap.size n w (.slice (some ⟨g', 0, none⟩) q' cap') (.int .i64 i) V3 from ⟨i, D ++ [cur], rfl, hi2, by rw [List.map_append]; exact hLas3, hpg, hb2.trans hB3, fun b hbm => by
            rcases List.mem_append.1 hbm with h | h
            · exact hDb b h
            · rw [List.mem_singleton] at h; subst h; exact ⟨hlen, hbt⟩⟩)
          rw [ho2] at hr2
          clear hLas hb0 hDb hb hb2 hpg hLb hbt hlen hLe hc X hDl hO hO2 ho ho2 hb1 hBy hLb2 hB2 hL2e hg2 hOb2 hpgc hbV hbA hcell hLas3 hB3 hq' hL2
          go_wp2_with (first
            | (at_builtin; refine Lib.wpList_append_run _ rfl (.tmp 61) (.tmp 62) 35 35 rfl _ _ rfl rfl _ _ hr2 ?_)
            | (at_builtin; refine Lib.wpList_append_run _ rfl (.tmp 52) (.tmp 64) 33 33 rfl _ _ rfl rfl _ _ hr3 ?_)
            | fail)
          go_roundw
          case rel => exact R.out
          case measure => simp only [intOf]; omega
    · obtain ⟨hLas, -, hb, -⟩ := X.out
      have d1 : decide ((i0 : Int) < (n : Int)) = false := decide_eq_false (by omega)
      have hnil : us.drop i0 = [] := List.drop_eq_nil_of_le (by omega)
      have hE : Tm.encode us = D.map page := by unfold Tm.encode; rw [hpg, hnil]; simp [pages]
      rw [← hE] at hLas
      have R := Lib.hid (And.intro hLas hb)
      obtain ⟨p, cq, hv, -⟩ := hLas.form
      subst hv
      clear hLas hb hpg hnil hE X
      go_wp2_with fail
      go_ret
      exact ⟨_, rfl, R.out⟩
end Go.Proofs.Ytpdbaediepofjaa
