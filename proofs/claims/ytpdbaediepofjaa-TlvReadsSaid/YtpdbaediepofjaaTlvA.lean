/-
  The contract of the statement's own reading of a datagram: the parts.
-/
import Derived.Test.YtpdbaediepofjaaTlvAb
namespace Go.Proofs.Ytpdbaediepofjaa
open Go.RowKit Tm

set_option maxRecDepth 100000 in
set_option maxHeartbeats 8000000 in
theorem ldecode_any {A : Option Addr} {n cap : Nat} {bs : List Nat} {w : World} (h : Sl w A n cap bs) {D : Option (List Up)} (hD : Tm.decode bs = D) :
    Calls Try.prog 14 #[.slice A n cap] w fun e w' => Below w.heap.size w w' ∧ ((D = none ∧ e = .returned (.tuple #[.slice none 0 0, .bool false])) ∨ ∃ us v, D = some us ∧ e = .returned (.tuple #[v, .bool true]) ∧ Lv w.heap.size v us w') := by
  cases hh : headed bs
  · refine (ldecode_bad h hh).mono ?_
    rintro e w' ⟨hb, rfl⟩
    exact ⟨hb, .inl ⟨by rw [← hD]; unfold Tm.decode; rw [hh]; rfl, rfl⟩⟩
  have hD' : D = walk 0 (bs.drop 4) := by rw [← hD]; unfold Tm.decode; rw [hh]; rfl
  have hl := h.bytes.1
  have hmx := h.bytes.2.1
  have hcap := h.cap
  have hmx' : n ≤ 9223372036854775807 := by unfold maxLen at hmx; omega
  clear hmx hD
  unfold headed at hh
  rw [decide_eq_true_eq, hl] at hh
  obtain ⟨h4, h1024, hx0, hx1, hx23⟩ := hh
  have d1 : decide ((n : Int) < 4) = false := decide_eq_false (by omega)
  have d2 : decide ((1024 : Int) < (n : Int)) = false := decide_eq_false (by omega)
  obtain ⟨b, off, rfl⟩ := h.plain (by omega)
  have c0 : w.cell? ⟨b, off, none⟩ = some (.int .u8 (bs.getD 0 0 : Nat)) := h.at_ (k := 0) (by omega)
  have c1 : w.cell? ⟨b, off + 1, none⟩ = some (.int .u8 (bs.getD 1 0 : Nat)) := h.at_ (k := 1) (by omega)
  have c2 : w.cell? ⟨b, off + 2, none⟩ = some (.int .u8 (bs.getD 2 0 : Nat)) := h.at_ (k := 2) (by omega)
  have c3 : w.cell? ⟨b, off + 3, none⟩ = some (.int .u8 (bs.getD 3 0 : Nat)) := h.at_ (k := 3) (by omega)
  have hz := h.bytes.lt 2
  have hu := h.bytes.lt 3
  have Y := Lib.hid (And.intro h (And.intro hD' hl))
  clear h hD' hl
  rw [hx0] at c0
  rw [hx1] at c1
  generalize bs.getD 2 0 = x2 at *
  generalize bs.getD 3 0 = x3 at *
  have q5 : wrap64 (wrap64 (256 * wrap64 (x2 : Int)) + wrap64 (x3 : Int)) = 256 * (x2 : Int) + (x3 : Int) := by rw [IntWalk.wrap64_in (x2 : Int) (by omega), IntWalk.wrap64_in (x3 : Int) (by omega), IntWalk.wrap64_in (256 * (x2 : Int)) (by omega), IntWalk.wrap64_in _ (by omega)]
  have d5 : (wrap64 (wrap64 (256 * wrap64 (x2 : Int)) + wrap64 (x3 : Int)) != (n : Int) - 4) = false := by rw [q5]; simp; omega
  clear q5 hz hu hx0 hx1 hx23
  go_enter Try.func14, Try.ntmps14
  go_upto_region 1 with (fail)
  go_big_quiet (fail)
  clear d5 c0 c1 c2 c3 d1 d2
  go_wp2_with fail
  have ST : ∀ k, Lv w.heap.size (.slice (some ⟨w.heap.size, 0, none⟩) 0 0) [] ((w.drewN k).alloc (.cells #[] 31)) ∧ Below w.heap.size w ((w.drewN k).alloc (.cells #[] 31)) := fun k => by
    have h1 : Below w.heap.size w (w.drewN k) := drewN_below (Below.refl _ _) _
    exact ⟨Lv.empty (w.drewN k) (Nat.le_refl _), next h1 (below_new _ _)⟩
  replace ST := Lib.hid (ST nq)
  generalize (w.drewN nq).alloc (.cells #[] 31) = W0 at *
  go_loopw [4, 5, 6] (fun lv iv kv wr => LdR w D n bs lv iv kv wr) (fun _ _ kv _ => n - (intOf kv).toNat)
  case atStart => exact ⟨[], 0, 4, rfl, rfl, by omega, h4, ST.out.1, by rw [Y.out.2.1]; cases walk 0 (bs.drop 4) <;> simp, ST.out.2, by simp; omega⟩
  case round =>
    clear ST h4
    obtain ⟨us, id, i, rfl, rfl, hid, hi, hU, hw, hB, hbig⟩ := hrel
    by_cases hlt : i < n
    · obtain ⟨hSw, -, hl⟩ := Y.out
      have hS := hSw.held hB
      have ck : wr.cell? ⟨b, off + i, none⟩ = some (.int .u8 (bs.getD i 0 : Nat)) := hS.at_ hlt
      have hk := hS.bytes.lt i
      by_cases e0 : bs.getD i 0 = 0
      · rw [e0] at ck
        have d0 : ((0 : Nat) : Int) = 0 := rfl
        rw [d0] at ck
        have R := Lib.hid (show LdR w D n bs u4 (.int .u32 id) (.int .i64 ((i + 1 : Nat) : Int)) wr from ⟨us, id, i + 1, rfl, rfl, hid, by omega, hU, by rw [hw, ld_zero (by omega) e0], hB, by omega⟩)
        clear hSw hS hU hw hB hl e0 hk hbig
        go_wp2_with fail
        go_roundw
        case rel => exact R.out
        case measure => simp only [intOf]; omega
      · have dk : ((bs.getD i 0 : Int) == 0) = false := beq_eq_false_iff_ne.2 (by omega)
        by_cases e1 : i + 1 = n
        · have d1 : (((i : Int) + 1) == (n : Int)) = true := beq_iff_eq.2 (by omega)
          have E := Lib.hid (And.intro hB (show D = none by rw [hw, ld_short (by omega) e0 (.inl (by omega))]; rfl))
          clear hSw hS hU hw hB hl e0 hbig
          generalize bs.getD i 0 = k0 at *
          go_wp2_with fail
          go_ret2
          exact ⟨E.out.1, .inl ⟨E.out.2, rfl⟩⟩
        · have d1 : (((i : Int) + 1) == (n : Int)) = false := beq_eq_false_iff_ne.2 (by omega)
          have cm : wr.cell? ⟨b, off + (i + 1), none⟩ = some (.int .u8 (bs.getD (i + 1) 0 : Nat)) := hS.at_ (by omega)
          have hm := hS.bytes.lt (i + 1)
          by_cases e2 : n < i + 2 + bs.getD (i + 1) 0
          · have d2 : decide ((n : Int) < (i : Int) + 2 + (bs.getD (i + 1) 0 : Nat)) = true := decide_eq_true (by omega)
            have E := Lib.hid (And.intro hB (show D = none by rw [hw, ld_short (by omega) e0 (.inr (by omega))]; rfl))
            clear hSw hS hU hw hB hl e0 hbig
            generalize bs.getD i 0 = k0 at *
            generalize bs.getD (i + 1) 0 = m at *
            go_wp2_with fail
            go_ret2
            exact ⟨E.out.1, .inl ⟨E.out.2, rfl⟩⟩
          · have d2 : decide ((n : Int) < (i : Int) + 2 + (bs.getD (i + 1) 0 : Nat)) = false := decide_eq_false (by omega)
            by_cases hmain : bs.getD i 0 = 3 ∧ (fits ((bs.drop (i + 2)).take (bs.getD (i + 1) 0)) = true ∧ ((bs.drop (i + 2)).take (bs.getD (i + 1) 0)).getD 0 0 ≤ 32)
            case pos =>
              have HLE : i + 2 + bs.getD (i + 1) 0 ≤ n := by omega
              have HX := Lib.hid (And.intro hSw (And.intro hl (And.intro hU (And.intro hw (And.intro hB (And.intro hbig hmain))))))
              clear hSw hS hU hw hB hl hbig ck cm e0 e2 d1 d2 dk hm hk hmain
              refine round_main HX.out.1 HX.out.2.1 hmx' h1024 hid hlt HX.out.2.2.1 HX.out.2.2.2.1 HX.out.2.2.2.2.1 HX.out.2.2.2.2.2.1 HX.out.2.2.2.2.2.2.1 rfl HLE HX.out.2.2.2.2.2.2.2 (fun _ _ dd _ _ h => by cases dd <;> exact h) ?_
              intro x4 x7 x8 x9 x10 x11 x49 x50 x51 x52 x53 x54 x55 x56 x57 x58 x59 x60 x61 x62 x63 x64 x65 x66 x67 x68 x69 x70 x71 x72 x73 x74 x75 x76 x77 x78 x79 x80 x81 x82 x83 x84 x85 x86 x87 x88 x89 x90 x91 x92 x93 x94 x95 x96 x97 x98 x99 x100 x101 x102 x103 x104 x105 x106 x107 x108 x109 x110 x111 x112 x113 x114 x115 x116 x117 x118 x119 x120 x121 x122 x123 x124 x125 x126 x127 x128 x129 x130 x131 x132 x133 x134 x135 x136 x137 x138 x139 x140 x141 x142 x143 x144 x145 x146 x147 x148 x149 x150 x151 x152 x153 x154 x155 x156 x157 x158 x159 x160 x161 x162 x163 x164 x165 x166 x167 x168 x169 x170 x171 x172 x173 x174 x175 x176 x177 x178 x179 x180 x181 x182 x183 x184 x185 x186 x187 x188 x189 x190 x191 x192 x193 x194 x195 x196 x197 x198 x199 x200 x201 x202 x203 x204 x205 x206 x207 x208 x209 x210 x211 x212 x213 x214 x215 x216 x217 x218 x219 x220 x221 x222 x223 x224 x225 x226 x227 w' hR
              dsimp only
              go_roundw
              case rel => exact hR
              case measure => simp only [intOf]; omega
            have hneg : bs.getD i 0 = 3 → ¬ (fits ((bs.drop (i + 2)).take (bs.getD (i + 1) 0)) = true ∧ ((bs.drop (i + 2)).take (bs.getD (i + 1) 0)).getD 0 0 ≤ 32) := fun h1 h2 => hmain ⟨h1, h2⟩
            clear hmain
            have hP := ld_part (id := id) e0 (m := bs.getD (i + 1) 0) rfl (by omega)
            obtain ⟨m, hmm⟩ : ∃ m, m = bs.getD (i + 1) 0 := ⟨_, rfl⟩
            rw [← hmm] at hP cm hm e2 d2 hneg
            obtain ⟨A3, s3, hS3, -⟩ := cut_both hS (k := i + 2) (l := i + 2 + m) (by omega) (by omega) (z := (i : Int) + 2) (y := (i : Int) + 2 + m) (by omega) (by omega)
            rw [show i + 2 + m - (i + 2) = m by omega] at s3 hS3
            obtain ⟨c3, hc3⟩ : ∃ c3, c3 = cap - (i + 2) := ⟨_, rfl⟩
            rw [← hc3] at s3 hS3
            clear hc3 hmm
            obtain ⟨k0, hk0⟩ : ∃ k0, k0 = bs.getD i 0 := ⟨_, rfl⟩
            rw [← hk0] at ck hk e0 dk hP hneg
            generalize hbd : (bs.drop (i + 2)).take m = bd at hP hS3 hneg
            have hbl := hS3.bytes.1
            rw [hP] at hw
            clear hP hk0 hbd
            have hle : i + 2 + m ≤ n := by omega
            by_cases k2 : k0 = 2
            · subst k2
              have d0 : ((2 : Nat) : Int) = 2 := rfl
              rw [d0] at ck
              clear dk e0 hk
              have hs : says 2 bd id = [] := rfl
              by_cases m4 : m = 4
              · have d4 : ((m : Int) == 4) = true := beq_iff_eq.2 (by omega)
                obtain ⟨b3, o3, rfl⟩ := hS3.plain (by omega)
                have h3m : 3 < m := by omega
                have x0 : wr.cell? ⟨b3, o3, none⟩ = some (.int .u8 (bd.getD 0 0 : Nat)) := hS3.at_ (k := 0) (by omega)
                have x1 : wr.cell? ⟨b3, o3 + 1, none⟩ = some (.int .u8 (bd.getD 1 0 : Nat)) := hS3.at_ (k := 1) (by omega)
                have x2 : wr.cell? ⟨b3, o3 + 2, none⟩ = some (.int .u8 (bd.getD 2 0 : Nat)) := hS3.at_ (k := 2) (by omega)
                have x3 : wr.cell? ⟨b3, o3 + 3, none⟩ = some (.int .u8 (bd.getD 3 0 : Nat)) := hS3.at_ (k := 3) (by omega)
                have y0 := hS3.bytes.lt 0
                have y1 := hS3.bytes.lt 1
                have y2 := hS3.bytes.lt 2
                have y3 := hS3.bytes.lt 3
                have hv : named 2 bd id = bd.getD 0 0 * 16777216 + bd.getD 1 0 * 65536 + bd.getD 2 0 * 256 + bd.getD 3 0 := by
                  unfold named
                  rw [if_pos ⟨rfl, by omega⟩]
                  match bd, (show bd.length = 4 by omega) with
                  | [a0, a1, a2, a3], _ => simp [val]; omega
                have Z := Lib.hid (And.intro hU (And.intro hw (And.intro hB (And.intro hbl (And.intro m4 (And.intro hv hbig))))))
                clear hSw hS hU hw hB hl hbig hS3 hbl hs m4 hv
                generalize bd.getD 0 0 = v0 at *
                generalize bd.getD 1 0 = v1 at *
                generalize bd.getD 2 0 = v2 at *
                generalize bd.getD 3 0 = v3 at *
                go_upto_region 15 with (fail)
                clear s3
                go_big_quiet (fail)
                have DR : ∀ k, Below wr.heap.size wr (wr.drewN k) := fun k => drewN_below (Below.refl _ _) _
                replace DR := Lib.hid (DR nq)
                generalize wr.drewN nq = W1 at *
                clear x0 x1 x2 x3
                have R := Lib.hid (show LdR w D n bs u4 (.int .u32 ((v0 : Int) * 16777216 + (v1 : Int) * 65536 + (v2 : Int) * 256 + (v3 : Int))) (.int .i64 ((i : Int) + (2 + (m : Int)))) W1 from by
                  obtain ⟨hU, hw, hB, hbl, m4, hv, hbig⟩ := Z.out
                  refine ⟨us, v0 * 16777216 + v1 * 65536 + v2 * 256 + v3, i + 2 + m, congrArg (Value.int .u32) (by omega), congrArg (Value.int .i64) (by omega), by omega, hle, hU.held DR.out, ?_, next hB DR.out, by omega⟩
                  rw [hw, hv]
                  cases walk (v0 * 16777216 + v1 * 65536 + v2 * 256 + v3) (bs.drop (i + 2 + m)) <;> simp [says])
                clear Z DR y0 y1 y2 y3
                go_wp2_with fail
                go_roundw
                case rel => exact R.out
                case measure => simp only [intOf]; omega
              · have d4 : ((m : Int) == 4) = false := beq_eq_false_iff_ne.2 (by omega)
                have hn : named 2 bd id = id := by unfold named; rw [if_neg (by omega)]
                rw [hn, hs] at hw
                have R := Lib.hid (show LdR w D n bs u4 (.int .u32 id) (.int .i64 ((i : Int) + (2 + (m : Int)))) wr from ⟨us, id, i + 2 + m, rfl, congrArg (Value.int .i64) (by omega), hid, hle, hU, by rw [hw]; cases walk id (bs.drop (i + 2 + m)) <;> simp, hB, by omega⟩)
                clear hSw hS hU hw hB hl hbig hS3 hbl hs hn
                go_wp2_with fail
                go_roundw
                case rel => exact R.out
                case measure => simp only [intOf]; omega
            · have d5 : ((k0 : Int) == 2) = false := beq_eq_false_iff_ne.2 (by omega)
              have hn : named k0 bd id = id := by unfold named; rw [if_neg (fun h => k2 h.1)]
              rw [hn] at hw
              by_cases k3 : k0 = 3
              · subst k3
                have d0 : ((3 : Nat) : Int) = 3 := rfl
                rw [d0] at ck d5 dk
                by_cases hf : fits bd = true ∧ bd.getD 0 0 ≤ 32
                · exact absurd hf (hneg rfl)
                · have hs : says 3 bd id = [] := by
                    unfold says
                    rw [if_pos rfl]
                    by_cases hf1 : fits bd = true
                    · rw [told_yes hf1, if_neg (fun h => hf ⟨hf1, by have := (right_len h).2; simp only [upOf] at this; omega⟩)]; rfl
                    · rw [told_no (by simpa using hf1)]; rfl
                  rw [hs] at hw
                  have R := Lib.hid (show LdR w D n bs u4 (.int .u32 id) (.int .i64 ((i : Int) + (2 + (m : Int)))) wr from ⟨us, id, i + 2 + m, rfl, congrArg (Value.int .i64) (by omega), hid, hle, hU, by rw [hw]; cases walk id (bs.drop (i + 2 + m)) <;> simp, hB, by omega⟩)
                  by_cases m7 : m < 7
                  · have d7 : decide ((m : Int) < 7) = true := decide_eq_true (by omega)
                    clear hSw hS hU hw hB hl hbig hS3 hbl hs hn hf
                    go_wp2_with fail
                    go_roundw
                    case rel => exact R.out
                    case measure => simp only [intOf]; omega
                  · have d7 : decide ((m : Int) < 7) = false := decide_eq_false (by omega)
                    obtain ⟨b3, o3, rfl⟩ := hS3.plain (by omega)
                    have x0 : wr.cell? ⟨b3, o3, none⟩ = some (.int .u8 (bd.getD 0 0 : Nat)) := hS3.at_ (k := 0) (by omega)
                    have y0 := hS3.bytes.lt 0
                    have hne : bd.getD 0 0 ≤ 32 → m ≠ 7 + nb (bd.getD 0 0) := fun h1 h2 => hf ⟨by unfold fits; rw [decide_eq_true (by omega), decide_eq_true (by omega)]; rfl, h1⟩
                    clear hSw hS hU hw hB hl hbig hS3 hbl hs hn hf
                    generalize bd.getD 0 0 = v0 at *
                    by_cases v32 : 32 < v0
                    · have d8 : decide ((32 : Int) < (v0 : Int)) = true := decide_eq_true (by omega)
                      clear hne
                      go_wp2_with fail
                      go_roundw
                      case rel => exact R.out
                      case measure => simp only [intOf]; omega
                    · have d8 : decide ((32 : Int) < (v0 : Int)) = false := decide_eq_false (by omega)
                      have hne2 := hne (by omega)
                      unfold nb at hne2
                      have d9 : ((m : Int) != 7 + ((v0 : Int) + 7) / 8) = true := by simp; omega
                      clear hne hne2
                      go_wp2_with fail
                      go_roundw
                      case rel => exact R.out
                      case measure => simp only [intOf]; omega
              · have d3 : ((k0 : Int) != 3) = true := by simp; omega
                have hs : says k0 bd id = [] := by unfold says; rw [if_neg k3]
                rw [hs] at hw
                have R := Lib.hid (show LdR w D n bs u4 (.int .u32 id) (.int .i64 ((i : Int) + (2 + (m : Int)))) wr from ⟨us, id, i + 2 + m, rfl, congrArg (Value.int .i64) (by omega), hid, hle, hU, by rw [hw]; cases walk id (bs.drop (i + 2 + m)) <;> simp, hB, by omega⟩)
                clear hSw hS hU hw hB hl hbig hS3 hbl hs hn
                go_wp2_with fail
                go_roundw
                case rel => exact R.out
                case measure => simp only [intOf]; omega
    · obtain rfl : i = n := by omega
      have hnil : bs.drop i = [] := List.drop_eq_nil_of_le (by rw [Y.out.2.2]; omega)
      rw [hnil, walk_nil] at hw
      have HH := Lib.hid (And.intro hU (And.intro hw hB))
      clear hU hw hB hid hnil
      obtain ⟨p, cp, rfl, -⟩ := HH.out.1.form
      go_wp2_with fail
      go_ret2
      exact ⟨HH.out.2.2, .inr ⟨us, _, by simpa using HH.out.2.1, rfl, HH.out.1⟩⟩
end Go.Proofs.Ytpdbaediepofjaa
