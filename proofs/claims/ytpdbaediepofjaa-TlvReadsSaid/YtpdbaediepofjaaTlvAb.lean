/-
  The statement's own reading of a datagram: the round of a part that tells something.
-/
import Derived.Test.YtpdbaediepofjaaTlvAa
namespace Go.Proofs.Ytpdbaediepofjaa
open Go.RowKit Tm

set_option maxRecDepth 100000 in
set_option maxHeartbeats 8000000 in
theorem round_main {n cap b off : Nat} {bs : List Nat} {w wr : World} {D : Option (List Up)} {us : List Up} {id i m : Nat} {u1 u2 u3 u4 u7 u8 u9 u10 u11 u12 u13 u14 u15 u16 u17 u18 u19 u20 u21 u22 u23 u24 u25 u26 u27 u28 u29 u30 u31 u32 u33 u34 u35 u36 u37 u38 u39 u40 u41 u42 u43 u44 u45 u46 u47 u48 u49 u50 u51 u52 u53 u54 u55 u56 u57 u58 u59 u60 u61 u62 u63 u64 u65 u66 u67 u68 u69 u70 u71 u72 u73 u74 u75 u76 u77 u78 u79 u80 u81 u82 u83 u84 u85 u86 u87 u88 u89 u90 u91 u92 u93 u94 u95 u96 u97 u98 u99 u100 u101 u102 u103 u104 u105 u106 u107 u108 u109 u110 u111 u112 u113 u114 u115 u116 u117 u118 u119 u120 u121 u122 u123 u124 u125 u126 u127 u128 u129 u130 u131 u132 u133 u134 u135 u136 u137 u138 u139 u140 u141 u142 u143 u144 u145 u146 u147 u148 u149 u150 u151 u152 u153 u154 u155 u156 u157 u158 u159 u160 u161 u162 u163 u164 u165 u166 u167 u168 u169 u170 u171 u172 u173 u174 u175 u176 u177 u178 u179 u180 u181 u182 u183 u184 u185 u186 u187 u188 u189 u190 u191 u192 u193 u194 u195 u196 u197 u198 u199 u200 u201 u202 u203 u204 u205 u206 u207 u208 u209 u210 u211 u212 u213 u214 u215 u216 u217 u218 u219 u220 u221 u222 u223 u224 u225 u226 u227 u228 : Value}
    (hSw : Sl w (some ⟨b, off, none⟩) n cap bs) (hl : bs.length = n) (hmx' : n ≤ 9223372036854775807) (h1024 : n ≤ 1024) (hid : id < 4294967296) (hlt : i < n) (hU : Lv w.heap.size u4 us wr) (hw : D = (walk id (bs.drop i)).map (us ++ ·)) (hB : Below w.heap.size w wr) (hbig : us.length + (n - i) ≤ 1024)
    (hk3 : bs.getD i 0 = 3) (hmm : m = bs.getD (i + 1) 0) (hle : i + 2 + m ≤ n) (hf : fits ((bs.drop (i + 2)).take m) = true ∧ ((bs.drop (i + 2)).take m).getD 0 0 ≤ 32) {Kend : Act → World → Prop} {Qend : Exit → Act → World → Prop} (hQ : ∀ c (a : Act) (d : Option Tmp) v w, Qend (.panic c) (a.put d v) w → Qend (.panic c) a w)
    (hEnd : ∀ (x4 x7 x8 x9 x10 x11 x49 x50 x51 x52 x53 x54 x55 x56 x57 x58 x59 x60 x61 x62 x63 x64 x65 x66 x67 x68 x69 x70 x71 x72 x73 x74 x75 x76 x77 x78 x79 x80 x81 x82 x83 x84 x85 x86 x87 x88 x89 x90 x91 x92 x93 x94 x95 x96 x97 x98 x99 x100 x101 x102 x103 x104 x105 x106 x107 x108 x109 x110 x111 x112 x113 x114 x115 x116 x117 x118 x119 x120 x121 x122 x123 x124 x125 x126 x127 x128 x129 x130 x131 x132 x133 x134 x135 x136 x137 x138 x139 x140 x141 x142 x143 x144 x145 x146 x147 x148 x149 x150 x151 x152 x153 x154 x155 x156 x157 x158 x159 x160 x161 x162 x163 x164 x165 x166 x167 x168 x169 x170 x171 x172 x173 x174 x175 x176 x177 x178 x179 x180 x181 x182 x183 x184 x185 x186 x187 x188 x189 x190 x191 x192 x193 x194 x195 x196 x197 x198 x199 x200 x201 x202 x203 x204 x205 x206 x207 x208 x209 x210 x211 x212 x213 x214 x215 x216 x217 x218 x219 x220 x221 x222 x223 x224 x225 x226 x227 : Value) (w' : World), LdR w D n bs x4 (.int .u32 (id : Int)) (.int .i64 ((i : Int) + (2 + (m : Int)))) w' → Kend { tmps := #[.slice (some ⟨b, off, none⟩) n cap, u1, u2, u3, x4, .int .u32 (id : Int), .int .i64 ((i : Int) + (2 + (m : Int))), x7, x8, x9, x10, x11, u12, u13, u14, u15, u16, u17, u18, u19, u20, u21, u22, u23, u24, u25, u26, u27, u28, u29, u30, u31, u32, u33, u34, u35, u36, u37, u38, u39, u40, u41, u42, u43, u44, u45, u46, u47, u48, x49, x50, x51, x52, x53, x54, x55, x56, x57, x58, x59, x60, x61, x62, x63, x64, x65, x66, x67, x68, x69, x70, x71, x72, x73, x74, x75, x76, x77, x78, x79, x80, x81, x82, x83, x84, x85, x86, x87, x88, x89, x90, x91, x92, x93, x94, x95, x96, x97, x98, x99, x100, x101, x102, x103, x104, x105, x106, x107, x108, x109, x110, x111, x112, x113, x114, x115, x116, x117, x118, x119, x120, x121, x122, x123, x124, x125, x126, x127, x128, x129, x130, x131, x132, x133, x134, x135, x136, x137, x138, x139, x140, x141, x142, x143, x144, x145, x146, x147, x148, x149, x150, x151, x152, x153, x154, x155, x156, x157, x158, x159, x160, x161, x162, x163, x164, x165, x166, x167, x168, x169, x170, x171, x172, x173, x174, x175, x176, x177, x178, x179, x180, x181, x182, x183, x184, x185, x186, x187, x188, x189, x190, x191, x192, x193, x194, x195, x196, x197, x198, x199, x200, x201, x202, x203, x204, x205, x206, x207, x208, x209, x210, x211, x212, x213, x214, x215, x216, x217, x218, x219, x220, x221, x222, x223, x224, x225, x226, x227, u228], defers := [] } w') :
    Code.wp Try.prog ldBody (Exit.then Kend Qend) { tmps := #[.slice (some ⟨b, off, none⟩) n cap, u1, u2, u3, u4, .int .u32 (id : Int), .int .i64 (i : Int), u7, u8, u9, u10, u11, u12, u13, u14, u15, u16, u17, u18, u19, u20, u21, u22, u23, u24, u25, u26, u27, u28, u29, u30, u31, u32, u33, u34, u35, u36, u37, u38, u39, u40, u41, u42, u43, u44, u45, u46, u47, u48, u49, u50, u51, u52, u53, u54, u55, u56, u57, u58, u59, u60, u61, u62, u63, u64, u65, u66, u67, u68, u69, u70, u71, u72, u73, u74, u75, u76, u77, u78, u79, u80, u81, u82, u83, u84, u85, u86, u87, u88, u89, u90, u91, u92, u93, u94, u95, u96, u97, u98, u99, u100, u101, u102, u103, u104, u105, u106, u107, u108, u109, u110, u111, u112, u113, u114, u115, u116, u117, u118, u119, u120, u121, u122, u123, u124, u125, u126, u127, u128, u129, u130, u131, u132, u133, u134, u135, u136, u137, u138, u139, u140, u141, u142, u143, u144, u145, u146, u147, u148, u149, u150, u151, u152, u153, u154, u155, u156, u157, u158, u159, u160, u161, u162, u163, u164, u165, u166, u167, u168, u169, u170, u171, u172, u173, u174, u175, u176, u177, u178, u179, u180, u181, u182, u183, u184, u185, u186, u187, u188, u189, u190, u191, u192, u193, u194, u195, u196, u197, u198, u199, u200, u201, u202, u203, u204, u205, u206, u207, u208, u209, u210, u211, u212, u213, u214, u215, u216, u217, u218, u219, u220, u221, u222, u223, u224, u225, u226, u227, u228], defers := [] } wr := by
  have hS := hSw.held hB
  have ck : wr.cell? ⟨b, off + i, none⟩ = some (.int .u8 (bs.getD i 0 : Nat)) := hS.at_ hlt
  have cm : wr.cell? ⟨b, off + (i + 1), none⟩ = some (.int .u8 (bs.getD (i + 1) 0 : Nat)) := hS.at_ (by omega)
  have hm := hS.bytes.lt (i + 1)
  have dk : ((3 : Int) == 0) = false := rfl
  have d5 : ((3 : Int) == 2) = false := rfl
  have d1 : (((i : Int) + 1) == (n : Int)) = false := beq_eq_false_iff_ne.2 (by omega)
  have hP := ld_part (id := id) (show bs.getD i 0 ≠ 0 by omega) hmm (by omega)
  rw [← hmm] at cm hm
  have d2 : decide ((n : Int) < (i : Int) + 2 + (m : Nat)) = false := decide_eq_false (by omega)
  obtain ⟨A3, s3, hS3, -⟩ := cut_both hS (k := i + 2) (l := i + 2 + m) (by omega) (by omega) (z := (i : Int) + 2) (y := (i : Int) + 2 + m) (by omega) (by omega)
  rw [show i + 2 + m - (i + 2) = m by omega] at s3 hS3
  obtain ⟨c3, hc3⟩ : ∃ c3, c3 = cap - (i + 2) := ⟨_, rfl⟩
  rw [← hc3] at s3 hS3
  clear hc3 hmm
  rw [hk3] at ck hP
  have d0 : ((3 : Nat) : Int) = 3 := rfl
  rw [d0] at ck
  generalize hbd : (bs.drop (i + 2)).take m = bd at hP hS3 hf
  have hbl := hS3.bytes.1
  rw [hP, show named 3 bd id = id from rfl] at hw
  clear hP hbd hk3
  have hn : True := trivial
  conv => arg 2; whnf
  obtain ⟨hf1, hv32⟩ := hf
  have hm7 : m = 7 + nb (bd.getD 0 0) := by
    unfold fits at hf1
    simp only [Bool.and_eq_true, decide_eq_true_eq] at hf1
    omega
  have hnb := nb_le hv32
  have hnbe : nb (bd.getD 0 0) = (bd.getD 0 0 + 7) / 8 := rfl
  have d7 : decide ((m : Int) < 7) = false := decide_eq_false (by omega)
  obtain ⟨b3, o3, rfl⟩ := hS3.plain (by omega)
  have x0 : wr.cell? ⟨b3, o3, none⟩ = some (.int .u8 (bd.getD 0 0 : Nat)) := hS3.at_ (k := 0) (by omega)
  have d8 : decide ((32 : Int) < (bd.getD 0 0 : Nat)) = false := decide_eq_false (by omega)
  have d9 : ((m : Int) != 7 + ((bd.getD 0 0 : Nat) + 7) / 8) = false := by rw [bne_eq_false_iff_eq]; omega
  have x1 : wr.cell? ⟨b3, o3 + 1, none⟩ = some (.int .u8 (bd.getD 1 0 : Nat)) := hS3.at_ (k := 1) (by omega)
  have x2 : wr.cell? ⟨b3, o3 + 2, none⟩ = some (.int .u8 (bd.getD 2 0 : Nat)) := hS3.at_ (k := 2) (by omega)
  have x3 : wr.cell? ⟨b3, o3 + 3, none⟩ = some (.int .u8 (bd.getD 3 0 : Nat)) := hS3.at_ (k := 3) (by omega)
  have x4 : wr.cell? ⟨b3, o3 + 4, none⟩ = some (.int .u8 (bd.getD 4 0 : Nat)) := hS3.at_ (k := 4) (by omega)
  have x5 : wr.cell? ⟨b3, o3 + 5, none⟩ = some (.int .u8 (bd.getD 5 0 : Nat)) := hS3.at_ (k := 5) (by omega)
  have x6 : wr.cell? ⟨b3, o3 + 6, none⟩ = some (.int .u8 (bd.getD 6 0 : Nat)) := hS3.at_ (k := 6) (by omega)
  have y0 := hS3.bytes.lt 0
  have y1 := hS3.bytes.lt 1
  have y2 := hS3.bytes.lt 2
  have y3 := hS3.bytes.lt 3
  have y4 := hS3.bytes.lt 4
  have y5 := hS3.bytes.lt 5
  have y6 := hS3.bytes.lt 6
  have hm11 : m ≤ 11 := by omega
  have h6m : 6 < m := by omega
  have hup : upOf bd id = ⟨val ((bd.drop 7 ++ [0, 0, 0, 0]).take 4), bd.getD 0 0, if bd.getD 5 0 * 256 + bd.getD 6 0 = 65535 then 0 else id, bd.getD 1 0 * 16777216 + bd.getD 2 0 * 65536 + bd.getD 3 0 * 256 + bd.getD 4 0, bd.getD 5 0 * 256 + bd.getD 6 0⟩ := by
    unfold upOf
    rw [val_two_at (by omega), val_four_at (by omega)]
  have hw' : D = (walk id (bs.drop (i + 2 + m))).map (us ++ (if right (upOf bd id) then [upOf bd id] else []) ++ ·) := by
    rw [hw]
    unfold says
    rw [if_pos rfl, told_yes hf1]
    cases right (upOf bd id) <;> cases walk id (bs.drop (i + 2 + m)) <;> simp
  have Z := Lib.hid (And.intro hU (And.intro hw' (And.intro hB (And.intro hbl (And.intro hm7 (And.intro hup (And.intro hS3 hbig)))))))
  clear hSw hS hU hw hw' hB hl hbig hbl hf1 hm7 hnb hnbe hup hn hS3
  generalize bd.getD 0 0 = v0 at *
  generalize bd.getD 1 0 = v1 at *
  generalize bd.getD 2 0 = v2 at *
  generalize bd.getD 3 0 = v3 at *
  generalize bd.getD 4 0 = v4 at *
  generalize bd.getD 5 0 = v5 at *
  generalize bd.getD 6 0 = v6 at *
  go_upto_region 17 with (fail)
  clear s3 d7 d8 d9 d1 d2 ck cm d5
  go_cut [9] from 49 to 227 (fun p wx => p = .pointer (some ⟨wr.heap.size, 0, none⟩) ∧ wx = (wr.alloc (.cells #[.int .u32 0, .int .i64 (v0 : Int), .int .u32 (id : Int), .int .u32 ((v1 : Int) * 16777216 + (v2 : Int) * 65536 + (v3 : Int) * 256 + (v4 : Int)), .int .u16 ((v5 : Int) * 256 + (v6 : Int))] 31)).drew)
  case first =>
    obtain ⟨i0, i1, i2, i3, i4, i5, i6⟩ : 0 < m ∧ (1 : Int) < (m : Int) ∧ (2 : Int) < (m : Int) ∧ (3 : Int) < (m : Int) ∧ (4 : Int) < (m : Int) ∧ (5 : Int) < (m : Int) ∧ (6 : Int) < (m : Int) := by omega
    refine wp_region_held_drew (S := fun w' => w'.cell? ⟨b3, o3, none⟩ = some (.int .u8 (v0 : Nat)) ∧ w'.cell? ⟨b3, o3 + 1, none⟩ = some (.int .u8 (v1 : Nat)) ∧ w'.cell? ⟨b3, o3 + 2, none⟩ = some (.int .u8 (v2 : Nat)) ∧ w'.cell? ⟨b3, o3 + 3, none⟩ = some (.int .u8 (v3 : Nat)) ∧ w'.cell? ⟨b3, o3 + 4, none⟩ = some (.int .u8 (v4 : Nat)) ∧ w'.cell? ⟨b3, o3 + 5, none⟩ = some (.int .u8 (v5 : Nat)) ∧ w'.cell? ⟨b3, o3 + 6, none⟩ = some (.int .u8 (v6 : Nat))) (by kernel_rfl) ⟨x0, x1, x2, x3, x4, x5, x6⟩ (fun hHeld => ?_)
    refine take_list (i := 0) (v := .slice (some ⟨b3, o3, none⟩) m c3) rfl (by kernel_rfl) (by kernel_rfl) (by kernel_rfl) (fun _ _ _ h => hQ _ _ _ _ _ h) (.inl ⟨rfl, ?_⟩) hHeld ?_
    · (rintro w ⟨s0, s1, s2, s3, s4, s5, s6⟩; go_simp <;> (simp [IntKind.wrap, IntKind.bits, IntKind.signed]; omega))
    go_frame
    refine take_list (i := 1) (v := .pointer (some ⟨b3, o3, none⟩)) rfl (by kernel_rfl) (by kernel_rfl) (by kernel_rfl) (fun _ _ _ h => hQ _ _ _ _ _ h) (.inl ⟨rfl, ?_⟩) hHeld ?_
    · (rintro w ⟨s0, s1, s2, s3, s4, s5, s6⟩; go_simp <;> (simp [IntKind.wrap, IntKind.bits, IntKind.signed]; omega))
    go_frame
    refine take_list (i := 2) (v := .int .u8 (v0 : Int)) rfl (by kernel_rfl) (by kernel_rfl) (by kernel_rfl) (fun _ _ _ h => hQ _ _ _ _ _ h) (.inl ⟨rfl, ?_⟩) hHeld ?_
    · (rintro w ⟨s0, s1, s2, s3, s4, s5, s6⟩; go_simp <;> (simp [IntKind.wrap, IntKind.bits, IntKind.signed]; omega))
    go_frame
    refine take_list (i := 3) (v := .int .i64 (v0 : Int)) rfl (by kernel_rfl) (by kernel_rfl) (by kernel_rfl) (fun _ _ _ h => hQ _ _ _ _ _ h) (.inl ⟨rfl, ?_⟩) hHeld ?_
    · (rintro w ⟨s0, s1, s2, s3, s4, s5, s6⟩; go_simp <;> (simp [IntKind.wrap, IntKind.bits, IntKind.signed]; omega))
    go_frame
    refine take_list (i := 4) (v := .agg #[.int .u32 0, .int .i64 (v0 : Int)]) rfl (by kernel_rfl) (by kernel_rfl) (by kernel_rfl) (fun _ _ _ h => hQ _ _ _ _ _ h) (.inl ⟨rfl, ?_⟩) hHeld ?_
    · (rintro w ⟨s0, s1, s2, s3, s4, s5, s6⟩; go_simp <;> (simp [IntKind.wrap, IntKind.bits, IntKind.signed]; omega))
    go_frame
    refine take_list (i := 5) (v := .int .u32 (id : Int)) rfl (by kernel_rfl) (by kernel_rfl) (by kernel_rfl) (fun _ _ _ h => hQ _ _ _ _ _ h) (.inl ⟨rfl, ?_⟩) hHeld ?_
    · (rintro w ⟨s0, s1, s2, s3, s4, s5, s6⟩; go_simp <;> (simp [IntKind.wrap, IntKind.bits, IntKind.signed]; omega))
    go_frame
    refine take_list (i := 6) (v := .slice (some ⟨b3, o3, none⟩) m c3) rfl (by kernel_rfl) (by kernel_rfl) (by kernel_rfl) (fun _ _ _ h => hQ _ _ _ _ _ h) (.inl ⟨rfl, ?_⟩) hHeld ?_
    · (rintro w ⟨s0, s1, s2, s3, s4, s5, s6⟩; go_simp <;> (simp [IntKind.wrap, IntKind.bits, IntKind.signed]; omega))
    go_frame
    refine take_list (i := 7) (v := .pointer (some ⟨b3, o3 + 1, none⟩)) rfl (by kernel_rfl) (by kernel_rfl) (by kernel_rfl) (fun _ _ _ h => hQ _ _ _ _ _ h) (.inl ⟨rfl, ?_⟩) hHeld ?_
    · (rintro w ⟨s0, s1, s2, s3, s4, s5, s6⟩; go_simp <;> (simp [IntKind.wrap, IntKind.bits, IntKind.signed]; omega))
    go_frame
    refine take_list (i := 8) (v := .int .u8 (v1 : Int)) rfl (by kernel_rfl) (by kernel_rfl) (by kernel_rfl) (fun _ _ _ h => hQ _ _ _ _ _ h) (.inl ⟨rfl, ?_⟩) hHeld ?_
    · (rintro w ⟨s0, s1, s2, s3, s4, s5, s6⟩; go_simp <;> (simp [IntKind.wrap, IntKind.bits, IntKind.signed]; omega))
    go_frame
    refine take_list (i := 9) (v := .int .u32 (v1 : Int)) rfl (by kernel_rfl) (by kernel_rfl) (by kernel_rfl) (fun _ _ _ h => hQ _ _ _ _ _ h) (.inl ⟨rfl, ?_⟩) hHeld ?_
    · (rintro w ⟨s0, s1, s2, s3, s4, s5, s6⟩; go_simp <;> (simp [IntKind.wrap, IntKind.bits, IntKind.signed]; omega))
    go_frame
    refine take_list (i := 10) (v := .int .u32 ((v1 : Int) * 16777216)) rfl (by kernel_rfl) (by kernel_rfl) (by kernel_rfl) (fun _ _ _ h => hQ _ _ _ _ _ h) (.inl ⟨rfl, ?_⟩) hHeld ?_
    · (rintro w ⟨s0, s1, s2, s3, s4, s5, s6⟩; go_simp <;> (simp [IntKind.wrap, IntKind.bits, IntKind.signed]; omega))
    go_frame
    refine take_list (i := 11) (v := .slice (some ⟨b3, o3, none⟩) m c3) rfl (by kernel_rfl) (by kernel_rfl) (by kernel_rfl) (fun _ _ _ h => hQ _ _ _ _ _ h) (.inl ⟨rfl, ?_⟩) hHeld ?_
    · (rintro w ⟨s0, s1, s2, s3, s4, s5, s6⟩; go_simp <;> (simp [IntKind.wrap, IntKind.bits, IntKind.signed]; omega))
    go_frame
    refine take_list (i := 12) (v := .pointer (some ⟨b3, o3 + 2, none⟩)) rfl (by kernel_rfl) (by kernel_rfl) (by kernel_rfl) (fun _ _ _ h => hQ _ _ _ _ _ h) (.inl ⟨rfl, ?_⟩) hHeld ?_
    · (rintro w ⟨s0, s1, s2, s3, s4, s5, s6⟩; go_simp <;> (simp [IntKind.wrap, IntKind.bits, IntKind.signed]; omega))
    go_frame
    refine take_list (i := 13) (v := .int .u8 (v2 : Int)) rfl (by kernel_rfl) (by kernel_rfl) (by kernel_rfl) (fun _ _ _ h => hQ _ _ _ _ _ h) (.inl ⟨rfl, ?_⟩) hHeld ?_
    · (rintro w ⟨s0, s1, s2, s3, s4, s5, s6⟩; go_simp <;> (simp [IntKind.wrap, IntKind.bits, IntKind.signed]; omega))
    go_frame
    refine take_list (i := 14) (v := .int .u32 (v2 : Int)) rfl (by kernel_rfl) (by kernel_rfl) (by kernel_rfl) (fun _ _ _ h => hQ _ _ _ _ _ h) (.inl ⟨rfl, ?_⟩) hHeld ?_
    · (rintro w ⟨s0, s1, s2, s3, s4, s5, s6⟩; go_simp <;> (simp [IntKind.wrap, IntKind.bits, IntKind.signed]; omega))
    go_frame
    refine take_list (i := 15) (v := .int .u32 ((v2 : Int) * 65536)) rfl (by kernel_rfl) (by kernel_rfl) (by kernel_rfl) (fun _ _ _ h => hQ _ _ _ _ _ h) (.inl ⟨rfl, ?_⟩) hHeld ?_
    · (rintro w ⟨s0, s1, s2, s3, s4, s5, s6⟩; go_simp <;> (simp [IntKind.wrap, IntKind.bits, IntKind.signed]; omega))
    go_frame
    refine take_list (i := 16) (v := .int .u32 ((v1 : Int) * 16777216 + (v2 : Int) * 65536)) rfl (by kernel_rfl) (by kernel_rfl) (by kernel_rfl) (fun _ _ _ h => hQ _ _ _ _ _ h) (.inl ⟨rfl, ?_⟩) hHeld ?_
    · (rintro w ⟨s0, s1, s2, s3, s4, s5, s6⟩; go_simp <;> (simp [IntKind.wrap, IntKind.bits, IntKind.signed]; omega))
    go_frame
    refine take_list (i := 17) (v := .slice (some ⟨b3, o3, none⟩) m c3) rfl (by kernel_rfl) (by kernel_rfl) (by kernel_rfl) (fun _ _ _ h => hQ _ _ _ _ _ h) (.inl ⟨rfl, ?_⟩) hHeld ?_
    · (rintro w ⟨s0, s1, s2, s3, s4, s5, s6⟩; go_simp <;> (simp [IntKind.wrap, IntKind.bits, IntKind.signed]; omega))
    go_frame
    refine take_list (i := 18) (v := .pointer (some ⟨b3, o3 + 3, none⟩)) rfl (by kernel_rfl) (by kernel_rfl) (by kernel_rfl) (fun _ _ _ h => hQ _ _ _ _ _ h) (.inl ⟨rfl, ?_⟩) hHeld ?_
    · (rintro w ⟨s0, s1, s2, s3, s4, s5, s6⟩; go_simp <;> (simp [IntKind.wrap, IntKind.bits, IntKind.signed]; omega))
    go_frame
    refine take_list (i := 19) (v := .int .u8 (v3 : Int)) rfl (by kernel_rfl) (by kernel_rfl) (by kernel_rfl) (fun _ _ _ h => hQ _ _ _ _ _ h) (.inl ⟨rfl, ?_⟩) hHeld ?_
    · (rintro w ⟨s0, s1, s2, s3, s4, s5, s6⟩; go_simp <;> (simp [IntKind.wrap, IntKind.bits, IntKind.signed]; omega))
    go_frame
    refine take_list (i := 20) (v := .int .u32 (v3 : Int)) rfl (by kernel_rfl) (by kernel_rfl) (by kernel_rfl) (fun _ _ _ h => hQ _ _ _ _ _ h) (.inl ⟨rfl, ?_⟩) hHeld ?_
    · (rintro w ⟨s0, s1, s2, s3, s4, s5, s6⟩; go_simp <;> (simp [IntKind.wrap, IntKind.bits, IntKind.signed]; omega))
    go_frame
    refine take_list (i := 21) (v := .int .u32 ((v3 : Int) * 256)) rfl (by kernel_rfl) (by kernel_rfl) (by kernel_rfl) (fun _ _ _ h => hQ _ _ _ _ _ h) (.inl ⟨rfl, ?_⟩) hHeld ?_
    · (rintro w ⟨s0, s1, s2, s3, s4, s5, s6⟩; go_simp <;> (simp [IntKind.wrap, IntKind.bits, IntKind.signed]; omega))
    go_frame
    refine take_list (i := 22) (v := .int .u32 ((v1 : Int) * 16777216 + (v2 : Int) * 65536 + (v3 : Int) * 256)) rfl (by kernel_rfl) (by kernel_rfl) (by kernel_rfl) (fun _ _ _ h => hQ _ _ _ _ _ h) (.inl ⟨rfl, ?_⟩) hHeld ?_
    · (rintro w ⟨s0, s1, s2, s3, s4, s5, s6⟩; go_simp <;> (simp [IntKind.wrap, IntKind.bits, IntKind.signed]; omega))
    go_frame
    refine take_list (i := 23) (v := .slice (some ⟨b3, o3, none⟩) m c3) rfl (by kernel_rfl) (by kernel_rfl) (by kernel_rfl) (fun _ _ _ h => hQ _ _ _ _ _ h) (.inl ⟨rfl, ?_⟩) hHeld ?_
    · (rintro w ⟨s0, s1, s2, s3, s4, s5, s6⟩; go_simp <;> (simp [IntKind.wrap, IntKind.bits, IntKind.signed]; omega))
    go_frame
    refine take_list (i := 24) (v := .pointer (some ⟨b3, o3 + 4, none⟩)) rfl (by kernel_rfl) (by kernel_rfl) (by kernel_rfl) (fun _ _ _ h => hQ _ _ _ _ _ h) (.inl ⟨rfl, ?_⟩) hHeld ?_
    · (rintro w ⟨s0, s1, s2, s3, s4, s5, s6⟩; go_simp <;> (simp [IntKind.wrap, IntKind.bits, IntKind.signed]; omega))
    go_frame
    refine take_list (i := 25) (v := .int .u8 (v4 : Int)) rfl (by kernel_rfl) (by kernel_rfl) (by kernel_rfl) (fun _ _ _ h => hQ _ _ _ _ _ h) (.inl ⟨rfl, ?_⟩) hHeld ?_
    · (rintro w ⟨s0, s1, s2, s3, s4, s5, s6⟩; go_simp <;> (simp [IntKind.wrap, IntKind.bits, IntKind.signed]; omega))
    go_frame
    refine take_list (i := 26) (v := .int .u32 (v4 : Int)) rfl (by kernel_rfl) (by kernel_rfl) (by kernel_rfl) (fun _ _ _ h => hQ _ _ _ _ _ h) (.inl ⟨rfl, ?_⟩) hHeld ?_
    · (rintro w ⟨s0, s1, s2, s3, s4, s5, s6⟩; go_simp <;> (simp [IntKind.wrap, IntKind.bits, IntKind.signed]; omega))
    go_frame
    refine take_list (i := 27) (v := .int .u32 ((v1 : Int) * 16777216 + (v2 : Int) * 65536 + (v3 : Int) * 256 + (v4 : Int))) rfl (by kernel_rfl) (by kernel_rfl) (by kernel_rfl) (fun _ _ _ h => hQ _ _ _ _ _ h) (.inl ⟨rfl, ?_⟩) hHeld ?_
    · (rintro w ⟨s0, s1, s2, s3, s4, s5, s6⟩; go_simp <;> (simp [IntKind.wrap, IntKind.bits, IntKind.signed]; omega))
    go_frame
    refine take_list (i := 28) (v := .slice (some ⟨b3, o3, none⟩) m c3) rfl (by kernel_rfl) (by kernel_rfl) (by kernel_rfl) (fun _ _ _ h => hQ _ _ _ _ _ h) (.inl ⟨rfl, ?_⟩) hHeld ?_
    · (rintro w ⟨s0, s1, s2, s3, s4, s5, s6⟩; go_simp <;> (simp [IntKind.wrap, IntKind.bits, IntKind.signed]; omega))
    go_frame
    refine take_list (i := 29) (v := .pointer (some ⟨b3, o3 + 5, none⟩)) rfl (by kernel_rfl) (by kernel_rfl) (by kernel_rfl) (fun _ _ _ h => hQ _ _ _ _ _ h) (.inl ⟨rfl, ?_⟩) hHeld ?_
    · (rintro w ⟨s0, s1, s2, s3, s4, s5, s6⟩; go_simp <;> (simp [IntKind.wrap, IntKind.bits, IntKind.signed]; omega))
    go_frame
    refine take_list (i := 30) (v := .int .u8 (v5 : Int)) rfl (by kernel_rfl) (by kernel_rfl) (by kernel_rfl) (fun _ _ _ h => hQ _ _ _ _ _ h) (.inl ⟨rfl, ?_⟩) hHeld ?_
    · (rintro w ⟨s0, s1, s2, s3, s4, s5, s6⟩; go_simp <;> (simp [IntKind.wrap, IntKind.bits, IntKind.signed]; omega))
    go_frame
    refine take_list (i := 31) (v := .int .u16 (v5 : Int)) rfl (by kernel_rfl) (by kernel_rfl) (by kernel_rfl) (fun _ _ _ h => hQ _ _ _ _ _ h) (.inl ⟨rfl, ?_⟩) hHeld ?_
    · (rintro w ⟨s0, s1, s2, s3, s4, s5, s6⟩; go_simp <;> (simp [IntKind.wrap, IntKind.bits, IntKind.signed]; omega))
    go_frame
    refine take_list (i := 32) (v := .int .u16 ((v5 : Int) * 256)) rfl (by kernel_rfl) (by kernel_rfl) (by kernel_rfl) (fun _ _ _ h => hQ _ _ _ _ _ h) (.inl ⟨rfl, ?_⟩) hHeld ?_
    · (rintro w ⟨s0, s1, s2, s3, s4, s5, s6⟩; go_simp <;> (simp [IntKind.wrap, IntKind.bits, IntKind.signed]; omega))
    go_frame
    refine take_list (i := 33) (v := .slice (some ⟨b3, o3, none⟩) m c3) rfl (by kernel_rfl) (by kernel_rfl) (by kernel_rfl) (fun _ _ _ h => hQ _ _ _ _ _ h) (.inl ⟨rfl, ?_⟩) hHeld ?_
    · (rintro w ⟨s0, s1, s2, s3, s4, s5, s6⟩; go_simp <;> (simp [IntKind.wrap, IntKind.bits, IntKind.signed]; omega))
    go_frame
    refine take_list (i := 34) (v := .pointer (some ⟨b3, o3 + 6, none⟩)) rfl (by kernel_rfl) (by kernel_rfl) (by kernel_rfl) (fun _ _ _ h => hQ _ _ _ _ _ h) (.inl ⟨rfl, ?_⟩) hHeld ?_
    · (rintro w ⟨s0, s1, s2, s3, s4, s5, s6⟩; go_simp <;> (simp [IntKind.wrap, IntKind.bits, IntKind.signed]; omega))
    go_frame
    refine take_list (i := 35) (v := .int .u8 (v6 : Int)) rfl (by kernel_rfl) (by kernel_rfl) (by kernel_rfl) (fun _ _ _ h => hQ _ _ _ _ _ h) (.inl ⟨rfl, ?_⟩) hHeld ?_
    · (rintro w ⟨s0, s1, s2, s3, s4, s5, s6⟩; go_simp <;> (simp [IntKind.wrap, IntKind.bits, IntKind.signed]; omega))
    go_frame
    refine take_list (i := 36) (v := .int .u16 (v6 : Int)) rfl (by kernel_rfl) (by kernel_rfl) (by kernel_rfl) (fun _ _ _ h => hQ _ _ _ _ _ h) (.inl ⟨rfl, ?_⟩) hHeld ?_
    · (rintro w ⟨s0, s1, s2, s3, s4, s5, s6⟩; go_simp <;> (simp [IntKind.wrap, IntKind.bits, IntKind.signed]; omega))
    go_frame
    refine take_list (i := 37) (v := .int .u16 ((v5 : Int) * 256 + (v6 : Int))) rfl (by kernel_rfl) (by kernel_rfl) (by kernel_rfl) (fun _ _ _ h => hQ _ _ _ _ _ h) (.inl ⟨rfl, ?_⟩) hHeld ?_
    · (rintro w ⟨s0, s1, s2, s3, s4, s5, s6⟩; go_simp <;> (simp [IntKind.wrap, IntKind.bits, IntKind.signed]; omega))
    go_frame
    refine take_list (i := 38) (v := .agg #[.int .u32 ((v1 : Int) * 16777216 + (v2 : Int) * 65536 + (v3 : Int) * 256 + (v4 : Int)), .int .u16 ((v5 : Int) * 256 + (v6 : Int))]) rfl (by kernel_rfl) (by kernel_rfl) (by kernel_rfl) (fun _ _ _ h => hQ _ _ _ _ _ h) (.inl ⟨rfl, ?_⟩) hHeld ?_
    · (rintro w ⟨s0, s1, s2, s3, s4, s5, s6⟩; go_simp <;> (simp [IntKind.wrap, IntKind.bits, IntKind.signed]; omega))
    go_frame
    refine take_list (i := 39) (v := .agg #[.int .u32 0, .int .i64 (v0 : Int), .int .u32 (id : Int), .int .u32 ((v1 : Int) * 16777216 + (v2 : Int) * 65536 + (v3 : Int) * 256 + (v4 : Int)), .int .u16 ((v5 : Int) * 256 + (v6 : Int))]) rfl (by kernel_rfl) (by kernel_rfl) (by kernel_rfl) (fun _ _ _ h => hQ _ _ _ _ _ h) (.inl ⟨rfl, ?_⟩) hHeld ?_
    · (rintro w ⟨s0, s1, s2, s3, s4, s5, s6⟩; go_simp <;> (simp [IntKind.wrap, IntKind.bits, IntKind.signed]; omega))
    go_frame
    refine ready_list (i := 40) rfl (by kernel_rfl) (fun K hK => ?_)
    go_simp
    refine hK.out _ _ ⟨held (below_new _ _) x0, held (below_new _ _) x1, held (below_new _ _) x2, held (below_new _ _) x3, held (below_new _ _) x4, held (below_new _ _) x5, held (below_new _ _) x6⟩ (fun hHeld => ?_)
    clear hK K
    try go_frame
    refine ready_list (i := 41) rfl (by kernel_rfl) (fun K hK => ?_)
    go_simp
    refine hK.out _ _ ⟨held (below_new _ _) x0, held (below_new _ _) x1, held (below_new _ _) x2, held (below_new _ _) x3, held (below_new _ _) x4, held (below_new _ _) x5, held (below_new _ _) x6⟩ (fun hHeld => ?_)
    clear hK K
    refine wpAnyH_done (by kernel_rfl) ?_ _
    try go_frame
    go_wp2_with fail
    go_meet
    case rel => exact ⟨rfl, rfl⟩
  case rest =>
    obtain ⟨rfl, rfl⟩ := hcut
    go_upto_region 18 with (fail)
    obtain ⟨sq, hsq⟩ : ∃ sq : Nat, sq = v1 * 16777216 + v2 * 65536 + v3 * 256 + v4 := ⟨_, rfl⟩
    obtain ⟨mt, hmt⟩ : ∃ mt : Nat, mt = v5 * 256 + v6 := ⟨_, rfl⟩
    rw [show ((v1 : Int) * 16777216 + (v2 : Int) * 65536 + (v3 : Int) * 256 + (v4 : Int)) = (sq : Int) by omega, show ((v5 : Int) * 256 + (v6 : Int)) = (mt : Int) by omega]
    have hmt2 : mt < 65536 := by omega
    obtain ⟨hU, hw, hB, hbl, hm7, hup, hS3, hbig⟩ := Z.out
    rw [← hsq, ← hmt] at hup
    have hX1 : Blk 31 (wr.alloc (.cells #[.int .u32 0, .int .i64 v0, .int .u32 id, .int .u32 sq, .int .u16 mt] 31)).drew wr.heap.size (ucs 0 v0 id sq mt) := (Blk.new wr _ _).drew
    have hb1 : Below wr.heap.size wr (wr.alloc (.cells #[.int .u32 0, .int .i64 v0, .int .u32 id, .int .u32 sq, .int .u16 mt] 31)).drew := (below_new _ _).drew
    generalize (wr.alloc (.cells #[.int .u32 0, .int .i64 v0, .int .u32 id, .int .u32 sq, .int .u16 mt] 31)).drew = W1 at *
    obtain ⟨A7, hA7⟩ : ∃ A' : Option Addr, A' = if c3 = 7 then some ⟨b3, o3, none⟩ else (some (⟨b3, o3, none⟩ : Addr)).map (·.add 7) := ⟨_, rfl⟩
    obtain ⟨L, hL⟩ : ∃ L, L = m - 7 := ⟨_, rfl⟩
    obtain ⟨c7, hc7⟩ : ∃ c7, c7 = c3 - 7 := ⟨_, rfl⟩
    have hL4 : L ≤ 4 := by omega
    have hc3 := hS3.cap
    have s7 := cut_low_run (some ⟨b3, o3, none⟩) m c3 7 (by omega) hc3 W1 (z := 7) rfl hA7 hL hc7
    have hS7 : Sl wr A7 L c7 (bd.drop 7) := by
      have := hS3.of_part (k := 7) (m := L) (cap' := c7) (by omega) (by omega) hA7
      rwa [List.take_of_length_le (by rw [List.length_drop, hbl]; omega)] at this
    have hP0 : pad (bd.drop 7) 0 = 0 := rfl
    have hPL : pad (bd.drop 7) L = val ((bd.drop 7 ++ [0, 0, 0, 0]).take 4) := by
      unfold pad
      rw [List.take_of_length_le (i := L) (by rw [List.length_drop, hbl]; omega)]
    rw [← hPL] at hup
    obtain ⟨x7, hx7⟩ : ∃ x7, x7 = bd.drop 7 := ⟨_, rfl⟩
    rw [← hx7] at hS7 hP0 hup
    have hx7l : x7.length = L := hS7.bytes.1
    have Z2 := Lib.hid (And.intro hU (And.intro hw (And.intro hB (And.intro hup (And.intro hbig (And.intro hS7 (And.intro hmt2 hx7l)))))))
    have ST := Lib.hid (show ∃ j : Nat, (Value.int .i64 0) = .int .i64 j ∧ j ≤ L ∧ Blk 31 W1 wr.heap.size (ucs (pad x7 j) v0 id sq mt) ∧ Below wr.heap.size wr W1 from ⟨0, rfl, by omega, by rw [hP0]; exact hX1, hb1⟩)
    clear hU hw hB hbl hm7 hup hS3 hbig Z hsq hmt hA7 hL hc7 hc3 hS7 hP0 hPL hx7 hX1 hb1 y0 y1 y2 y3 y4 y5 y6 x0 x1 x2 x3 x4 x5 x6 h6m hmt2
    go_wp2_with fail
    clear s7
    obtain ⟨w0, rfl⟩ : ∃ w0, w0 = wr := ⟨_, rfl⟩
    go_loopw [198] (fun k wr => ∃ j : Nat, k = .int .i64 j ∧ j ≤ L ∧ Blk 31 wr w0.heap.size (ucs (pad x7 j) v0 id sq mt) ∧ Below w0.heap.size w0 wr) (fun k _ => L - (intOf k).toNat)
    case atStart => exact ST.out
    case round =>
      clear ST
      obtain ⟨j, rfl, hj, hX, hbx⟩ := hrel
      by_cases hjL : j < L
      · obtain ⟨hU, hw, hB, hup, hbig, hS7, hmt2, hx7l⟩ := Z2.out
        have hS := hS7.held hbx
        have hstep := pad_step x7 j (by omega) (by omega)
        have hlt := pad_lt x7 (j + 1) (fun c hc => hS7.bytes.2.2.1 c hc)
        obtain ⟨b7, o7, rfl⟩ := hS7.plain (by omega)
        have cc : wr.cell? ⟨b7, o7 + j, none⟩ = some (.int .u8 (x7.getD j 0 : Nat)) := hS.at_ hjL
        have yc := hS.bytes.lt j
        have cp : wr.cell? ⟨w0.heap.size, 0, none⟩ = some (.int .u32 (pad x7 j : Nat)) := hX.at_ 0
        have fp := hX.free 0
        have RX : ∀ z : Int, z = (pad x7 (j + 1) : Nat) → Blk 31 (wr.setCell ⟨w0.heap.size, 0, none⟩ (.int .u32 z)) w0.heap.size (ucs (pad x7 (j + 1)) v0 id sq mt) ∧ Below w0.heap.size w0 (wr.setCell ⟨w0.heap.size, 0, none⟩ (.int .u32 z)) := fun z hz => by
          subst hz
          exact ⟨hX.store 0 _, hbx.setCell (p := ⟨w0.heap.size, 0, none⟩) (Nat.le_refl _) _⟩
        clear hU hw hB hup hbig hS7 hmt2 hx7l hS hX hbx
        generalize x7.getD j 0 = cv at *
        have Y3 := Lib.hid (And.intro RX hstep)
        rw [hstep] at hlt
        clear hstep RX
        obtain rfl | hj1 : j = 0 ∨ j ≠ 0 := by omega
        · simp only [Nat.reduceSub, Nat.reducePow] at hlt
          rw [Nat.add_zero] at cc
          go_wp2_with fail
          go_roundw
          case rel =>
            obtain ⟨RX, hstep⟩ := Y3.out
            refine ⟨1, by rfl, by omega, RX _ ?_⟩
            rw [hstep]
            simp
          case measure => simp only [intOf]; omega
        obtain rfl | hj1 : j = 1 ∨ j ≠ 1 := by omega
        · simp only [Nat.reduceSub, Nat.reducePow] at hlt
          go_wp2_with fail
          go_roundw
          case rel =>
            obtain ⟨RX, hstep⟩ := Y3.out
            refine ⟨2, by rfl, by omega, RX _ ?_⟩
            rw [hstep]
            simp
          case measure => simp only [intOf]; omega
        obtain rfl | hj1 : j = 2 ∨ j ≠ 2 := by omega
        · simp only [Nat.reduceSub, Nat.reducePow] at hlt
          go_wp2_with fail
          go_roundw
          case rel =>
            obtain ⟨RX, hstep⟩ := Y3.out
            refine ⟨3, by rfl, by omega, RX _ ?_⟩
            rw [hstep]
            simp
          case measure => simp only [intOf]; omega
        obtain rfl : j = 3 := by omega
        simp only [Nat.reduceSub, Nat.reducePow, Nat.mul_one] at hlt
        go_wp2_with fail
        go_roundw
        case rel =>
          obtain ⟨RX, hstep⟩ := Y3.out
          refine ⟨4, by rfl, by omega, RX _ ?_⟩
          rw [hstep]
          simp
        case measure => simp only [intOf]; omega
      · obtain rfl : j = L := by omega
        obtain ⟨hU, hw, hB, hup, hbig, hS7, hmt2, hx7l⟩ := Z2.out
        have hav := pad_lt x7 j (fun c hc => hS7.bytes.2.2.1 c hc)
        generalize pad x7 j = av at *
        clear hS7 hx7l Z2
        have dJ : decide ((j : Int) < (j : Int)) = false := decide_eq_false (by omega)
        have k4 : wr.cell? ⟨w0.heap.size, 4, none⟩ = some (.int .u16 (mt : Nat)) := hX.at_ 4
        by_cases hm : mt = 65535
        · have hm1 : ((mt : Int) == 65535) = true := beq_iff_eq.2 (by omega)
          rw [if_pos hm] at hup
          rw [hup] at hw
          have k2 := hX.at_ 2
          have f2 := hX.free 2
          have hXn : Blk 31 (wr.setCell ⟨w0.heap.size, 2, none⟩ (.int .u32 0)) w0.heap.size (ucs av v0 0 sq mt) := hX.store 2 (.int .u32 0)
          have hbn := hbx.setCell (p := ⟨w0.heap.size, 2, none⟩) (Nat.le_refl _) (.int .u32 0)
          clear hm
          have XX := Lib.hid (And.intro hU (And.intro hw (And.intro hB (And.intro hbig (And.intro hup (And.intro hXn hbn))))))
          clear hU hw hB hbig hup hXn hbn hX hbx hmt2
          go_upto_region 25 with (fail)
          obtain ⟨hU, hw, hB, hbig, hup, hX, hbx⟩ := XX.out
          clear k4 k2 f2 hm1 dJ XX
          generalize wr.setCell ⟨w0.heap.size, 2, none⟩ (.int .u32 0) = V at *
          obtain ⟨r, hr⟩ : ∃ r, r = right ⟨av, v0, 0, sq, mt⟩ := ⟨_, rfl⟩
          have TR := lright_any av v0 0 sq mt hav V
          rw [← hr] at TR
          have e0 : ((0 : Nat) : Int) = 0 := rfl
          rw [e0] at TR
          have k0 : V.cell? ⟨w0.heap.size, 0, none⟩ = some (.int .u32 (av : Nat)) := hX.at_ 0
          have k1 : V.cell? ⟨w0.heap.size, 1, none⟩ = some (.int .i64 (v0 : Nat)) := hX.at_ 1
          have k2 : V.cell? ⟨w0.heap.size, 2, none⟩ = some (.int .u32 0) := hX.at_ 2
          have k3 : V.cell? ⟨w0.heap.size, 3, none⟩ = some (.int .u32 (sq : Nat)) := hX.at_ 3
          have k4 : V.cell? ⟨w0.heap.size, 4, none⟩ = some (.int .u16 (mt : Nat)) := hX.at_ 4
          have X := Lib.hid (And.intro hU (And.intro hw (And.intro hB (And.intro hbig (And.intro hX (And.intro hbx hr))))))
          clear hU hw hB hbig hX hbx hr hup
          go_wp2_with fail
          refine TR.mono ?_
          rintro e V2 ⟨rfl, hb2⟩
          clear TR k0 k1 k2 k3 k4
          obtain ⟨hU, hw, hB, hbig, hX, hbx, hr⟩ := X.out
          clear X
          have hX2 := hX.held hb2
          have hbx2 := next hbx hb2
          have hU2 := hU.held hbx2
          have hB2 := next hB hbx2
          clear hX hbx hU hB hb2
          rw [← hr] at hw
          cases r
          · have R := Lib.hid (show LdR w D n bs u4 (.int .u32 id) (.int .i64 ((i : Int) + (2 + (m : Int)))) V2 from ⟨us, id, i + 2 + m, rfl, congrArg (Value.int .i64) (by omega), hid, hle, hU2, by rw [hw]; cases walk id (bs.drop (i + 2 + m)) <;> simp, hB2, by omega⟩)
            clear hU2 hw hB2 hX2 hbx2 hr
            go_wp2_with fail
            exact R.out
          · obtain ⟨p4, cp4, rfl, -⟩ := hU2.form
            have k0 : V2.cell? ⟨w0.heap.size, 0, none⟩ = some (.int .u32 (av : Nat)) := hX2.at_ 0
            have k1 : V2.cell? ⟨w0.heap.size, 1, none⟩ = some (.int .i64 (v0 : Nat)) := hX2.at_ 1
            have k2 : V2.cell? ⟨w0.heap.size, 2, none⟩ = some (.int .u32 0) := hX2.at_ 2
            have k3 : V2.cell? ⟨w0.heap.size, 3, none⟩ = some (.int .u32 (sq : Nat)) := hX2.at_ 3
            have k4 : V2.cell? ⟨w0.heap.size, 4, none⟩ = some (.int .u16 (mt : Nat)) := hX2.at_ 4
            have hb5 := below_new V2 (.cells #[.int .u32 (av : Int), .int .i64 (v0 : Int), .int .u32 0, .int .u32 (sq : Int), .int .u16 (mt : Int)] 31)
            have hX5 : Blk 31 (V2.alloc (.cells #[.int .u32 (av : Int), .int .i64 (v0 : Int), .int .u32 0, .int .u32 (sq : Int), .int .u16 (mt : Int)] 31)) V2.heap.size (ucs av v0 0 sq mt) := Blk.new V2 _ _
            have hU5 := hU2.held hb5
            have hB5 := next hB2 hb5
            obtain ⟨g', cap', W6, hrun, hU6, hg6, -⟩ := hU5.push hB5.size (ad := ⟨V2.heap.size, 0, none⟩) (m := 1) (c := 1) (news := [⟨av, v0, 0, sq, mt⟩]) rfl (fun jj vv hv => by
              rw [Addr.add_mid, Nat.zero_add, hX5.at_ jj]
              simpa [ucl, Up.cs] using hv) (by omega) (by omega) 22
            have hB6 := hB5.grown hg6 hB5.size (fun kk e => (hU5.lt e).2)
            obtain ⟨q', hq'⟩ : ∃ q', q' = us.length + 1 := ⟨_, rfl⟩
            rw [← hq'] at hrun hU6
            have R := Lib.hid (show LdR w D n bs (.slice (some ⟨g', 0, none⟩) q' cap') (.int .u32 id) (.int .i64 ((i : Int) + (2 + (m : Int)))) W6 from ⟨us ++ [⟨av, v0, 0, sq, mt⟩], id, i + 2 + m, rfl, congrArg (Value.int .i64) (by omega), hid, hle, hU6, by rw [hw]; cases walk id (bs.drop (i + 2 + m)) <;> simp, hB6, by simp; omega⟩)
            clear hw hU2 hB2 hb5 hX5 hU5 hB5 hU6 hg6 hB6 hq' hX2 hbx2 hr
            go_wp2_with (first | (at_builtin; refine Lib.wpList_append_run _ rfl (.tmp 224) (.tmp 226) 22 22 rfl _ _ rfl rfl _ _ hrun ?_) | fail)
            exact R.out
        · have hm1 : ((mt : Int) == 65535) = false := beq_eq_false_iff_ne.2 (by omega)
          rw [if_neg hm] at hup
          rw [hup] at hw
          clear hm
          have XX := Lib.hid (And.intro hU (And.intro hw (And.intro hB (And.intro hbig (And.intro hup (And.intro hX hbx))))))
          clear hU hw hB hbig hup hX hbx hmt2
          go_upto_region 25 with (fail)
          obtain ⟨hU, hw, hB, hbig, hup, hX, hbx⟩ := XX.out
          clear k4 hm1 dJ XX
          obtain ⟨V, rfl⟩ : ∃ V, V = wr := ⟨_, rfl⟩
          obtain ⟨r, hr⟩ : ∃ r, r = right ⟨av, v0, id, sq, mt⟩ := ⟨_, rfl⟩
          have TR := lright_any av v0 id sq mt hav V
          rw [← hr] at TR
          have k0 : V.cell? ⟨w0.heap.size, 0, none⟩ = some (.int .u32 (av : Nat)) := hX.at_ 0
          have k1 : V.cell? ⟨w0.heap.size, 1, none⟩ = some (.int .i64 (v0 : Nat)) := hX.at_ 1
          have k2 : V.cell? ⟨w0.heap.size, 2, none⟩ = some (.int .u32 (id : Int)) := hX.at_ 2
          have k3 : V.cell? ⟨w0.heap.size, 3, none⟩ = some (.int .u32 (sq : Nat)) := hX.at_ 3
          have k4 : V.cell? ⟨w0.heap.size, 4, none⟩ = some (.int .u16 (mt : Nat)) := hX.at_ 4
          have X := Lib.hid (And.intro hU (And.intro hw (And.intro hB (And.intro hbig (And.intro hX (And.intro hbx hr))))))
          clear hU hw hB hbig hX hbx hr hup
          go_wp2_with fail
          refine TR.mono ?_
          rintro e V2 ⟨rfl, hb2⟩
          clear TR k0 k1 k2 k3 k4
          obtain ⟨hU, hw, hB, hbig, hX, hbx, hr⟩ := X.out
          clear X
          have hX2 := hX.held hb2
          have hbx2 := next hbx hb2
          have hU2 := hU.held hbx2
          have hB2 := next hB hbx2
          clear hX hbx hU hB hb2
          rw [← hr] at hw
          cases r
          · have R := Lib.hid (show LdR w D n bs u4 (.int .u32 id) (.int .i64 ((i : Int) + (2 + (m : Int)))) V2 from ⟨us, id, i + 2 + m, rfl, congrArg (Value.int .i64) (by omega), hid, hle, hU2, by rw [hw]; cases walk id (bs.drop (i + 2 + m)) <;> simp, hB2, by omega⟩)
            clear hU2 hw hB2 hX2 hbx2 hr
            go_wp2_with fail
            exact R.out
          · obtain ⟨p4, cp4, rfl, -⟩ := hU2.form
            have k0 : V2.cell? ⟨w0.heap.size, 0, none⟩ = some (.int .u32 (av : Nat)) := hX2.at_ 0
            have k1 : V2.cell? ⟨w0.heap.size, 1, none⟩ = some (.int .i64 (v0 : Nat)) := hX2.at_ 1
            have k2 : V2.cell? ⟨w0.heap.size, 2, none⟩ = some (.int .u32 (id : Int)) := hX2.at_ 2
            have k3 : V2.cell? ⟨w0.heap.size, 3, none⟩ = some (.int .u32 (sq : Nat)) := hX2.at_ 3
            have k4 : V2.cell? ⟨w0.heap.size, 4, none⟩ = some (.int .u16 (mt : Nat)) := hX2.at_ 4
            have hb5 := below_new V2 (.cells #[.int .u32 (av : Int), .int .i64 (v0 : Int), .int .u32 (id : Int), .int .u32 (sq : Int), .int .u16 (mt : Int)] 31)
            have hX5 : Blk 31 (V2.alloc (.cells #[.int .u32 (av : Int), .int .i64 (v0 : Int), .int .u32 (id : Int), .int .u32 (sq : Int), .int .u16 (mt : Int)] 31)) V2.heap.size (ucs av v0 id sq mt) := Blk.new V2 _ _
            have hU5 := hU2.held hb5
            have hB5 := next hB2 hb5
            obtain ⟨g', cap', W6, hrun, hU6, hg6, -⟩ := hU5.push hB5.size (ad := ⟨V2.heap.size, 0, none⟩) (m := 1) (c := 1) (news := [⟨av, v0, id, sq, mt⟩]) rfl (fun jj vv hv => by
              rw [Addr.add_mid, Nat.zero_add, hX5.at_ jj]
              simpa [ucl, Up.cs] using hv) (by omega) (by omega) 22
            have hB6 := hB5.grown hg6 hB5.size (fun kk e => (hU5.lt e).2)
            obtain ⟨q', hq'⟩ : ∃ q', q' = us.length + 1 := ⟨_, rfl⟩
            rw [← hq'] at hrun hU6
            have R := Lib.hid (show LdR w D n bs (.slice (some ⟨g', 0, none⟩) q' cap') (.int .u32 id) (.int .i64 ((i : Int) + (2 + (m : Int)))) W6 from ⟨us ++ [⟨av, v0, id, sq, mt⟩], id, i + 2 + m, rfl, congrArg (Value.int .i64) (by omega), hid, hle, hU6, by rw [hw]; cases walk id (bs.drop (i + 2 + m)) <;> simp, hB6, by simp; omega⟩)
            clear hw hU2 hB2 hb5 hX5 hU5 hB5 hU6 hg6 hB6 hq' hX2 hbx2 hr
            go_wp2_with (first | (at_builtin; refine Lib.wpList_append_run _ rfl (.tmp 224) (.tmp 226) 22 22 rfl _ _ rfl rfl _ _ hrun ?_) | fail)
            exact R.out
end Go.Proofs.Ytpdbaediepofjaa
