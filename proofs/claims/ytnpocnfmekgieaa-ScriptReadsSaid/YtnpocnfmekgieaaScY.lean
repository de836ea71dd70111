/-
  The statement's own bytes of a script.
-/
import Derived.Test.YtnpocnfmekgieaaScNe
namespace Go.Proofs.Ytnpocnfmekgieaa
open Go.RowKit Go.Maps Sc

theorem new_bytes (W : World) (bs : List Nat) (hl : bs.length ≤ 100) : BytesAt (W.alloc (.cells (cls bs) 5)) (some ⟨W.heap.size, 0, none⟩) bs.length bs ∨ ¬ ∀ c ∈ bs, c < 256 := by
  by_cases h : ∀ c ∈ bs, c < 256
  · exact .inl (BytesAt.of_blk (Blk.new W _ _) bs 0 _ (maxLen_small (by omega)) rfl h (fun k hk => by rw [Nat.zero_add]; exact cls_at bs k hk))
  · exact .inr h
/-- 'append(b, x, y, ..)' -/
theorem Ob.lit {B : Nat} {v : Value} {bs : List Nat} {W : World} (h : Ob B v bs W) (hB : B ≤ W.heap.size) (news : List Nat) (hn : ∀ c ∈ news, c < 256) (h0 : 0 < news.length) (hs : news.length ≤ 100) (hbig : bs.length + news.length ≤ 1000000) {C : Array Value} (hC : C = cls news) {m : Nat} (hm : m = news.length) :
    ∃ g' cap' W', (Builtin.append_ #[32, 32] 32 #[v, .slice (some ⟨W.heap.size, 0, none⟩) m m]).run Try.prog (W.alloc (.cells C 5)) = .ok (.slice (some ⟨g', 0, none⟩) (bs.length + m) cap') W' ∧ Ob B (.slice (some ⟨g', 0, none⟩) (bs.length + m) cap') (bs ++ news) W' ∧ Below B W W' ∧ ∀ x t D, Blk t W x D → (∀ b, v.ownBlock = some b → x ≠ b) → Blk t W' x D := by
  subst hC hm
  have hBy : BytesAt (W.alloc (.cells (cls news) 5)) (some ⟨W.heap.size, 0, none⟩) news.length news := (new_bytes W news hs).resolve_right (fun h => h hn)
  have hb := below_new W (.cells (cls news) 5)
  have h5 := Ol.held h hb
  obtain ⟨g', cap', W', hr, hO, hg, -⟩ := Ob.app h5 (Nat.le_trans hB hb.size) (c := news.length) hBy h0 hbig 32
  exact ⟨g', cap', W', hr, hO, (hb.mono hB).grown hg (Nat.le_trans hB hb.size) (fun kk e => (Ol.lt h5 e).2), fun x t D hx hne => (hg.block x (Nat.lt_of_lt_of_le hx.lt hb.size) (fun e => hne x e.symm rfl)).trans (hx.held hb)⟩
theorem Ol.blk {α : Type} {e : TypeId} {cl : α → List Value} {k B : Nat} {v : Value} {xs : List α} {W : World} (h : Ol e cl k B v xs W) {b : Nat} (hb : v.ownBlock = some b) : ∃ cur, Blk e W b cur := by
  rcases h.2 with ⟨rfl, _⟩ | ⟨g, cap, cur, rfl, h4, h5, _⟩
  · cases hb
  · cases hb; exact ⟨cur, h5⟩
theorem Ob.fresh {W : World} {C : Array Value} {bs : List Nat} (hC : C = cls bs) (hl : bs.length ≤ 5000) {m : Nat} (hm : m = bs.length) : Ob W.heap.size (.slice (some ⟨W.heap.size, 0, none⟩) m m) bs (W.alloc (.cells C 5)) := by
  subst hC hm; exact Ob.new W bs hl
theorem cls_three {x y z : Int} {a b c : Nat} (hx : x = a) (hy : y = b) (hz : z = c) : (#[.int .u8 x, .int .u8 y, .int .u8 z] : Array Value) = cls [a, b, c] := by subst hx hy hz; rfl
theorem cls_six {x y z u v t : Int} {a b c d e f : Nat} (hx : x = a) (hy : y = b) (hz : z = c) (hu : u = d) (hv : v = e) (ht : t = f) : (#[.int .u8 x, .int .u8 y, .int .u8 z, .int .u8 u, .int .u8 v, .int .u8 t] : Array Value) = cls [a, b, c, d, e, f] := by subst hx hy hz hu hv ht; rfl
/-- the first j of three numbers, as bytes -/
def upto3 (i k n : Nat) : Nat → List Nat
  | 0 => []
  | 1 => three i
  | 2 => three i ++ three k
  | _ => three i ++ (three k ++ three n)
theorem upto3_succ (i k n : Nat) {j : Nat} (hj : j < 3) : upto3 i k n (j + 1) = upto3 i k n j ++ three ([i, k, n].getD j 0) := by
  have : j = 0 ∨ j = 1 ∨ j = 2 := by omega
  rcases this with rfl | rfl | rfl <;> simp [upto3]
theorem upto3_length (i k n : Nat) {j : Nat} (hj : j ≤ 3) : (upto3 i k n j).length = 3 * j := by
  have : j = 0 ∨ j = 1 ∨ j = 2 ∨ j = 3 := by omega
  rcases this with rfl | rfl | rfl | rfl <;> rfl
theorem ints_at (i k n : Nat) {j : Nat} (hj : j < 3) : (#[.int .i64 (i : Int), .int .i64 (k : Int), .int .i64 (n : Int)] : Array Value)[j]? = some (.int .i64 (([i, k, n].getD j 0 : Nat) : Int)) := by
  have : j = 0 ∨ j = 1 ∨ j = 2 := by omega
  rcases this with rfl | rfl | rfl <;> rfl
theorem ints_le {i k n : Nat} (hi : i ≤ 65536) (hk : k ≤ 65536) (hn : n ≤ 65536) {j : Nat} (hj : j < 3) : [i, k, n].getD j 0 ≤ 65536 := by
  have : j = 0 ∨ j = 1 ∨ j = 2 := by omega
  rcases this with rfl | rfl | rfl <;> assumption

set_option maxRecDepth 100000 in
set_option maxHeartbeats 8000000 in
theorem lbytes_any {A : Option Addr} {n cap : Nat} {es : List Ev} {nn ss : Nat} {w : World} (h : El w A n cap es) (hr : Sc.allRight es = true) (h2 : nn < 256) (h4 : ss < 65536) (hbig : (flat es).length ≤ 900000) :
    Calls Try.prog 13 #[.int .i64 (nn : Nat), .int .i64 (ss : Nat), .slice A n cap] w fun x w' => ∃ g c q, x = .returned (.slice (some ⟨g, 0, none⟩) q c) ∧ q = (script nn ss es).length ∧ Ob w.heap.size (.slice (some ⟨g, 0, none⟩) q c) (script nn ss es) w' ∧ Below w.heap.size w w' := by
  have hlen := h.len
  have hmx := h.max
  have hmx' : n ≤ 9223372036854775807 := by unfold maxLen at hmx; omega
  have H := Lib.hid (And.intro h (And.intro hr (And.intro hbig hlen)))
  clear h hr hbig hlen hmx
  have hO0 : Ob w.heap.size (.slice (some ⟨w.heap.size, 0, none⟩) 3 3) (script nn ss []) (w.alloc (.cells #[.int .u8 (nn : Int), .int .u8 ((ss : Int) / 256), .int .u8 ((ss : Int) % 256)] 5)) :=
    Ob.fresh (bs := [nn % 256, ss / 256 % 256, ss % 256]) (cls_three (by omega) (by omega) (by omega)) (by simp) rfl
  have hb0 := below_new w (.cells #[.int .u8 (nn : Int), .int .u8 ((ss : Int) / 256), .int .u8 ((ss : Int) % 256)] 5)
  have S := Lib.hid (And.intro hO0 hb0)
  clear hO0 hb0
  go_enter Try.func13, Try.ntmps13
  go_wp2_with fail
  generalize w.alloc _ = w1 at *
  obtain ⟨G0, hG0⟩ : ∃ G0, G0 = w.heap.size := ⟨_, rfl⟩
  go_loopw [7, 24] (fun v i wr => ∃ k g q c : Nat, i = .int .i64 (k : Nat) ∧ v = .slice (some ⟨g, 0, none⟩) q c ∧ k ≤ n ∧ Hid (q = (script nn ss (es.take k)).length ∧ Ob w.heap.size (.slice (some ⟨g, 0, none⟩) q c) (script nn ss (es.take k)) wr ∧ Below w.heap.size w wr)) (fun _ i _ => n - (intOf i).toNat)
  case atStart => exact ⟨0, w.heap.size, 3, 3, rfl, rfl, Nat.zero_le _, Lib.hid ⟨by simp [script, two, flat_nil], S.out.1, S.out.2⟩⟩
  case round =>
    clear S hG0 G0
    obtain ⟨k, g, q, c, rfl, rfl, hkn, R⟩ := hrel
    by_cases hlt : k < n
    · have d2 : decide ((k : Int) < (n : Int)) = true := decide_eq_true (by omega)
      have hk : k < es.length := by rw [H.out.2.2.2]; exact hlt
      obtain ⟨e, he⟩ : ∃ e, es[k] = e := ⟨_, rfl⟩
      obtain ⟨b, off, rfl⟩ := H.out.1.plain (by omega)
      have hfit := (H.out.1.good e (by rw [← he]; exact List.getElem_mem hk)).fits
      obtain ⟨c0, c1, c2, c3, c4, c5, c6⟩ := (H.out.1.held R.out.2.2).at_ hk he
      have hright : right e = true := by rw [← he]; exact allRight_at H.out.2.1 hk
      have hsc : script nn ss (es.take (k + 1)) = script nn ss (es.take k) ++ ebytes e := by
        unfold script
        rw [take_snoc_flat hk, he]
        simp
      have hle := flat_take_le es (k + 1)
      have hl2 : (script nn ss (es.take (k + 1))).length = 3 + (flat (es.take (k + 1))).length := script_length _ _ _
      have hbg := H.out.2.2.1
      have hlim : (script nn ss (es.take k)).length + (ebytes e).length ≤ 900003 := by rw [← List.length_append, ← hsc]; omega
      obtain ⟨kd, i, kk, n', l, e0, e1, e2, e3, e4, g0, g1, g2, g3, g4, g5⟩ := ok_nats hright
      have hEB : ebytes e = [kd] ++ (upto3 i kk n' 3 ++ ([e.a / 16777216 % 256, e.a / 65536 % 256, e.a / 256 % 256, e.a % 256, l, e.p.length] ++ nats e.p)) := by
        unfold ebytes hd
        rw [e0, e1, e2, e3, e4]
        simp only [Int.toNat_natCast]
        rw [Nat.mod_eq_of_lt (show kd < 256 by omega), Nat.mod_eq_of_lt (show l < 256 by omega), Nat.mod_eq_of_lt (show e.p.length < 256 by omega)]
        simp [upto3, four]
      have hal := hfit.a
      rw [e0] at c0
      rw [e1] at c1
      rw [e2] at c2
      rw [e3] at c3
      rw [e4] at c5
      have i1 : (k : Int) < (n : Int) := by omega
      obtain ⟨P, hP⟩ : ∃ P, P = e.p := ⟨_, rfl⟩
      obtain ⟨s, hs⟩ : ∃ s : ByteArray, s = ⟨e.p.toArray⟩ := ⟨_, rfl⟩
      rw [← hs] at c6
      rw [← hP] at hEB g5 hs
      obtain ⟨m, hm⟩ : ∃ m, m = P.length := ⟨_, rfl⟩
      have hsz : s.size = m := by rw [hs, hm]; exact str_size _
      rw [← hm] at hEB g5
      obtain ⟨EB, hE⟩ : ∃ EB, EB = ebytes e := ⟨_, rfl⟩
      rw [← hE] at hEB hsc hlim
      generalize e.a = a at *
      have Q := Lib.hid (And.intro hsc (And.intro hEB (And.intro hlim (And.intro hs hm))))
      clear hright hfit he hP hsc hEB hlim hs hm hE e0 e1 e2 e3 e4 hle hl2 hbg hk
      have hbx := below_new wr (.cells #[.int .i64 (kd : Int), .int .i64 (i : Int), .int .i64 (kk : Int), .int .i64 (n' : Int), .int .u32 (a : Nat), .int .i64 (l : Int), .string s] 30)
      have BX := Blk.new wr 30 #[.int .i64 (kd : Int), .int .i64 (i : Int), .int .i64 (kk : Int), .int .i64 (n' : Int), .int .u32 (a : Nat), .int .i64 (l : Int), .string s]
      have X := Lib.hid (And.intro hbx BX)
      clear hbx BX
      go_upto_region 5 with fail
      generalize wr.alloc _ = w10 at *
      clear c0 c1 c2 c3 c4 c5 c6
      have x0 : w10.cell? ⟨wr.heap.size, 0, none⟩ = some (.int .i64 (kd : Int)) := X.out.2.at_ 0
      have hb10 := R.out.2.2.trans (X.out.1.mono R.out.2.2.size)
      have hO10 : Ob w.heap.size (.slice (some ⟨g, 0, none⟩) q c) (script nn ss (es.take k)) w10 := Ol.held R.out.2.1 X.out.1
      obtain ⟨g1', cp1, w11, hrun1, hO11, hb11, hx11⟩ := Ob.lit hO10 hb10.size [kd] (by simp; omega) (by simp) (by simp) (by have := Q.out.2.2.1; simp; omega) (C := #[.int .u8 (kd : Int)]) rfl (m := 1) rfl
      rw [← R.out.1] at hrun1 hO11
      have BX11 := hx11 _ _ _ X.out.2 (fun b hb e => by have := (Ol.lt R.out.2.1 hb).1; omega)
      have hb11' := hb10.trans hb11
      have V := Lib.hid (And.intro hO11 (And.intro BX11 hb11'))
      clear hb10 hO10 hO11 hb11 hx11 BX11 hb11'
      go_upto_region 6 with (first | (at_builtin; refine Lib.wpList_append_run _ rfl (.tmp 28) (.tmp 32) 32 32 rfl _ _ rfl rfl _ _ hrun1 ?_) | fail)
      clear x0 hrun1
      have x1 : w11.cell? ⟨wr.heap.size, 1, none⟩ = some (.int .i64 (i : Int)) := V.out.2.1.at_ 1
      have x2 : w11.cell? ⟨wr.heap.size, 2, none⟩ = some (.int .i64 (kk : Int)) := V.out.2.1.at_ 2
      have x3 : w11.cell? ⟨wr.heap.size, 3, none⟩ = some (.int .i64 (n' : Int)) := V.out.2.1.at_ 3
      have hIn := below_new w11 (.cells #[.int .i64 (i : Int), .int .i64 (kk : Int), .int .i64 (n' : Int)] 3)
      have BI := Blk.new w11 3 #[.int .i64 (i : Int), .int .i64 (kk : Int), .int .i64 (n' : Int)]
      have V2 := Lib.hid (And.intro (Ol.held V.out.1 hIn) (And.intro (V.out.2.1.held hIn) (And.intro (V.out.2.2.trans (hIn.mono V.out.2.2.size)) (And.intro BI (show wr.heap.size < w11.heap.size from V.out.2.1.lt)))))
      clear hIn BI V
      go_wp2_with fail
      generalize w11.alloc _ = w12 at *
      clear x1 x2 x3
      generalize w11.heap.size = Y at *
      generalize wr.heap.size = bx at *
      go_loopw [7, 42] (fun v j wi => ∃ jj g q c : Nat, j = .int .i64 (jj : Nat) ∧ v = .slice (some ⟨g, 0, none⟩) q c ∧ jj ≤ 3 ∧ Hid (q = (script nn ss (es.take k) ++ [kd] ++ upto3 i kk n' jj).length ∧ Ob w.heap.size (.slice (some ⟨g, 0, none⟩) q c) (script nn ss (es.take k) ++ [kd] ++ upto3 i kk n' jj) wi ∧ Below w.heap.size w wi ∧ Blk 30 wi bx #[.int .i64 (kd : Int), .int .i64 (i : Int), .int .i64 (kk : Int), .int .i64 (n' : Int), .int .u32 (a : Nat), .int .i64 (l : Int), .string s] ∧ Blk 3 wi Y #[.int .i64 (i : Int), .int .i64 (kk : Int), .int .i64 (n' : Int)])) (fun _ j _ => 3 - (intOf j).toNat)
      case atStart => exact ⟨0, g1', q + 1, cp1, rfl, rfl, by omega, Lib.hid ⟨by rw [R.out.1]; simp [upto3], by simpa [upto3] using V2.out.1, V2.out.2.2.1, V2.out.2.1, V2.out.2.2.2.1⟩⟩
      case round =>
        clear V2
        obtain ⟨jj, g2', q2, cp2, rfl, rfl, hj3, T⟩ := hrel
        by_cases hjl : jj < 3
        · have dj : decide ((jj : Int) < 3) = true := decide_eq_true (by omega)
          have cj : wr.cell? ⟨Y, jj, none⟩ = some (.int .i64 (([i, kk, n'].getD jj 0 : Nat) : Int)) := (T.out.2.2.2.2.at_ jj).trans (ints_at i kk n' hjl)
          have hx := ints_le g1 g2 g3 hjl
          have hup := upto3_succ i kk n' hjl
          have hul := upto3_length i kk n' (j := jj) (by omega)
          generalize [i, kk, n'].getD jj 0 = z at *
          obtain ⟨g3', cp3, w13, hrun3, hO13, hb13, hx13⟩ := Ob.lit T.out.2.1 T.out.2.2.1.size (three z) (three_lt z) (by simp [three]) (by simp [three]) (by
            have h1 := Q.out.2.2.1
            have h2 := Q.out.2.1
            have h3 := congrArg List.length h2
            simp [upto3_length] at h3
            simp [three, hul]
            omega) (C := #[.int .u8 ((z : Int) / 65536), .int .u8 ((z : Int) / 256 % 256), .int .u8 ((z : Int) % 256)]) (cls_three (by omega) (by omega) (by omega)) (m := 3) rfl
          rw [← T.out.1] at hrun3 hO13
          have BX13 := hx13 _ _ _ T.out.2.2.2.1 (fun b hb e => by
            obtain ⟨cur, hB⟩ := T.out.2.1.blk hb
            subst e
            have := T.out.2.2.2.1.symm.trans hB
            cases this)
          have BI13 := hx13 _ _ _ T.out.2.2.2.2 (fun b hb e => by
            obtain ⟨cur, hB⟩ := T.out.2.1.blk hb
            subst e
            have := T.out.2.2.2.2.symm.trans hB
            cases this)
          have T2 := Lib.hid (And.intro (show q2 + 3 = (script nn ss (es.take k) ++ [kd] ++ upto3 i kk n' (jj + 1)).length by rw [T.out.1, hup]; simp [three]; omega) (And.intro (show Ob w.heap.size (.slice (some ⟨g3', 0, none⟩) (q2 + 3) cp3) (script nn ss (es.take k) ++ [kd] ++ upto3 i kk n' (jj + 1)) w13 by rw [hup, ← List.append_assoc]; exact hO13) (And.intro (T.out.2.2.1.trans hb13) (And.intro BX13 BI13))))
          have ij : (jj : Int) < 3 := by omega
          clear hO13 hb13 hx13 BX13 BI13 hup hul T
          go_wp2_with (first | (at_builtin; refine Lib.wpList_append_run _ rfl (.tmp 46) (.tmp 57) 32 32 rfl _ _ rfl rfl _ _ hrun3 ?_) | fail)
          go_roundw
          case rel => exact ⟨jj + 1, g3', q2 + 3, cp3, by go_num, rfl, by omega, T2⟩
          case measure => simp [intOf]; omega
        · obtain rfl : jj = 3 := by omega
          have x4 : wr.cell? ⟨bx, 4, none⟩ = some (.int .u32 (a : Nat)) := T.out.2.2.2.1.at_ 4
          have x5 : wr.cell? ⟨bx, 5, none⟩ = some (.int .i64 (l : Int)) := T.out.2.2.2.1.at_ 5
          have x6 : wr.cell? ⟨bx, 6, none⟩ = some (.string s) := T.out.2.2.2.1.at_ 6
          obtain ⟨g3', cp3, w13, hrun3, hO13, hb13, hx13⟩ := Ob.lit T.out.2.1 T.out.2.2.1.size [a / 16777216 % 256, a / 65536 % 256, a / 256 % 256, a % 256, l, m] (by simp; omega) (by simp) (by simp) (by
            have h1 := Q.out.2.2.1
            have h2 := Q.out.2.1
            have h3 := congrArg List.length h2
            simp [upto3_length] at h3
            simp [upto3_length]
            omega) (C := #[.int .u8 ((a : Int) / 16777216), .int .u8 ((a : Int) / 65536 % 256), .int .u8 ((a : Int) / 256 % 256), .int .u8 ((a : Int) % 256), .int .u8 (l : Int), .int .u8 (m : Int)]) (cls_six (by omega) (by omega) (by omega) (by omega) rfl rfl) (m := 6) rfl
          rw [← T.out.1] at hrun3 hO13
          have BX13 := hx13 _ _ _ T.out.2.2.2.1 (fun b hb e => by
            obtain ⟨cur, hB⟩ := T.out.2.1.blk hb
            subst e
            have := T.out.2.2.2.1.symm.trans hB
            cases this)
          have y6 : w13.cell? ⟨bx, 6, none⟩ = some (.string s) := BX13.at_ 6
          have hb13' := T.out.2.2.1.trans hb13
          obtain ⟨g4', cp4, w14, hrun4, hO14, hg14⟩ := Ob.str hO13 hb13'.size (by rw [List.length_append]; simp only [List.length_cons, List.length_nil]; omega) P (by
            have h1 := Q.out.2.2.1
            have h2 := Q.out.2.1
            have h3 := congrArg List.length h2
            simp [upto3_length, nats_length] at h3
            simp [upto3_length]
            omega) 32
          have hb14 := hb13'.grown hg14 hb13'.size (fun kk e => (Ol.lt hO13 e).2)
          have hfin : script nn ss (es.take (k + 1)) = script nn ss (es.take k) ++ [kd] ++ upto3 i kk n' 3 ++ [a / 16777216 % 256, a / 65536 % 256, a / 256 % 256, a % 256, l, m] ++ nats P := by
            rw [Q.out.1, Q.out.2.1]; simp
          have hq4 : (script nn ss (es.take k) ++ [kd] ++ upto3 i kk n' 3 ++ [a / 16777216 % 256, a / 65536 % 256, a / 256 % 256, a % 256, l, m]).length = q2 + 6 := by rw [T.out.1, List.length_append]; rfl
          rw [← hfin] at hO14
          rw [hq4, ← Q.out.2.2.2.2] at hrun4 hO14
          rw [← Q.out.2.2.2.1] at hrun4
          have F := Lib.hid (And.intro (show q2 + 6 + m = (script nn ss (es.take (k + 1))).length by rw [hfin, List.length_append, hq4, nats_length, Q.out.2.2.2.2]) (And.intro hO14 hb14))
          clear hO13 hb13 hx13 BX13 hb13' hO14 hg14 hb14 hfin hq4 T Q
          go_wp2_with (first | (at_builtin; refine Lib.wpList_append_run _ rfl (.tmp 63) (.tmp 83) 32 32 rfl _ _ rfl rfl _ _ hrun3 ?_) | (at_builtin; refine Lib.wpList_append_run _ rfl (.tmp 85) (.tmp 87) 32 9 rfl _ _ rfl rfl _ _ hrun4 ?_) | fail)
          go_roundw
          case rel => exact ⟨k + 1, g4', q2 + 6 + m, cp4, by go_num, rfl, by omega, F⟩
          case measure => simp [intOf]; omega
    · obtain rfl : k = n := by omega
      have d2 : decide ((k : Int) < (k : Int)) = false := decide_eq_false (by omega)
      have e1 : es.take k = es := List.take_of_length_le (by rw [H.out.2.2.2]; exact Nat.le_refl _)
      have R2 := R.out
      rw [e1] at R2
      have R3 := Lib.hid R2
      clear R R2 e1
      go_wp2_with fail
      go_ret
      exact ⟨g, c, q, rfl, R3.out.1, R3.out.2.1, R3.out.2.2⟩
end Go.Proofs.Ytnpocnfmekgieaa
