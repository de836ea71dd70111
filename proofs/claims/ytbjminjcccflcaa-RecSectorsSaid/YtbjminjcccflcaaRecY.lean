/-
  The contract of the statement's Bytes.
-/
import Derived.Test.YtbjminjcccflcaaOb
import Derived.Test.YtbjminjcccflcaaRecS
namespace Go.Proofs.Ytbjminjcccflcaa
open Go.RowKit Rm

theorem run_app_n {u : World} {g cap len : Nat} {bs : List Nat} (h : Ob u g cap bs) (hn : bs.length = len) {ad : Addr} {m : Nat} {news : List Nat} (hx : BytesAt u (some ad) m news) (hm : len + m ≤ 1000) (c : Nat) (ty : TypeId) :
    ∃ g' cap' u', (Builtin.append_ #[32, 32] ty #[.slice (some ⟨g, 0, none⟩) len cap, .slice (some ad) m c]).run Try.prog u = .ok (.slice (some ⟨g', 0, none⟩) (len + m) cap') u' ∧ Ob u' g' cap' (bs ++ news) ∧ Turn [g] u u' ∧ (g' = g ∨ u.heap.size ≤ g') := by
  subst hn
  exact run_app h hx hm c ty
theorem four_at {u : World} {g n : Nat} (h : Ob u g 4 (four n)) : BytesAt u (some ⟨g, 0, none⟩) 4 (four n) := h.bytes (four_lt n) (by simp [four])
/-- four, as what lies where -/
theorem four_ans (n : Nat) (hn : n < 4294967296) (w : World) :
    Calls Try.prog 11 #[.int .u32 n] w fun e w' => e = .returned (.slice (some ⟨w.heap.size, 0, none⟩) 4 4) ∧ BytesAt w' (some ⟨w.heap.size, 0, none⟩) 4 (four n) ∧ Below w.heap.size w w' ∧ w'.heap.size = w.heap.size + 1 :=
  (four_any n hn w).mono fun _ _ ⟨he, hw⟩ => by
    subst hw
    exact ⟨he, four_at (Ob.of_blk (Blk.new w _ _) (by simp [four])), below_new _ _, size_new _ _⟩

/-- under way: the bytes so far, the record, the numbers that are still to come -/
def By (w u : World) (rc nums : Array Value) (b cap : Nat) (bs : List Nat) : Prop :=
  Ob u b cap bs ∧ Blk 30 u w.heap.size rc ∧ Blk 23 u (w.heap.size + 1 + 1) nums ∧ (w.heap.size < b ∧ b ≠ w.heap.size + 1 + 1) ∧ Below w.heap.size w u
section
variable {w u u' : World} {rc nums : Array Value} {b cap b' cap' : Nat} {bs bs' : List Nat}
theorem By.held (h : By w u rc nums b cap bs) (hb : Below u.heap.size u u') : By w u' rc nums b cap bs := ⟨h.1.held hb, h.2.1.held hb, h.2.2.1.held hb, h.2.2.2.1, next h.2.2.2.2 hb⟩
theorem By.app (h : By w u rc nums b cap bs) (ho : Ob u' b' cap' bs') (hT : Turn [b] u u') (hw : b' = b ∨ u.heap.size ≤ b') : By w u' rc nums b' cap' bs' := by
  obtain ⟨h1, h2, h3, ⟨h4, h5⟩, h6⟩ := h
  have l1 := h2.lt
  have l2 := h3.lt
  exact ⟨ho, h2.turn hT (by simp; omega), h3.turn hT (by simp; omega), ⟨by omega, by omega⟩, h6.trans (hT.below (by simp; omega) h6.size)⟩
end
theorem Below.size_le {w u : World} (h : Below w.heap.size w u) : w.heap.size ≤ u.heap.size := h.size
/-- the bytes behind k of the numbers -/
def upto (h : List Nat) (q : List Nat) : Nat → List Nat
  | 0 => h
  | k + 1 => upto h q k ++ four (q.getD k 0)
theorem upto_length (h q : List Nat) : ∀ k, (upto h q k).length = h.length + 4 * k
  | 0 => rfl
  | k + 1 => by simp [upto, upto_length h q k, four]; omega
theorem nums_at (g l i a : Nat) {k : Nat} (hk : k < 4) : (#[.int .u32 (g : Int), .int .u32 (l : Int), .int .u32 (i : Int), .int .u32 (a : Int)] : Array Value)[k]? = some (.int .u32 (([g, l, i, a].getD k 0 : Nat) : Int)) := by
  have : k = 0 ∨ k = 1 ∨ k = 2 ∨ k = 3 := by omega
  rcases this with rfl | rfl | rfl | rfl <;> rfl
theorem nums_lt {g l i a : Nat} (hg : g < 4294967296) (hl : l < 4294967296) (hi : i < 4294967296) (ha : a < 4294967296) {k : Nat} (hk : k < 4) : [g, l, i, a].getD k 0 < 4294967296 := by
  have : k = 0 ∨ k = 1 ∨ k = 2 ∨ k = 3 := by omega
  rcases this with rfl | rfl | rfl | rfl <;> assumption
theorem head_cells (k : Int) (o : Bool) (m : Nat) (hm : m < 65536) : (#[.int .u8 (k % 256), .int .u8 (if o then 1 else 0), .int .u8 ((m : Int) / 256), .int .u8 ((m : Int) % 256)] : Array Value) = cls [low k, if o then 1 else 0, m / 256 % 256, m % 256] := by
  show _ = #[cell (low k), cell (if o then 1 else 0), cell (m / 256 % 256), cell (m % 256)]
  rw [← low_cell]
  unfold cell
  rw [show ((m / 256 % 256 : Nat) : Int) = (m : Int) / 256 by omega, show ((m % 256 : Nat) : Int) = (m : Int) % 256 by omega]
  cases o <;> rfl

theorem pad_at (w : World) (n : Int) : BytesAt (w.alloc (.cells #[.int .u8 (n % 256), .int .u8 0, .int .u8 0, .int .u8 0] 5)) (some ⟨w.heap.size, 0, none⟩) 4 [low n, 0, 0, 0] := by
  have h := Blk.new w 5 (cls [low n, 0, 0, 0])
  have e : (cls [low n, 0, 0, 0]) = #[.int .u8 (n % 256), .int .u8 0, .int .u8 0, .int .u8 0] := by
    rw [low_cell]
    rfl
  rw [e] at h
  rw [← e] at h ⊢
  exact BytesAt.cls h (by have := low_lt n; simp; omega) (by simp)
theorem upto_body (k : Int) (g l i a : Nat) (n : Int) (s m : Nat) (o : Bool) :
    (upto [low k, if o then 1 else 0, m / 256 % 256, m % 256] [g, l, i, a] 4 ++ [low n, 0, 0, 0]) ++ four s ++ List.replicate 16 0 = body ⟨k, g, l, i, a, n, o, s, m⟩ := by
  cases o <;> rfl

set_option maxHeartbeats 4000000 in
theorem bytes_any (k : Int) (g l i a : Nat) (n : Int) (o : Bool) (s m : Nat) (hg : g < 4294967296) (hl : l < 4294967296) (hi : i < 4294967296) (ha : a < 4294967296) (hs : s < 4294967296) (hm : m < 65536) (w : World) :
    Calls Try.prog 10 #[.agg (rcells k g l i a n o s m)] w fun e w' => ∃ b cap, e = .returned (.slice (some ⟨b, 0, none⟩) 48 cap) ∧ Ob w' b cap (Rm.bytes ⟨k, g, l, i, a, n, o, s, m⟩) ∧ w.heap.size ≤ b ∧ Below w.heap.size w w' := by
  have start : ∀ A : Array Value, A = cls [low k, if o then 1 else 0, m / 256 % 256, m % 256] → By w (((w.alloc (.cells (rcells k g l i a n o s m) 30)).alloc (.cells A 5)).alloc (.cells #[.int .u32 (g : Int), .int .u32 (l : Int), .int .u32 (i : Int), .int .u32 (a : Int)] 23))
      (rcells k g l i a n o s m) #[.int .u32 (g : Int), .int .u32 (l : Int), .int .u32 (i : Int), .int .u32 (a : Int)] (w.heap.size + 1) 4 [low k, if o then 1 else 0, m / 256 % 256, m % 256] := by
    intro A hA
    subst hA
    have h1 := Blk.new w 30 (rcells k g l i a n o s m)
    have b1 := below_new w (.cells (rcells k g l i a n o s m) 30)
    have s1 := size_new w (.cells (rcells k g l i a n o s m) 30)
    generalize w.alloc (.cells (rcells k g l i a n o s m) 30) = w1 at *
    have h2 := Blk.new w1 5 (cls [low k, if o then 1 else 0, m / 256 % 256, m % 256])
    have b2 := next b1 (below_new w1 (.cells (cls [low k, if o then 1 else 0, m / 256 % 256, m % 256]) 5))
    have s2 := size_new w1 (.cells (cls [low k, if o then 1 else 0, m / 256 % 256, m % 256]) 5)
    replace h1 := h1.more (.cells (cls [low k, if o then 1 else 0, m / 256 % 256, m % 256]) 5)
    generalize w1.alloc (.cells (cls [low k, if o then 1 else 0, m / 256 % 256, m % 256]) 5) = w2 at *
    rw [s1] at h2 s2
    have h3 := Blk.new w2 23 #[.int .u32 (g : Int), .int .u32 (l : Int), .int .u32 (i : Int), .int .u32 (a : Int)]
    rw [s2] at h3
    exact ⟨Ob.of_blk (h2.more _) (by simp), h1.more _, h3, ⟨by omega, by omega⟩, next b2 (below_new w2 _)⟩
  have hH := head_cells k o m hm
  have H := Lib.hid (start _ hH)
  clear start hH
  obtain ⟨i0, hi0, hz0, hz1, hz2⟩ := info_parts byte_parts
  clear hi0 hz0 hz1 hz2
  cases o
  · go_enter Try.func10, Try.ntmps10
    go_wp2_with fail
    simp only [Bool.false_eq_true, if_false] at H
    generalize World.alloc _ (.cells _ 23) = u at *
    go_loopw [4, 35] (fun v c wr => ∃ j b cap len : Nat, j ≤ 4 ∧ c = .int .i64 j ∧ v = .slice (some ⟨b, 0, none⟩) len cap ∧ len = 4 + 4 * j ∧ By w wr (rcells k g l i a n false s m) #[.int .u32 (g : Int), .int .u32 (l : Int), .int .u32 (i : Int), .int .u32 (a : Int)] b cap (upto [low k, 0, m / 256 % 256, m % 256] [g, l, i, a] j)) (fun _ c _ => 4 - (intOf c).toNat)
    case atStart => exact ⟨0, _, _, _, by omega, rfl, rfl, rfl, H.out⟩
    case round =>
      clear H
      obtain ⟨j, b, cap, len, hj, rfl, rfl, hlen, hB⟩ := hrel
      by_cases hlt : j < 4
      · have cc : wr.cell? ⟨w.heap.size + 1 + 1, j, none⟩ = some (.int .u32 (([g, l, i, a].getD j 0 : Nat) : Int)) := (hB.2.2.1.at_ j).trans (nums_at g l i a hlt)
        have hq := nums_lt hg hl hi ha hlt
        have E : Hid (upto [low k, 0, m / 256 % 256, m % 256] [g, l, i, a] (j + 1) = upto [low k, 0, m / 256 % 256, m % 256] [g, l, i, a] j ++ four ([g, l, i, a].getD j 0)) := Lib.hid rfl
        have L : Hid ((upto [low k, 0, m / 256 % 256, m % 256] [g, l, i, a] j).length = len) := Lib.hid (by rw [upto_length, hlen]; rfl)
        generalize [g, l, i, a].getD j 0 = q at cc hq E
        have P := Lib.hid (And.intro hB hlen)
        clear hB hlen
        go_wp2_with fail
        refine (four_ans q hq _).mono ?_
        rintro e u1 ⟨rfl, hF, hb, hsz⟩
        obtain ⟨b', cap', u2, hrun, hO, hT, hw⟩ := run_app_n (P.out.1.held hb).1 L.out hF (by have := P.out.2; omega) 4 32
        have P2 := (P.out.1.held hb).app hO hT hw
        rw [← E.out] at P2
        have Q := Lib.hid (And.intro P2 P.out.2)
        clear P P2 hO hT hw hF hb cc E L
        go_wp2_with (at_builtin; refine Lib.wpList_append_run _ rfl (.tmp 39) (.tmp 41) 32 32 rfl _ _ rfl rfl _ _ hrun ?_)
        go_roundw
        case rel => exact ⟨j + 1, _, _, _, by omega, by go_num, rfl, by have := Q.out.2; omega, Q.out.1⟩
        case measure => simp [intOf]; omega
      · obtain rfl : j = 4 := by omega
        obtain rfl : len = 20 := by omega
        have c5 : wr.cell? ⟨w.heap.size, 5, none⟩ = some (.int .i64 n) := hB.2.1.at_ 5
        have hx := pad_at wr n
        have hbp := below_new wr (.cells #[.int .u8 (n % 256), .int .u8 0, .int .u8 0, .int .u8 0] 5)
        obtain ⟨b1, cap1, u1, hrun1, hO, hT, hw⟩ := run_app_n (hB.held hbp).1 rfl hx (by rw [upto_length]; simp) 4 32
        have P1 := Lib.hid ((hB.held hbp).app hO hT hw)
        clear hB hbp hx hO hT hw hlen hlt hj
        have c7 : u1.cell? ⟨w.heap.size, 7, none⟩ = some (.int .u32 s) := P1.out.2.1.at_ 7
        go_wp2_with (at_builtin; refine Lib.wpList_append_run _ rfl (.tmp 44) (.tmp 49) 32 32 rfl _ _ rfl rfl _ _ hrun1 ?_)
        refine (four_ans s hs _).mono ?_
        rintro e u2 ⟨rfl, hF, hb, hsz⟩
        obtain ⟨b3, cap3, u3, hrun3, hO, hT, hw⟩ := run_app_n (P1.out.held hb).1 rfl hF (by simp [upto_length]) 4 32
        have P3 := (P1.out.held hb).app hO hT hw
        clear hO hT hw hF hb hsz c5 c7 hrun1 P1
        obtain ⟨b4, cap4, u4, hrun4, hO, hT, hw⟩ := run_app_zeros (m := 16) P3.1 (by omega) (by simp [upto_length, four]) 32
        have P4 := P3.app hO hT hw
        clear hO hT hw P3
        have hbody := upto_body k g l i a n s m false
        simp only [Bool.false_eq_true, if_false] at hbody
        rw [hbody] at P4
        have BA := P4.1.bytes (body_lt _) (by rw [body_length]; omega)
        have W4 := Lib.hid (And.intro P4 BA)
        clear P4 BA hbody
        go_wp2_with (first | (at_builtin; refine Lib.wpList_append_run _ rfl (.tmp 51) (.tmp 55) 32 32 rfl _ _ rfl rfl _ _ hrun3 ?_) | (at_builtin; refine Lib.wpList_append_run _ rfl (.tmp 57) (.const (.int .i64 16)) 32 3 rfl _ _ rfl rfl _ _ hrun4 ?_))
        refine (ref_any _ _ _ _ _ W4.out.2).mono ?_
        rintro e w' ⟨rfl, rfl⟩
        have hlt := sum_lt ⟨k, g, l, i, a, n, false, s, m⟩
        go_wp2_with fail
        refine (four_ans _ hlt _).mono ?_
        rintro e u5 ⟨rfl, hF, hb, hsz⟩
        obtain ⟨b6, cap6, u6, hrun6, hO, hT, hw⟩ := run_app_n (W4.out.1.held hb).1 rfl hF (by rw [body_length]; omega) 4 32
        have P6 := Lib.hid ((W4.out.1.held hb).app hO hT hw)
        clear hO hT hw hF hb hsz W4 hrun3 hrun4
        go_wp2_with (at_builtin; refine Lib.wpList_append_run _ rfl (.tmp 59) (.tmp 62) 32 32 rfl _ _ rfl rfl _ _ hrun6 ?_)
        go_ret
        exact ⟨b6, cap6, rfl, P6.out.1, Nat.le_of_lt P6.out.2.2.2.1.1, P6.out.2.2.2.2⟩
  · go_enter Try.func10, Try.ntmps10
    go_wp2_with fail
    simp only [if_true] at H
    generalize World.alloc _ (.cells _ 23) = u at *
    go_loopw [4, 35] (fun v c wr => ∃ j b cap len : Nat, j ≤ 4 ∧ c = .int .i64 j ∧ v = .slice (some ⟨b, 0, none⟩) len cap ∧ len = 4 + 4 * j ∧ By w wr (rcells k g l i a n true s m) #[.int .u32 (g : Int), .int .u32 (l : Int), .int .u32 (i : Int), .int .u32 (a : Int)] b cap (upto [low k, 1, m / 256 % 256, m % 256] [g, l, i, a] j)) (fun _ c _ => 4 - (intOf c).toNat)
    case atStart => exact ⟨0, _, _, _, by omega, rfl, rfl, rfl, H.out⟩
    case round =>
      clear H
      obtain ⟨j, b, cap, len, hj, rfl, rfl, hlen, hB⟩ := hrel
      by_cases hlt : j < 4
      · have cc : wr.cell? ⟨w.heap.size + 1 + 1, j, none⟩ = some (.int .u32 (([g, l, i, a].getD j 0 : Nat) : Int)) := (hB.2.2.1.at_ j).trans (nums_at g l i a hlt)
        have hq := nums_lt hg hl hi ha hlt
        have E : Hid (upto [low k, 1, m / 256 % 256, m % 256] [g, l, i, a] (j + 1) = upto [low k, 1, m / 256 % 256, m % 256] [g, l, i, a] j ++ four ([g, l, i, a].getD j 0)) := Lib.hid rfl
        have L : Hid ((upto [low k, 1, m / 256 % 256, m % 256] [g, l, i, a] j).length = len) := Lib.hid (by rw [upto_length, hlen]; rfl)
        generalize [g, l, i, a].getD j 0 = q at cc hq E
        have P := Lib.hid (And.intro hB hlen)
        clear hB hlen
        go_wp2_with fail
        refine (four_ans q hq _).mono ?_
        rintro e u1 ⟨rfl, hF, hb, hsz⟩
        obtain ⟨b', cap', u2, hrun, hO, hT, hw⟩ := run_app_n (P.out.1.held hb).1 L.out hF (by have := P.out.2; omega) 4 32
        have P2 := (P.out.1.held hb).app hO hT hw
        rw [← E.out] at P2
        have Q := Lib.hid (And.intro P2 P.out.2)
        clear P P2 hO hT hw hF hb cc E L
        go_wp2_with (at_builtin; refine Lib.wpList_append_run _ rfl (.tmp 39) (.tmp 41) 32 32 rfl _ _ rfl rfl _ _ hrun ?_)
        go_roundw
        case rel => exact ⟨j + 1, _, _, _, by omega, by go_num, rfl, by have := Q.out.2; omega, Q.out.1⟩
        case measure => simp [intOf]; omega
      · obtain rfl : j = 4 := by omega
        obtain rfl : len = 20 := by omega
        have c5 : wr.cell? ⟨w.heap.size, 5, none⟩ = some (.int .i64 n) := hB.2.1.at_ 5
        have hx := pad_at wr n
        have hbp := below_new wr (.cells #[.int .u8 (n % 256), .int .u8 0, .int .u8 0, .int .u8 0] 5)
        obtain ⟨b1, cap1, u1, hrun1, hO, hT, hw⟩ := run_app_n (hB.held hbp).1 rfl hx (by rw [upto_length]; simp) 4 32
        have P1 := Lib.hid ((hB.held hbp).app hO hT hw)
        clear hB hbp hx hO hT hw hlen hlt hj
        have c7 : u1.cell? ⟨w.heap.size, 7, none⟩ = some (.int .u32 s) := P1.out.2.1.at_ 7
        go_wp2_with (at_builtin; refine Lib.wpList_append_run _ rfl (.tmp 44) (.tmp 49) 32 32 rfl _ _ rfl rfl _ _ hrun1 ?_)
        refine (four_ans s hs _).mono ?_
        rintro e u2 ⟨rfl, hF, hb, hsz⟩
        obtain ⟨b3, cap3, u3, hrun3, hO, hT, hw⟩ := run_app_n (P1.out.held hb).1 rfl hF (by simp [upto_length]) 4 32
        have P3 := (P1.out.held hb).app hO hT hw
        clear hO hT hw hF hb hsz c5 c7 hrun1 P1
        obtain ⟨b4, cap4, u4, hrun4, hO, hT, hw⟩ := run_app_zeros (m := 16) P3.1 (by omega) (by simp [upto_length, four]) 32
        have P4 := P3.app hO hT hw
        clear hO hT hw P3
        have hbody := upto_body k g l i a n s m true
        simp only [if_true] at hbody
        rw [hbody] at P4
        have BA := P4.1.bytes (body_lt _) (by rw [body_length]; omega)
        have W4 := Lib.hid (And.intro P4 BA)
        clear P4 BA hbody
        go_wp2_with (first | (at_builtin; refine Lib.wpList_append_run _ rfl (.tmp 51) (.tmp 55) 32 32 rfl _ _ rfl rfl _ _ hrun3 ?_) | (at_builtin; refine Lib.wpList_append_run _ rfl (.tmp 57) (.const (.int .i64 16)) 32 3 rfl _ _ rfl rfl _ _ hrun4 ?_))
        refine (ref_any _ _ _ _ _ W4.out.2).mono ?_
        rintro e w' ⟨rfl, rfl⟩
        have hlt := sum_lt ⟨k, g, l, i, a, n, true, s, m⟩
        go_wp2_with fail
        refine (four_ans _ hlt _).mono ?_
        rintro e u5 ⟨rfl, hF, hb, hsz⟩
        obtain ⟨b6, cap6, u6, hrun6, hO, hT, hw⟩ := run_app_n (W4.out.1.held hb).1 rfl hF (by rw [body_length]; omega) 4 32
        have P6 := Lib.hid ((W4.out.1.held hb).app hO hT hw)
        clear hO hT hw hF hb hsz W4 hrun3 hrun4
        go_wp2_with (at_builtin; refine Lib.wpList_append_run _ rfl (.tmp 59) (.tmp 62) 32 32 rfl _ _ rfl rfl _ _ hrun6 ?_)
        go_ret
        exact ⟨b6, cap6, rfl, P6.out.1, Nat.le_of_lt P6.out.2.2.2.1.1, P6.out.2.2.2.2⟩
end Go.Proofs.Ytbjminjcccflcaa
