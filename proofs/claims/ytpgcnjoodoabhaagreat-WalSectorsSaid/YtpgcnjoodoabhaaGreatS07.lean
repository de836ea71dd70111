/-
  The contract of the statement's Bytes.
  The contract of package rec's Of.
  Package wal: what a sector holds.
  Package wal: a region's record at a place.
-/
import Derived.Test.YtpgcnjoodoabhaaGreatS05
import Derived.Test.YtpgcnjoodoabhaaGreatS06
import Derived.Maps.RangeWalk
import Derived.Laws.ResultCell
import Derived.Laws.Rows
import Derived.Test.YtpgcnjoodoabhaaGreatS04
import Derived.Test.YtpgcnjoodoabhaaGreatS03
set_option maxRecDepth 20000
namespace Go.Proofs.YtpgcnjoodoabhaaGreat
open Go.RowKit Rm

theorem run_app_n {u : World} {g cap len : Nat} {bs : List Nat} (h : Ob u g cap bs) (hn : bs.length = len) {ad : Addr} {m : Nat} {news : List Nat} (hx : BytesAt u (some ad) m news) (hm : len + m ≤ 1000) (c : Nat) (ty : TypeId) :
    ∃ g' cap' u', (Builtin.append_ #[51, 51] ty #[.slice (some ⟨g, 0, none⟩) len cap, .slice (some ad) m c]).run Tryz.prog u = .ok (.slice (some ⟨g', 0, none⟩) (len + m) cap') u' ∧ Ob u' g' cap' (bs ++ news) ∧ Turn [g] u u' ∧ (g' = g ∨ u.heap.size ≤ g') := by
  subst hn
  exact run_app h hx hm c ty
theorem four_at {u : World} {g n : Nat} (h : Ob u g 4 (four n)) : BytesAt u (some ⟨g, 0, none⟩) 4 (four n) := h.bytes (four_lt n) (by simp [four])
/-- four, as what lies where -/
theorem four_ans (n : Nat) (hn : n < 4294967296) (w : World) :
    Calls Tryz.prog 47 #[.int .u32 n] w fun e w' => e = .returned (.slice (some ⟨w.heap.size, 0, none⟩) 4 4) ∧ BytesAt w' (some ⟨w.heap.size, 0, none⟩) 4 (four n) ∧ Below w.heap.size w w' ∧ w'.heap.size = w.heap.size + 1 :=
  (four_any n hn w).mono fun _ _ ⟨he, hw⟩ => by
    subst hw
    exact ⟨he, four_at (Ob.of_blk (Blk.new w _ _) (by simp [four])), below_new _ _, size_new _ _⟩

/-- under way: the bytes so far, the record, the numbers that are still to come -/
def By (w u : World) (rc nums : Array Value) (b cap : Nat) (bs : List Nat) : Prop :=
  Ob u b cap bs ∧ Blk 41 u w.heap.size rc ∧ Blk 31 u (w.heap.size + 1 + 1) nums ∧ (w.heap.size < b ∧ b ≠ w.heap.size + 1 + 1) ∧ Below w.heap.size w u
section
variable {w u u' : World} {rc nums : Array Value} {b cap b' cap' : Nat} {bs bs' : List Nat}
theorem By.held (h : By w u rc nums b cap bs) (hb : Below u.heap.size u u') : By w u' rc nums b cap bs := ⟨h.1.held hb, h.2.1.held hb, h.2.2.1.held hb, h.2.2.2.1, next h.2.2.2.2 hb⟩
theorem By.app (h : By w u rc nums b cap bs) (ho : Ob u' b' cap' bs') (hT : Turn [b] u u') (hw : b' = b ∨ u.heap.size ≤ b') : By w u' rc nums b' cap' bs' := by
  obtain ⟨h1, h2, h3, ⟨h4, h5⟩, h6⟩ := h
  have l1 := h2.lt
  have l2 := h3.lt
  exact ⟨ho, h2.turn hT (by simp; omega), h3.turn hT (by simp; omega), ⟨by omega, by omega⟩, h6.trans (hT.below (by simp; omega) h6.size)⟩
end
theorem Below.size_le {w u : World} (h : Below w.heap.size w u) : w.heap.size ≤ u.heap.size := h.size
/-- the bytes behind k of the numbers -/
def upto (h : List Nat) (q : List Nat) : Nat → List Nat
  | 0 => h
  | k + 1 => upto h q k ++ four (q.getD k 0)
theorem upto_length (h q : List Nat) : ∀ k, (upto h q k).length = h.length + 4 * k
  | 0 => rfl
  | k + 1 => by simp [upto, upto_length h q k, four]; omega
theorem nums_at (g l i a : Nat) {k : Nat} (hk : k < 4) : (#[.int .u32 (g : Int), .int .u32 (l : Int), .int .u32 (i : Int), .int .u32 (a : Int)] : Array Value)[k]? = some (.int .u32 (([g, l, i, a].getD k 0 : Nat) : Int)) := by
  have : k = 0 ∨ k = 1 ∨ k = 2 ∨ k = 3 := by omega
  rcases this with rfl | rfl | rfl | rfl <;> rfl
theorem nums_lt {g l i a : Nat} (hg : g < 4294967296) (hl : l < 4294967296) (hi : i < 4294967296) (ha : a < 4294967296) {k : Nat} (hk : k < 4) : [g, l, i, a].getD k 0 < 4294967296 := by
  have : k = 0 ∨ k = 1 ∨ k = 2 ∨ k = 3 := by omega
  rcases this with rfl | rfl | rfl | rfl <;> assumption
theorem head_cells (k : Int) (o : Bool) (m : Nat) (hm : m < 65536) : (#[.int .u8 (k % 256), .int .u8 (if o then 1 else 0), .int .u8 ((m : Int) / 256), .int .u8 ((m : Int) % 256)] : Array Value) = cls [low k, if o then 1 else 0, m / 256 % 256, m % 256] := by
  show _ = #[cell (low k), cell (if o then 1 else 0), cell (m / 256 % 256), cell (m % 256)]
  rw [← low_cell]
  unfold cell
  rw [show ((m / 256 % 256 : Nat) : Int) = (m : Int) / 256 by omega, show ((m % 256 : Nat) : Int) = (m : Int) % 256 by omega]
  cases o <;> rfl

theorem pad_at (w : World) (n : Int) : BytesAt (w.alloc (.cells #[.int .u8 (n % 256), .int .u8 0, .int .u8 0, .int .u8 0] 5)) (some ⟨w.heap.size, 0, none⟩) 4 [low n, 0, 0, 0] := by
  have h := Blk.new w 5 (cls [low n, 0, 0, 0])
  have e : (cls [low n, 0, 0, 0]) = #[.int .u8 (n % 256), .int .u8 0, .int .u8 0, .int .u8 0] := by
    rw [low_cell]
    rfl
  rw [e] at h
  rw [← e] at h ⊢
  exact BytesAt.cls h (by have := low_lt n; simp; omega) (by simp)
theorem upto_body (k : Int) (g l i a : Nat) (n : Int) (s m : Nat) (o : Bool) :
    (upto [low k, if o then 1 else 0, m / 256 % 256, m % 256] [g, l, i, a] 4 ++ [low n, 0, 0, 0]) ++ four s ++ List.replicate 16 0 = body ⟨k, g, l, i, a, n, o, s, m⟩ := by
  cases o <;> rfl

set_option maxHeartbeats 4000000 in
theorem bytes_any (k : Int) (g l i a : Nat) (n : Int) (o : Bool) (s m : Nat) (hg : g < 4294967296) (hl : l < 4294967296) (hi : i < 4294967296) (ha : a < 4294967296) (hs : s < 4294967296) (hm : m < 65536) (w : World) :
    Calls Tryz.prog 18 #[.agg (rcellsR k g l i a n o s m)] w fun e w' => ∃ b cap, e = .returned (.slice (some ⟨b, 0, none⟩) 48 cap) ∧ Ob w' b cap (Rm.bytes ⟨k, g, l, i, a, n, o, s, m⟩) ∧ w.heap.size ≤ b ∧ Below w.heap.size w w' := by
  have start : ∀ A : Array Value, A = cls [low k, if o then 1 else 0, m / 256 % 256, m % 256] → By w (((w.alloc (.cells (rcellsR k g l i a n o s m) 41)).alloc (.cells A 5)).alloc (.cells #[.int .u32 (g : Int), .int .u32 (l : Int), .int .u32 (i : Int), .int .u32 (a : Int)] 31))
      (rcellsR k g l i a n o s m) #[.int .u32 (g : Int), .int .u32 (l : Int), .int .u32 (i : Int), .int .u32 (a : Int)] (w.heap.size + 1) 4 [low k, if o then 1 else 0, m / 256 % 256, m % 256] := by
    intro A hA
    subst hA
    have h1 := Blk.new w 41 (rcellsR k g l i a n o s m)
    have b1 := below_new w (.cells (rcellsR k g l i a n o s m) 41)
    have s1 := size_new w (.cells (rcellsR k g l i a n o s m) 41)
    generalize w.alloc (.cells (rcellsR k g l i a n o s m) 41) = w1 at *
    have h2 := Blk.new w1 5 (cls [low k, if o then 1 else 0, m / 256 % 256, m % 256])
    have b2 := next b1 (below_new w1 (.cells (cls [low k, if o then 1 else 0, m / 256 % 256, m % 256]) 5))
    have s2 := size_new w1 (.cells (cls [low k, if o then 1 else 0, m / 256 % 256, m % 256]) 5)
    replace h1 := h1.more (.cells (cls [low k, if o then 1 else 0, m / 256 % 256, m % 256]) 5)
    generalize w1.alloc (.cells (cls [low k, if o then 1 else 0, m / 256 % 256, m % 256]) 5) = w2 at *
    rw [s1] at h2 s2
    have h3 := Blk.new w2 31 #[.int .u32 (g : Int), .int .u32 (l : Int), .int .u32 (i : Int), .int .u32 (a : Int)]
    rw [s2] at h3
    exact ⟨Ob.of_blk (h2.more _) (by simp), h1.more _, h3, ⟨by omega, by omega⟩, next b2 (below_new w2 _)⟩
  have hH := head_cells k o m hm
  have H := Lib.hid (start _ hH)
  clear start hH
  obtain ⟨i0, hi0, hz0, hz1, hz2⟩ := info_parts byte_parts
  clear hi0 hz0 hz1 hz2
  cases o
  · go_enter Tryz.func18, Tryz.ntmps18
    go_wp2_with fail
    simp only [Bool.false_eq_true, if_false] at H
    generalize World.alloc _ (.cells _ 31) = u at *
    go_loopw [4, 35] (fun v c wr => ∃ j b cap len : Nat, j ≤ 4 ∧ c = .int .i64 j ∧ v = .slice (some ⟨b, 0, none⟩) len cap ∧ len = 4 + 4 * j ∧ By w wr (rcellsR k g l i a n false s m) #[.int .u32 (g : Int), .int .u32 (l : Int), .int .u32 (i : Int), .int .u32 (a : Int)] b cap (upto [low k, 0, m / 256 % 256, m % 256] [g, l, i, a] j)) (fun _ c _ => 4 - (intOf c).toNat)
    case atStart => exact ⟨0, _, _, _, by omega, rfl, rfl, rfl, H.out⟩
    case round =>
      clear H
      obtain ⟨j, b, cap, len, hj, rfl, rfl, hlen, hB⟩ := hrel
      by_cases hlt : j < 4
      · have cc : wr.cell? ⟨w.heap.size + 1 + 1, j, none⟩ = some (.int .u32 (([g, l, i, a].getD j 0 : Nat) : Int)) := (hB.2.2.1.at_ j).trans (nums_at g l i a hlt)
        have hq := nums_lt hg hl hi ha hlt
        have E : Hid (upto [low k, 0, m / 256 % 256, m % 256] [g, l, i, a] (j + 1) = upto [low k, 0, m / 256 % 256, m % 256] [g, l, i, a] j ++ four ([g, l, i, a].getD j 0)) := Lib.hid rfl
        have L : Hid ((upto [low k, 0, m / 256 % 256, m % 256] [g, l, i, a] j).length = len) := Lib.hid (by rw [upto_length, hlen]; rfl)
        generalize [g, l, i, a].getD j 0 = q at cc hq E
        have P := Lib.hid (And.intro hB hlen)
        clear hB hlen
        go_wp2_with fail
        refine (four_ans q hq _).mono ?_
        rintro e u1 ⟨rfl, hF, hb, hsz⟩
        obtain ⟨b', cap', u2, hrun, hO, hT, hw⟩ := run_app_n (P.out.1.held hb).1 L.out hF (by have := P.out.2; omega) 4 51
        have P2 := (P.out.1.held hb).app hO hT hw
        rw [← E.out] at P2
        have Q := Lib.hid (And.intro P2 P.out.2)
        clear P P2 hO hT hw hF hb cc E L
        go_wp2_with (at_builtin; refine Lib.wpList_append_run _ rfl (.tmp 39) (.tmp 41) 51 51 rfl _ _ rfl rfl _ _ hrun ?_)
        go_roundw
        case rel => exact ⟨j + 1, _, _, _, by omega, by go_num, rfl, by have := Q.out.2; omega, Q.out.1⟩
        case measure => simp [intOf]; omega
      · obtain rfl : j = 4 := by omega
        obtain rfl : len = 20 := by omega
        have c5 : wr.cell? ⟨w.heap.size, 5, none⟩ = some (.int .i64 n) := hB.2.1.at_ 5
        have hx := pad_at wr n
        have hbp := below_new wr (.cells #[.int .u8 (n % 256), .int .u8 0, .int .u8 0, .int .u8 0] 5)
        obtain ⟨b1, cap1, u1, hrun1, hO, hT, hw⟩ := run_app_n (hB.held hbp).1 rfl hx (by rw [upto_length]; simp) 4 51
        have P1 := Lib.hid ((hB.held hbp).app hO hT hw)
        clear hB hbp hx hO hT hw hlen hlt hj
        have c7 : u1.cell? ⟨w.heap.size, 7, none⟩ = some (.int .u32 s) := P1.out.2.1.at_ 7
        go_wp2_with (at_builtin; refine Lib.wpList_append_run _ rfl (.tmp 44) (.tmp 49) 51 51 rfl _ _ rfl rfl _ _ hrun1 ?_)
        refine (four_ans s hs _).mono ?_
        rintro e u2 ⟨rfl, hF, hb, hsz⟩
        obtain ⟨b3, cap3, u3, hrun3, hO, hT, hw⟩ := run_app_n (P1.out.held hb).1 rfl hF (by simp [upto_length]) 4 51
        have P3 := (P1.out.held hb).app hO hT hw
        clear hO hT hw hF hb hsz c5 c7 hrun1 P1
        obtain ⟨b4, cap4, u4, hrun4, hO, hT, hw⟩ := run_app_zeros (m := 16) P3.1 (by omega) (by simp [upto_length, four]) 51
        have P4 := P3.app hO hT hw
        clear hO hT hw P3
        have hbody := upto_body k g l i a n s m false
        simp only [Bool.false_eq_true, if_false] at hbody
        rw [hbody] at P4
        have BA := P4.1.bytes (body_lt _) (by rw [body_length]; omega)
        have W4 := Lib.hid (And.intro P4 BA)
        clear P4 BA hbody
        go_wp2_with (first | (at_builtin; refine Lib.wpList_append_run _ rfl (.tmp 51) (.tmp 55) 51 51 rfl _ _ rfl rfl _ _ hrun3 ?_) | (at_builtin; refine Lib.wpList_append_run _ rfl (.tmp 57) (.const (.int .i64 16)) 51 3 rfl _ _ rfl rfl _ _ hrun4 ?_))
        refine (ref_any _ _ _ _ _ W4.out.2).mono ?_
        rintro e w' ⟨rfl, rfl⟩
        have hlt := sum_lt ⟨k, g, l, i, a, n, false, s, m⟩
        go_wp2_with fail
        refine (four_ans _ hlt _).mono ?_
        rintro e u5 ⟨rfl, hF, hb, hsz⟩
        obtain ⟨b6, cap6, u6, hrun6, hO, hT, hw⟩ := run_app_n (W4.out.1.held hb).1 rfl hF (by rw [body_length]; omega) 4 51
        have P6 := Lib.hid ((W4.out.1.held hb).app hO hT hw)
        clear hO hT hw hF hb hsz W4 hrun3 hrun4
        go_wp2_with (at_builtin; refine Lib.wpList_append_run _ rfl (.tmp 59) (.tmp 62) 51 51 rfl _ _ rfl rfl _ _ hrun6 ?_)
        go_ret
        exact ⟨b6, cap6, rfl, P6.out.1, Nat.le_of_lt P6.out.2.2.2.1.1, P6.out.2.2.2.2⟩
  · go_enter Tryz.func18, Tryz.ntmps18
    go_wp2_with fail
    simp only [if_true] at H
    generalize World.alloc _ (.cells _ 31) = u at *
    go_loopw [4, 35] (fun v c wr => ∃ j b cap len : Nat, j ≤ 4 ∧ c = .int .i64 j ∧ v = .slice (some ⟨b, 0, none⟩) len cap ∧ len = 4 + 4 * j ∧ By w wr (rcellsR k g l i a n true s m) #[.int .u32 (g : Int), .int .u32 (l : Int), .int .u32 (i : Int), .int .u32 (a : Int)] b cap (upto [low k, 1, m / 256 % 256, m % 256] [g, l, i, a] j)) (fun _ c _ => 4 - (intOf c).toNat)
    case atStart => exact ⟨0, _, _, _, by omega, rfl, rfl, rfl, H.out⟩
    case round =>
      clear H
      obtain ⟨j, b, cap, len, hj, rfl, rfl, hlen, hB⟩ := hrel
      by_cases hlt : j < 4
      · have cc : wr.cell? ⟨w.heap.size + 1 + 1, j, none⟩ = some (.int .u32 (([g, l, i, a].getD j 0 : Nat) : Int)) := (hB.2.2.1.at_ j).trans (nums_at g l i a hlt)
        have hq := nums_lt hg hl hi ha hlt
        have E : Hid (upto [low k, 1, m / 256 % 256, m % 256] [g, l, i, a] (j + 1) = upto [low k, 1, m / 256 % 256, m % 256] [g, l, i, a] j ++ four ([g, l, i, a].getD j 0)) := Lib.hid rfl
        have L : Hid ((upto [low k, 1, m / 256 % 256, m % 256] [g, l, i, a] j).length = len) := Lib.hid (by rw [upto_length, hlen]; rfl)
        generalize [g, l, i, a].getD j 0 = q at cc hq E
        have P := Lib.hid (And.intro hB hlen)
        clear hB hlen
        go_wp2_with fail
        refine (four_ans q hq _).mono ?_
        rintro e u1 ⟨rfl, hF, hb, hsz⟩
        obtain ⟨b', cap', u2, hrun, hO, hT, hw⟩ := run_app_n (P.out.1.held hb).1 L.out hF (by have := P.out.2; omega) 4 51
        have P2 := (P.out.1.held hb).app hO hT hw
        rw [← E.out] at P2
        have Q := Lib.hid (And.intro P2 P.out.2)
        clear P P2 hO hT hw hF hb cc E L
        go_wp2_with (at_builtin; refine Lib.wpList_append_run _ rfl (.tmp 39) (.tmp 41) 51 51 rfl _ _ rfl rfl _ _ hrun ?_)
        go_roundw
        case rel => exact ⟨j + 1, _, _, _, by omega, by go_num, rfl, by have := Q.out.2; omega, Q.out.1⟩
        case measure => simp [intOf]; omega
      · obtain rfl : j = 4 := by omega
        obtain rfl : len = 20 := by omega
        have c5 : wr.cell? ⟨w.heap.size, 5, none⟩ = some (.int .i64 n) := hB.2.1.at_ 5
        have hx := pad_at wr n
        have hbp := below_new wr (.cells #[.int .u8 (n % 256), .int .u8 0, .int .u8 0, .int .u8 0] 5)
        obtain ⟨b1, cap1, u1, hrun1, hO, hT, hw⟩ := run_app_n (hB.held hbp).1 rfl hx (by rw [upto_length]; simp) 4 51
        have P1 := Lib.hid ((hB.held hbp).app hO hT hw)
        clear hB hbp hx hO hT hw hlen hlt hj
        have c7 : u1.cell? ⟨w.heap.size, 7, none⟩ = some (.int .u32 s) := P1.out.2.1.at_ 7
        go_wp2_with (at_builtin; refine Lib.wpList_append_run _ rfl (.tmp 44) (.tmp 49) 51 51 rfl _ _ rfl rfl _ _ hrun1 ?_)
        refine (four_ans s hs _).mono ?_
        rintro e u2 ⟨rfl, hF, hb, hsz⟩
        obtain ⟨b3, cap3, u3, hrun3, hO, hT, hw⟩ := run_app_n (P1.out.held hb).1 rfl hF (by simp [upto_length]) 4 51
        have P3 := (P1.out.held hb).app hO hT hw
        clear hO hT hw hF hb hsz c5 c7 hrun1 P1
        obtain ⟨b4, cap4, u4, hrun4, hO, hT, hw⟩ := run_app_zeros (m := 16) P3.1 (by omega) (by simp [upto_length, four]) 51
        have P4 := P3.app hO hT hw
        clear hO hT hw P3
        have hbody := upto_body k g l i a n s m true
        simp only [if_true] at hbody
        rw [hbody] at P4
        have BA := P4.1.bytes (body_lt _) (by rw [body_length]; omega)
        have W4 := Lib.hid (And.intro P4 BA)
        clear P4 BA hbody
        go_wp2_with (first | (at_builtin; refine Lib.wpList_append_run _ rfl (.tmp 51) (.tmp 55) 51 51 rfl _ _ rfl rfl _ _ hrun3 ?_) | (at_builtin; refine Lib.wpList_append_run _ rfl (.tmp 57) (.const (.int .i64 16)) 51 3 rfl _ _ rfl rfl _ _ hrun4 ?_))
        refine (ref_any _ _ _ _ _ W4.out.2).mono ?_
        rintro e w' ⟨rfl, rfl⟩
        have hlt := sum_lt ⟨k, g, l, i, a, n, true, s, m⟩
        go_wp2_with fail
        refine (four_ans _ hlt _).mono ?_
        rintro e u5 ⟨rfl, hF, hb, hsz⟩
        obtain ⟨b6, cap6, u6, hrun6, hO, hT, hw⟩ := run_app_n (W4.out.1.held hb).1 rfl hF (by rw [body_length]; omega) 4 51
        have P6 := Lib.hid ((W4.out.1.held hb).app hO hT hw)
        clear hO hT hw hF hb hsz W4 hrun3 hrun4
        go_wp2_with (at_builtin; refine Lib.wpList_append_run _ rfl (.tmp 59) (.tmp 62) 51 51 rfl _ _ rfl rfl _ _ hrun6 ?_)
        go_ret
        exact ⟨b6, cap6, rfl, P6.out.1, Nat.le_of_lt P6.out.2.2.2.1.1, P6.out.2.2.2.2⟩
end Go.Proofs.YtpgcnjoodoabhaaGreat

set_option maxRecDepth 20000
namespace Go.Proofs.YtpgcnjoodoabhaaGreat
open Go.RowKit Rm

theorem val_two (x y : Nat) : val [x, y] = x * 256 + y := by simp [val]
theorem val_four (x y z u : Nat) : val [x, y, z, u] = ((x * 256 + y) * 256 + z) * 256 + u := by simp [val]
/-- a part of bytes -/
theorem BytesAt.part {w : World} {ad : Addr} {n : Nat} {bs : List Nat} (h : BytesAt w (some ad) n bs) (o m : Nat) (hm : o + m ≤ n) : BytesAt w (some (ad.add o)) m ((bs.drop o).take m) := by
  obtain ⟨h1, h2, h3, h4⟩ := h
  refine ⟨by simp; omega, by omega, fun c hc => h3 c (List.mem_of_mem_drop (List.mem_of_mem_take hc)), fun k hk => ?_⟩
  obtain ⟨ad', e, hc⟩ := h4 (o + k) (by omega)
  cases e
  refine ⟨_, rfl, ?_⟩
  rw [Addr.add_add, hc]
  congr 3
  have h5 : o + k < bs.length := by omega
  simp [List.getD, hk, h5]
theorem part_four {bs : List Nat} (h : bs.length = 48) (o : Nat) (ho : o + 4 ≤ 48) : (bs.drop o).take 4 = [bs.getD o 0, bs.getD (o + 1) 0, bs.getD (o + 2) 0, bs.getD (o + 3) 0] := by
  apply List.ext_getElem
  · simp; omega
  · intro k h1 h2
    have hk : k < 4 := by simpa using h2
    have : k = 0 ∨ k = 1 ∨ k = 2 ∨ k = 3 := by omega
    rcases this with rfl | rfl | rfl | rfl <;> simp [List.getD, show o < bs.length by omega, show o + 1 < bs.length by omega, show o + 2 < bs.length by omega, show o + 3 < bs.length by omega]
theorem part_two {bs : List Nat} (h : bs.length = 48) (o : Nat) (ho : o + 2 ≤ 48) : (bs.drop o).take 2 = [bs.getD o 0, bs.getD (o + 1) 0] := by
  apply List.ext_getElem
  · simp; omega
  · intro k h1 h2
    have hk : k < 2 := by simpa using h2
    have : k = 0 ∨ k = 1 := by omega
    rcases this with rfl | rfl <;> simp [List.getD, show o < bs.length by omega, show o + 1 < bs.length by omega]
/-- get of four bytes, of two -/
theorem get_four {w : World} {ad : Addr} {cap : Nat} {bs : List Nat} (h : BytesAt w (some ad) 48 bs) (o : Nat) (ho : o + 4 ≤ 48) :
    Calls Tryz.prog 85 #[.slice (some (ad.add o)) 4 cap] w fun e w' => e = .returned (.int .u32 (num4 bs o : Nat)) ∧ w = w' := by
  have k := get_any _ 4 cap _ w (h.part o 4 ho) (by omega)
  rwa [part_four h.1 o ho, val_four] at k
theorem get_two {w : World} {ad : Addr} {cap : Nat} {bs : List Nat} (h : BytesAt w (some ad) 48 bs) (o : Nat) (ho : o + 2 ≤ 48) :
    Calls Tryz.prog 85 #[.slice (some (ad.add o)) 2 cap] w fun e w' => e = .returned (.int .u32 (num2 bs o : Nat)) ∧ w = w' := by
  have k := get_any _ 2 cap _ w (h.part o 2 ho) (by omega)
  rwa [part_two h.1 o ho, val_two] at k
theorem BytesAt.at_ {w : World} {ad : Addr} {n : Nat} {bs : List Nat} (h : BytesAt w (some ad) n bs) {k : Nat} (hk : k < n) : w.cell? (ad.add k) = some (.int .u8 (bs.getD k 0 : Nat)) := by
  obtain ⟨ad', e, hc⟩ := h.2.2.2 k hk
  cases e
  exact hc

set_option maxHeartbeats 2000000 in
theorem of_short (A : Option Addr) (n cap : Nat) (w : World) (hn : n ≠ 48) (hn2 : n ≤ maxLen) :
    Calls Tryz.prog 70 #[.slice A n cap] w fun e w' => e = .returned (.tuple #[Rm.zero.val, .bool false]) ∧ Below w.heap.size w w' := by
  have d1 : ((n : Int) == 48) = false := beq_eq_false_iff_ne.2 (by omega)
  have hn3 : n ≤ 9223372036854775807 := by unfold maxLen at hn2; omega
  clear hn
  go_enter Tryz.func70, Tryz.ntmps70
  go_wp2
  refine bodyPost_ret (v := .tuple #[Rm.zero.val, .bool false]) ?_ rfl ⟨rfl, below_new _ _⟩
  simp [results, Tryz.results70, go_sem]
  rfl

theorem cut2 (b off cap : Nat) (hcap : 48 ≤ cap) (w : World) : (Instr.slice 51 (.slice (some ⟨b, off, none⟩) 48 cap) (some (.int .i64 2)) (some (.int .i64 4)) none).run Tryz.prog w = .ok (.slice (some ⟨b, off + 2, none⟩) 2 (cap - 2)) w := by
  have d1 : (4 : Int) ≤ (cap : Int) := by omega
  have d2 : ¬ cap = 2 := by omega
  go_simp
theorem cut4 (b off cap : Nat) (hcap : 48 ≤ cap) (w : World) : (Instr.slice 51 (.slice (some ⟨b, off, none⟩) 48 cap) (some (.int .i64 4)) (some (.int .i64 8)) none).run Tryz.prog w = .ok (.slice (some ⟨b, off + 4, none⟩) 4 (cap - 4)) w := by
  have d1 : (8 : Int) ≤ (cap : Int) := by omega
  have d2 : ¬ cap = 4 := by omega
  go_simp
theorem cut8 (b off cap : Nat) (hcap : 48 ≤ cap) (w : World) : (Instr.slice 51 (.slice (some ⟨b, off, none⟩) 48 cap) (some (.int .i64 8)) (some (.int .i64 12)) none).run Tryz.prog w = .ok (.slice (some ⟨b, off + 8, none⟩) 4 (cap - 8)) w := by
  have d1 : (12 : Int) ≤ (cap : Int) := by omega
  have d2 : ¬ cap = 8 := by omega
  go_simp
theorem cut12 (b off cap : Nat) (hcap : 48 ≤ cap) (w : World) : (Instr.slice 51 (.slice (some ⟨b, off, none⟩) 48 cap) (some (.int .i64 12)) (some (.int .i64 16)) none).run Tryz.prog w = .ok (.slice (some ⟨b, off + 12, none⟩) 4 (cap - 12)) w := by
  have d1 : (16 : Int) ≤ (cap : Int) := by omega
  have d2 : ¬ cap = 12 := by omega
  go_simp
theorem cut16 (b off cap : Nat) (hcap : 48 ≤ cap) (w : World) : (Instr.slice 51 (.slice (some ⟨b, off, none⟩) 48 cap) (some (.int .i64 16)) (some (.int .i64 20)) none).run Tryz.prog w = .ok (.slice (some ⟨b, off + 16, none⟩) 4 (cap - 16)) w := by
  have d1 : (20 : Int) ≤ (cap : Int) := by omega
  have d2 : ¬ cap = 16 := by omega
  go_simp
theorem cut24 (b off cap : Nat) (hcap : 48 ≤ cap) (w : World) : (Instr.slice 51 (.slice (some ⟨b, off, none⟩) 48 cap) (some (.int .i64 24)) (some (.int .i64 28)) none).run Tryz.prog w = .ok (.slice (some ⟨b, off + 24, none⟩) 4 (cap - 24)) w := by
  have d1 : (28 : Int) ≤ (cap : Int) := by omega
  have d2 : ¬ cap = 24 := by omega
  go_simp

/-- get of each part of 48 bytes -/
structure Gets (b off cap : Nat) (bs : List Nat) (x2 x4 x8 x12 x16 x24 : Nat) : Prop where
  g2 : ∀ wx : World, BytesAt wx (some ⟨b, off, none⟩) 48 bs → Calls Tryz.prog 85 #[.slice (some ⟨b, off + 2, none⟩) 2 (cap - 2)] wx fun e w' => e = .returned (.int .u32 (x2 : Nat)) ∧ wx = w'
  g4 : ∀ wx : World, BytesAt wx (some ⟨b, off, none⟩) 48 bs → Calls Tryz.prog 85 #[.slice (some ⟨b, off + 4, none⟩) 4 (cap - 4)] wx fun e w' => e = .returned (.int .u32 (x4 : Nat)) ∧ wx = w'
  g8 : ∀ wx : World, BytesAt wx (some ⟨b, off, none⟩) 48 bs → Calls Tryz.prog 85 #[.slice (some ⟨b, off + 8, none⟩) 4 (cap - 8)] wx fun e w' => e = .returned (.int .u32 (x8 : Nat)) ∧ wx = w'
  g12 : ∀ wx : World, BytesAt wx (some ⟨b, off, none⟩) 48 bs → Calls Tryz.prog 85 #[.slice (some ⟨b, off + 12, none⟩) 4 (cap - 12)] wx fun e w' => e = .returned (.int .u32 (x12 : Nat)) ∧ wx = w'
  g16 : ∀ wx : World, BytesAt wx (some ⟨b, off, none⟩) 48 bs → Calls Tryz.prog 85 #[.slice (some ⟨b, off + 16, none⟩) 4 (cap - 16)] wx fun e w' => e = .returned (.int .u32 (x16 : Nat)) ∧ wx = w'
  g24 : ∀ wx : World, BytesAt wx (some ⟨b, off, none⟩) 48 bs → Calls Tryz.prog 85 #[.slice (some ⟨b, off + 24, none⟩) 4 (cap - 24)] wx fun e w' => e = .returned (.int .u32 (x24 : Nat)) ∧ wx = w'
theorem gets (b off cap : Nat) (bs : List Nat) : Gets b off cap bs (num2 bs 2) (num4 bs 4) (num4 bs 8) (num4 bs 12) (num4 bs 16) (num4 bs 24) :=
  ⟨fun _ h => get_two h 2 (by omega), fun _ h => get_four h 4 (by omega), fun _ h => get_four h 8 (by omega), fun _ h => get_four h 12 (by omega), fun _ h => get_four h 16 (by omega), fun _ h => get_four h 24 (by omega)⟩

theorem rec_underR : ∃ d, Tryz.prog.underlying 41 = some d ∧ d.isRow = true := ⟨_, rfl, rfl⟩
theorem rec_info (k : Int) (g l i a : Nat) (n : Int) (o : Bool) (s m : Nat) : (Tryz.prog.info? 41).map (·.size) = some (rcellsR k g l i a n o s m).size := by
  show _ = some 9
  kernel_rfl
theorem results_rec {fn : Func} {p u : Tmp} (h : fn.results = #[.cell p 41, .tmp u]) {tmps : Array Value} {w : World} {g : Nat} {k : Int} {g' l i a : Nat} {n : Int} {o : Bool} {s m : Nat} {v : Value} (hp : tmps.getD p undef = .pointer (some ⟨g, 0, none⟩)) (hu : tmps.getD u undef = v)
    (hb : Blk 41 w g (rcellsR k g' l i a n o s m)) : (results fn tmps).run Tryz.prog w = .ok (.tuple #[.agg (rcellsR k g' l i a n o s m), v]) w := by
  obtain ⟨d, h1, h2⟩ := rec_underR
  rw [results_cell_tmp h, hp, hu]
  have hl := run_loadVar_row (P := Tryz.prog) w g 41 41 _ (0, 0) d hb h1 (by cases d <;> first | rfl | cases h2) (rec_info k g' l i a n o s m)
  simp [asAddr, hl]
theorem Blk.rec_there {w : World} {g : Nat} {t : TypeId} {k : Int} {g' l i a : Nat} {n : Int} {o : Bool} {s m : Nat} (h : Blk t w g (rcellsR k g' l i a n o s m)) : w.there g 0 9 := fun j hj => by
  rw [Nat.zero_add]
  refine ⟨?_, h.free j⟩
  rw [h.at_ j, Array.getElem?_eq_getElem (show j < (rcellsR k g' l i a n o s m).size from hj)]
  rfl
theorem Blk.rec_rangeR {w : World} {g : Nat} {t : TypeId} {C : Array Value} (h : Blk t w g C) : w.rangeAt g 0 C.toList := fun j v hv => by
  rw [Nat.zero_add, h.at_ j]
  simpa using hv
theorem rec_one (k : Int) (g l i a : Nat) (n : Int) (o : Bool) (s m : Nat) : (rcellsR k g l i a n o s m).all (·.oneCell') = true := by simp [rcellsR, Value.oneCell']
theorem over_whole (vs : List Value) (C : Array Value) (h : C.size = vs.length) : over C 0 vs = vs.toArray := by
  apply Array.ext_getElem?
  intro k
  rw [over_get _ _ _ (by omega), Nat.zero_add]
  by_cases hk : k < vs.length
  · rw [if_pos (by omega)]; simp
  · rw [if_neg (by omega), Array.getElem?_eq_none (by omega), Array.getElem?_eq_none (by simp; omega)]
/-- a record laid over another -/
theorem Blk.rec_over {w : World} {b : Nat} {t : TypeId} {k : Int} {g l i a : Nat} {n : Int} {o : Bool} {s m : Nat} {k' : Int} {g' l' i' a' : Nat} {n' : Int} {o' : Bool} {s' m' : Nat} (h : Blk t w b (rcellsR k g l i a n o s m)) :
    Blk t (w.setCells b 0 (rcellsR k' g' l' i' a' n' o' s' m').toList) b (rcellsR k' g' l' i' a' n' o' s' m') := by
  have h2 := h.setCells (rcellsR k' g' l' i' a' n' o' s' m').toList 0
  rwa [over_whole _ _ (by rfl)] at h2
theorem of_none_right {bs : List Nat} {r : Rc} (hp : parse bs = r) (h : right r = false) : Rm.of bs = none := by
  unfold Rm.of
  rw [hp, if_neg (by simp [h])]
theorem of_none_bytes {bs : List Nat} {r : Rc} (hp : parse bs = r) (h : ¬ Rm.bytes r = bs) : Rm.of bs = none := by
  unfold Rm.of
  rw [hp, if_neg (by simp [h])]
theorem of_some {bs : List Nat} {r : Rc} (hp : parse bs = r) (hl : bs.length = 48) (hr : right r = true) (h : Rm.bytes r = bs) : Rm.of bs = some r := by
  unfold Rm.of
  rw [hp, if_pos ⟨hl, hr, h⟩]
theorem nil_at (w : World) : BytesAt w none 0 [] := ⟨rfl, maxLen_small (by omega), by simp, fun k hk => absurd hk (by omega)⟩

set_option maxHeartbeats 2000000 in
theorem of_long (b off cap : Nat) (hcap : 48 ≤ cap) (bs : List Nat) (w : World) (h : BytesAt w (some ⟨b, off, none⟩) 48 bs) :
    Calls Tryz.prog 70 #[.slice (some ⟨b, off, none⟩) 48 cap] w fun e w' => e = .returned (.tuple #[((Rm.of bs).getD Rm.zero).val, .bool (Rm.of bs).isSome]) ∧ Below w.heap.size w w' := by
  have s2 := cut2 b off cap hcap
  have s4 := cut4 b off cap hcap
  have s8 := cut8 b off cap hcap
  have s12 := cut12 b off cap hcap
  have s16 := cut16 b off cap hcap
  have s24 := cut24 b off cap hcap
  go_enter Tryz.func70, Tryz.ntmps70
  go_wp2_with fail
  have hZ := Blk.new w 41 #[.int .i64 0, .int .u32 0, .int .u32 0, .int .u32 0, .int .u32 0, .int .i64 0, .bool false, .int .u32 0, .int .u16 0]
  have hb := below_new w (.cells #[.int .i64 0, .int .u32 0, .int .u32 0, .int .u32 0, .int .u32 0, .int .i64 0, .bool false, .int .u32 0, .int .u16 0] 41)
  have hB := h.held hb
  have hsz := size_new w (.cells #[.int .i64 0, .int .u32 0, .int .u32 0, .int .u32 0, .int .u32 0, .int .i64 0, .bool false, .int .u32 0, .int .u16 0] 41)
  generalize w.alloc _ = w2 at *
  have c0 : w2.cell? ⟨b, off, none⟩ = some (.int .u8 (bs.getD 0 0 : Nat)) := hB.at_ (k := 0) (by omega)
  have c1 : w2.cell? ⟨b, off + 1, none⟩ = some (.int .u8 (bs.getD 1 0 : Nat)) := hB.at_ (k := 1) (by omega)
  have c20 : w2.cell? ⟨b, off + 20, none⟩ = some (.int .u8 (bs.getD 20 0 : Nat)) := hB.at_ (k := 20) (by omega)
  have Z := Lib.hid (And.intro hZ hb)
  clear hZ hb h
  have G := gets b off cap bs
  have e0 := hB.lt 0
  have e20 := hB.lt 20
  generalize hv0 : bs.getD 0 0 = v0 at *
  generalize hv1 : bs.getD 1 0 = v1 at *
  generalize hv20 : bs.getD 20 0 = v20 at *
  have hpf := parse_fits hB.2.2.1
  have hpx : parse bs = ⟨v0, num4 bs 4, num4 bs 8, num4 bs 12, num4 bs 16, v20, v1 == 1, num4 bs 24, num2 bs 2⟩ := by
    unfold parse
    rw [hv0, hv1, hv20]
  have q0 : IntKind.i64.wrap (v0 : Int) = v0 := by rw [IntKind.wrap_i64]; omega
  have q20 : IntKind.i64.wrap (v20 : Int) = v20 := by rw [IntKind.wrap_i64]; omega
  have hn2 := num2_lt hB.2.2.1 2
  clear hv0 hv1 hv20
  generalize num4 bs 4 = g at *
  generalize num4 bs 8 = l at *
  generalize num4 bs 12 = i at *
  generalize num4 bs 16 = a at *
  generalize num4 bs 24 = s at *
  generalize num2 bs 2 = m at *
  have q2 : IntKind.u16.wrap (m : Int) = m := by simp [IntKind.wrap, IntKind.bits, IntKind.signed]; omega
  have q1 : ((v1 : Int) == 1) = (v1 == 1) := by rw [Bool.eq_iff_iff]; simp; omega
  generalize (v1 == 1) = o at *
  have V := Lib.hid (And.intro hpx hpf)
  clear hpx hpf
  replace G := Lib.hid G
  have hBe : BytesAt (w2.alloc (.cells #[.int .i64 0, .int .u32 0, .int .u32 0, .int .u32 0, .int .u32 0, .int .i64 0, .bool false, .int .u32 0, .int .u16 0] 41)).drew (some ⟨b, off, none⟩) 48 bs := hB.held (below_new _ _).drew
  have hBd : BytesAt w2.drew (some ⟨b, off, none⟩) 48 bs := hB
  go_region_held3 (fun w' => w'.cell? ⟨b, off, none⟩ = some (.int .u8 (v0 : Nat)) ∧ w'.cell? ⟨b, off + 1, none⟩ = some (.int .u8 (v1 : Nat)) ∧ w'.cell? ⟨b, off + 20, none⟩ = some (.int .u8 (v20 : Nat)))
    (first | exact ⟨c0, c1, c20⟩ | exact ⟨held (below_new _ _) c0, held (below_new _ _) c1, held (below_new _ _) c20⟩ | go_keep)
    (first | (go_at_call 85; with_reducible refine (G.out.g2 _ (by first | exact hBd | exact hBe)).mono ?_; rintro e w' ⟨rfl, rfl⟩) | (go_at_call 85; with_reducible refine (G.out.g4 _ (by first | exact hBd | exact hBe)).mono ?_; rintro e w' ⟨rfl, rfl⟩) | (go_at_call 85; with_reducible refine (G.out.g8 _ (by first | exact hBd | exact hBe)).mono ?_; rintro e w' ⟨rfl, rfl⟩) | (go_at_call 85; with_reducible refine (G.out.g12 _ (by first | exact hBd | exact hBe)).mono ?_; rintro e w' ⟨rfl, rfl⟩) | (go_at_call 85; with_reducible refine (G.out.g16 _ (by first | exact hBd | exact hBe)).mono ?_; rintro e w' ⟨rfl, rfl⟩) | (go_at_call 85; with_reducible refine (G.out.g24 _ (by first | exact hBd | exact hBe)).mono ?_; rintro e w' ⟨rfl, rfl⟩))
  all_goals
    have hX := Blk.new w2 41 (rcellsR v0 g l i a v20 o s m)
    have hY : Blk 41 (w2.alloc (.cells (rcellsR v0 g l i a v20 o s m) 41)) w.heap.size (rcellsR 0 0 0 0 0 0 false 0 0) := Z.out.1.more _
    have hb2 := next Z.out.2 (below_new w2 (.cells (rcellsR v0 g l i a v20 o s m) 41))
    have hB2 := hB.held (below_new w2 (.cells (rcellsR v0 g l i a v20 o s m) 41))
    rw [hsz] at hX
    generalize hu : w2.alloc (.cells (rcellsR v0 g l i a v20 o s m) 41) = u at *
    have T := Lib.hid (And.intro hX.drew (And.intro hY.drew (And.intro hb2.drew (show BytesAt u.drew (some ⟨b, off, none⟩) 48 bs from hB2))))
    clear hBe hBd hB2 hX hY hb2 hu c0 c1 c20 q0 q1 q2 q20 hB Z G s2 s4 s8 s12 s16 s24
    generalize u.drew = x at *
    obtain ⟨D, hD1, hD2⟩ := rec_underR
    have hl48 : bs.length = 48 := T.out.2.2.2.1
    have hfit : (⟨v0, g, l, i, a, v20, o, s, m⟩ : Rc).Fits := V.out.1 ▸ V.out.2
    have U := Lib.hid (And.intro hD1 (And.intro hD2 (And.intro hl48 hfit)))
    clear hD1 hD2 hl48 hfit
    cases hr : Rm.right ⟨v0, g, l, i, a, v20, o, s, m⟩
    · have N := Lib.hid (And.intro (sector_no v0 g l i a v20 o s m U.out.2.2.2.a hr) (of_none_right V.out.1 hr))
      clear hr
      go_wp2_with (first | (refine wpList_load_mid (P := Tryz.prog) rfl 41 (.tmp 4) rfl _ _ rfl _ _ T.out.1.rec_rangeR U.out.1 U.out.2.1 (rec_info v0 g l i a v20 o s m) ?_))
      refine (N.out.1 _).mono ?_
      rintro e x2 ⟨rfl, hb3⟩
      have T2 := Lib.hid (And.intro (T.out.2.1.held hb3) (And.intro (next T.out.2.2.1 hb3) (T.out.2.2.2.held hb3)))
      have hne : decide ([] = bs) = false := decide_eq_false (fun h => by have := U.out.2.2.1; rw [← h] at this; cases this)
      clear hb3
      go_wp2_with fail
      refine (equal_any (nil_at _) T2.out.2.2).mono ?_
      rintro e w' ⟨rfl, rfl⟩
      rw [hne]
      go_wp2_with (refine wpList_store_mid (P := Tryz.prog) rfl 41 (.tmp 2) (.tmp 48) rfl w.heap.size 0 (rcellsR 0 0 0 0 0 0 false 0 0) rfl rfl T2.out.1.rec_there (rec_info 0 0 0 0 0 0 false 0 0) (rec_one 0 0 0 0 0 0 false 0 0) ?_)
      refine bodyPost_ret (v := .tuple #[Rm.zero.val, .bool false]) (results_rec (p := 2) (u := 3) (by kernel_rfl) rfl rfl T2.out.1.rec_over) rfl ⟨?_, ?_⟩
      · rw [N.out.2]; rfl
      · exact T2.out.2.1.trans ((Turn.setCells (L := [w.heap.size]) x2 (by simp) 0 _).below (by simp) T2.out.2.1.size)
    · have N := Lib.hid (And.intro (sector_yes v0 g l i a v20 o s m U.out.2.2.2 hr) hr)
      clear hr
      go_wp2_with (first | (refine wpList_load_mid (P := Tryz.prog) rfl 41 (.tmp 4) rfl _ _ rfl _ _ T.out.1.rec_rangeR U.out.1 U.out.2.1 (rec_info v0 g l i a v20 o s m) ?_))
      refine (N.out.1 _).mono ?_
      rintro e x2 ⟨b2, rfl, -, hS, hb3⟩
      have hS2 : BytesAt x2 (some ⟨b2, 0, none⟩) 48 (Rm.bytes ⟨v0, g, l, i, a, v20, o, s, m⟩) := BytesAt.cls hS (bytes_lt _) (by rw [bytes_length]; omega)
      have T2 := Lib.hid (And.intro (T.out.2.1.held hb3) (And.intro (next T.out.2.2.1 hb3) (And.intro (T.out.2.2.2.held hb3) (And.intro hS2 (T.out.1.held hb3)))))
      clear hb3 hS hS2
      cases he : decide (Rm.bytes ⟨v0, g, l, i, a, v20, o, s, m⟩ = bs)
      · have HE := Lib.hid he
        clear he
        go_wp2_with fail
        refine (equal_any T2.out.2.2.2.1 T2.out.2.2.1).mono ?_
        rintro e w' ⟨rfl, rfl⟩
        rw [HE.out]
        go_wp2_with (refine wpList_store_mid (P := Tryz.prog) rfl 41 (.tmp 2) (.tmp 48) rfl w.heap.size 0 (rcellsR 0 0 0 0 0 0 false 0 0) rfl rfl T2.out.1.rec_there (rec_info 0 0 0 0 0 0 false 0 0) (rec_one 0 0 0 0 0 0 false 0 0) ?_)
        refine bodyPost_ret (v := .tuple #[Rm.zero.val, .bool false]) (results_rec (p := 2) (u := 3) (by kernel_rfl) rfl rfl T2.out.1.rec_over) rfl ⟨?_, ?_⟩
        · rw [of_none_bytes V.out.1 (of_decide_eq_false HE.out)]; rfl
        · exact T2.out.2.1.trans ((Turn.setCells (L := [w.heap.size]) x2 (by simp) 0 _).below (by simp) T2.out.2.1.size)
      · have HE := Lib.hid he
        clear he
        go_wp2_with fail
        refine (equal_any T2.out.2.2.2.1 T2.out.2.2.1).mono ?_
        rintro e w' ⟨rfl, rfl⟩
        rw [HE.out]
        go_wp2_with (first
          | (refine wpList_load_mid (P := Tryz.prog) rfl 41 (.tmp 4) rfl _ _ rfl _ _ T2.out.2.2.2.2.rec_rangeR U.out.1 U.out.2.1 (rec_info v0 g l i a v20 o s m) ?_)
          | (refine wpList_store_mid (P := Tryz.prog) rfl 41 (.tmp 2) (.tmp 49) rfl w.heap.size 0 (rcellsR v0 g l i a v20 o s m) rfl rfl T2.out.1.rec_there (rec_info v0 g l i a v20 o s m) (rec_one v0 g l i a v20 o s m) ?_))
        refine bodyPost_ret (v := .tuple #[.agg (rcellsR v0 g l i a v20 o s m), .bool true]) (results_rec (p := 2) (u := 3) (by kernel_rfl) rfl rfl T2.out.1.rec_over) rfl ⟨?_, ?_⟩
        · rw [of_some V.out.1 U.out.2.2.1 N.out.2 (of_decide_eq_true HE.out)]; rfl
        · exact T2.out.2.1.trans ((Turn.setCells (L := [w.heap.size]) x2 (by simp) 0 _).below (by simp) T2.out.2.1.size)
end Go.Proofs.YtpgcnjoodoabhaaGreat

namespace Go.Proofs.YtpgcnjoodoabhaaGreat
open Go.RowKit Rm

/-- a sector's bytes as numbers -/
def nats (s : List UInt8) : List Nat := s.map UInt8.toNat
theorem nats_length (s : List UInt8) : (nats s).length = s.length := by simp [nats]
theorem nats_lt (s : List UInt8) : ∀ c, c ∈ nats s → c < 256 := fun c hc => by
  obtain ⟨b, -, rfl⟩ := List.mem_map.1 hc
  exact b.toNat_lt
theorem Bys.nats {w : World} {g n : Nat} {s : List UInt8} (h : Bys w (some ⟨g, 0, none⟩) n s) (hn : n ≤ maxLen) : BytesAt w (some ⟨g, 0, none⟩) n (Go.Proofs.YtpgcnjoodoabhaaGreat.nats s) := by
  refine ⟨by rw [nats_length]; exact h.1, hn, nats_lt s, fun k hk => ⟨_, rfl, ?_⟩⟩
  obtain ⟨ad, e, hc⟩ := h.2 (by omega)
  cases e
  have hl := h.1
  have hk' : k < s.length := by omega
  have := hc k (.int .u8 (s[k].toNat : Int)) (by rw [sec_get, List.getElem?_eq_getElem hk']; rfl)
  rw [this]
  unfold Go.Proofs.YtpgcnjoodoabhaaGreat.nats
  rw [List.getD_eq_getElem?_getD, List.getElem?_map, List.getElem?_eq_getElem hk']
  rfl

/-- the record that bytes are, if they are one -/
def recAt (s : List UInt8) : Option Rc := Rm.of (nats s)
theorem of_known {b cap : Nat} (hcap : 48 ≤ cap) {s : List UInt8} {w : World} (h : Bys w (some ⟨b, 0, none⟩) 48 s) {r : Rc} {y : Bool} (hx : (recAt s).getD Rm.zero = r) (hy : (recAt s).isSome = y) :
    Calls Tryz.prog 70 #[.slice (some ⟨b, 0, none⟩) 48 cap] w fun e w' => e = .returned (.tuple #[.agg (rcl r), .bool y]) ∧ Below w.heap.size w w' := by
  subst hx hy
  exact of_long b 0 cap hcap (nats s) w (h.nats (by unfold maxLen; omega))

section
variable {w w' : World} {d S M n : Nat} {safe : Nat → List UInt8} {wn : Int → Option (List UInt8)} {well : Int}
set_option maxRecDepth 20000 in
set_option maxHeartbeats 1000000 in
theorem held_any (h : Dk w d S M n safe wn well) {i : Nat} (hi : i < n) {k : Int} {g l id a : Nat} {len : Int} {on : Bool} {s m : Nat} {ok : Bool} (hr : (recAt (synced safe wn i)).getD Rm.zero = ⟨k, g, l, id, a, len, on, s, m⟩) (hok : (recAt (synced safe wn i)).isSome = ok) :
    Calls Tryz.prog 51 #[.pointer (some ⟨d, 0, none⟩), .int .i64 i] w fun e w' => e = .returned (.tuple #[.agg #[.int .i64 k, .int .u32 g, .int .u32 l, .int .u32 id, .int .u32 a, .int .i64 len, .bool on, .int .u32 s, .int .u16 m], .bool ok]) ∧ Below w.heap.size w w' := by
  have hX := Blk.new w 41 #[.int .i64 0, .int .u32 0, .int .u32 0, .int .u32 0, .int .u32 0, .int .i64 0, .bool false, .int .u32 0, .int .u16 0]
  have hb := below_new w (.cells #[.int .i64 0, .int .u32 0, .int .u32 0, .int .u32 0, .int .u32 0, .int .i64 0, .bool false, .int .u32 0, .int .u16 0] 41)
  go_enter Tryz.func51, Tryz.ntmps51
  go_wp2_with fail
  generalize w.alloc (.cells #[.int .i64 0, .int .u32 0, .int .u32 0, .int .u32 0, .int .u32 0, .int .i64 0, .bool false, .int .u32 0, .int .u16 0] 41) = W at *
  have HR := read_ok (h.held hb) hi
  generalize synced safe wn i = sv at *
  have HH := Lib.hid (And.intro hX hb)
  clear h hX hb
  refine HR.mono ?_
  rintro e w2 ⟨g2, cap, rfl, hg, hB, hb2, hcap⟩
  have hX2 := HH.out.1.held hb2
  have hbb := next HH.out.2 hb2
  have HO := of_known hcap hB hr hok
  clear HR HH hg hb2 hB hr hok
  have HH := Lib.hid (And.intro hX2 hbb)
  clear hX2 hbb
  go_wp2_with fail
  refine HO.mono ?_
  rintro e w3 ⟨rfl, hb3⟩
  have hX3 := HH.out.1.held hb3
  have hbb := next HH.out.2 hb3
  clear HO HH hb3
  have hX4 : Blk 41 w3 w.heap.size (rcellsR 0 0 0 0 0 0 false 0 0) := hX3
  have HX := Lib.hid (And.intro hX4 hbb)
  clear hX3 hX4 hbb
  simp only [rcl]
  go_wp2_with (first | (refine wpList_store_mid (P := Tryz.prog) rfl 41 (.tmp 4) (.tmp 19) rfl w.heap.size 0 (rcellsR k g l id a len on s m) rfl rfl HX.out.1.rec_there (rec_info k g l id a len on s m) (rec_one k g l id a len on s m) ?_) | fail)
  refine bodyPost_ret (v := .tuple #[.agg (rcellsR k g l id a len on s m), .bool ok]) (results_rec (p := 4) (u := 5) (by kernel_rfl) rfl rfl HX.out.1.rec_over) rfl ⟨rfl, ?_⟩
  exact HX.out.2.trans ((Turn.setCells (L := [w.heap.size]) w3 (by simp) 0 _).below (by simp) HX.out.2.size)
end
end Go.Proofs.YtpgcnjoodoabhaaGreat

namespace Go.Proofs.YtpgcnjoodoabhaaGreat
open Go.RowKit Rm

/-- a region, as a value -/
def rgv (d first size gen : Nat) : Array Value := #[.pointer (some ⟨d, 0, none⟩), .int .i64 first, .int .i64 size, .int .u32 gen]

section
variable {w w' : World} {d S M n : Nat} {safe : Nat → List UInt8} {wn : Int → Option (List UInt8)} {well : Int}
theorem held_at (h : Dk w d S M n safe wn well) {i : Nat} (hi : i < n) {z : Int} (hz : z = (i : Int)) {k : Int} {g l id a : Nat} {len : Int} {on : Bool} {s m : Nat} {ok : Bool} (hr : (recAt (synced safe wn i)).getD Rm.zero = ⟨k, g, l, id, a, len, on, s, m⟩) (hok : (recAt (synced safe wn i)).isSome = ok) :
    Calls Tryz.prog 51 #[.pointer (some ⟨d, 0, none⟩), .int .i64 z] w fun e w' => e = .returned (.tuple #[.agg #[.int .i64 k, .int .u32 g, .int .u32 l, .int .u32 id, .int .u32 a, .int .i64 len, .bool on, .int .u32 s, .int .u16 m], .bool ok]) ∧ Below w.heap.size w w' := by
  subst hz
  exact held_any h hi hr hok

set_option maxRecDepth 20000 in
set_option maxHeartbeats 2000000 in
theorem at_any (h : Dk w d S M n safe wn well) {first size gen place : Nat} (hi : first + place < n) {k : Int} {g l id a : Nat} {len : Int} {on : Bool} {s m : Nat} {ok : Bool} (hr : (recAt (synced safe wn (first + place))).getD Rm.zero = ⟨k, g, l, id, a, len, on, s, m⟩) (hok : (recAt (synced safe wn (first + place))).isSome = ok) {q : Bool} (hq : (ok && (l == place)) = q) :
    Calls Tryz.prog 69 #[.agg #[.pointer (some ⟨d, 0, none⟩), .int .i64 first, .int .i64 size, .int .u32 gen], .int .i64 place] w fun e w' => e = .returned (.tuple #[if q then .agg #[.int .i64 k, .int .u32 g, .int .u32 l, .int .u32 id, .int .u32 a, .int .i64 len, .bool on, .int .u32 s, .int .u16 m] else .agg #[.int .i64 0, .int .u32 0, .int .u32 0, .int .u32 0, .int .u32 0, .int .i64 0, .bool false, .int .u32 0, .int .u16 0], .bool q]) ∧ Below w.heap.size w w' := by
  have n2 := h.n2
  have hwp : IntKind.u32.wrap (place : Int) = (place : Int) := by simp [IntKind.wrap, IntKind.bits, IntKind.signed]; omega
  have hws : IntKind.i64.wrap ((first : Int) + (place : Int)) = ((first + place : Nat) : Int) := by simp only [IntKind.wrap, IntKind.bits, IntKind.signed]; simp; omega
  have hX := Blk.new (w.alloc (.cells #[.pointer (some ⟨d, 0, none⟩), .int .i64 first, .int .i64 size, .int .u32 gen] 65)) 41 #[.int .i64 0, .int .u32 0, .int .u32 0, .int .u32 0, .int .u32 0, .int .i64 0, .bool false, .int .u32 0, .int .u16 0]
  have hP := (Blk.new w 65 #[.pointer (some ⟨d, 0, none⟩), .int .i64 first, .int .i64 size, .int .u32 gen]).more (.cells #[.int .i64 0, .int .u32 0, .int .u32 0, .int .u32 0, .int .u32 0, .int .i64 0, .bool false, .int .u32 0, .int .u16 0] 41)
  have hb := next (below_new w (.cells #[.pointer (some ⟨d, 0, none⟩), .int .i64 first, .int .i64 size, .int .u32 gen] 65)) (below_new _ (.cells #[.int .i64 0, .int .u32 0, .int .u32 0, .int .u32 0, .int .u32 0, .int .i64 0, .bool false, .int .u32 0, .int .u16 0] 41))
  rw [size_new] at hX
  have HD := held_at (h.held hb) hi (z := (first : Int) + (place : Int)) (by push_cast; rfl) hr hok
  go_enter Tryz.func69, Tryz.ntmps69
  have HH := Lib.hid (And.intro hX hb)
  have c0 := hP.at_ 0
  have c1 := hP.at_ 1
  clear h hX hb hP hr hok
  go_wp2_with fail
  generalize (w.alloc (.cells #[.pointer (some ⟨d, 0, none⟩), .int .i64 first, .int .i64 size, .int .u32 gen] 65)).alloc (.cells #[.int .i64 0, .int .u32 0, .int .u32 0, .int .u32 0, .int .u32 0, .int .i64 0, .bool false, .int .u32 0, .int .u16 0] 41) = W at *
  refine HD.mono ?_
  rintro e w3 ⟨rfl, hb3⟩
  have hX3 : Blk 41 w3 (w.heap.size + 1) (rcellsR 0 0 0 0 0 0 false 0 0) := HH.out.1.held hb3
  have hbb := next HH.out.2 hb3
  have hR5 := Blk.new w3 41 #[.int .i64 k, .int .u32 g, .int .u32 l, .int .u32 id, .int .u32 a, .int .i64 len, .bool on, .int .u32 s, .int .u16 m]
  have hb5 := below_new w3 (.cells #[.int .i64 k, .int .u32 g, .int .u32 l, .int .u32 id, .int .u32 a, .int .i64 len, .bool on, .int .u32 s, .int .u16 m] 41)
  have HX := Lib.hid (And.intro (hX3.held hb5) (next hbb hb5))
  clear HD HH hb3 hX3 hbb hb5 c0 c1
  obtain ⟨u, hu1, hu2⟩ := rec_underR
  have U := Lib.hid (And.intro hu1 hu2)
  clear hu1 hu2
  cases ok with
  | false =>
    obtain rfl : q = false := hq.symm
    go_wp2_with (first | (refine wpList_store_mid (P := Tryz.prog) rfl 41 (.tmp 4) (.tmp 27) rfl (w.heap.size + 1) 0 (rcellsR 0 0 0 0 0 0 false 0 0) rfl rfl HX.out.1.rec_there (rec_info 0 0 0 0 0 0 false 0 0) (rec_one 0 0 0 0 0 0 false 0 0) ?_) | fail)
    refine bodyPost_ret (v := .tuple #[.agg (rcellsR 0 0 0 0 0 0 false 0 0), .bool false]) (results_rec (p := 4) (u := 5) (by kernel_rfl) rfl rfl HX.out.1.rec_over) rfl ⟨rfl, ?_⟩
    exact HX.out.2.trans ((Turn.setCells (L := [w.heap.size + 1]) _ (by simp) 0 _).below (by simp) HX.out.2.size)
  | true =>
    cases hlp : (l == place) with
    | false =>
      obtain rfl : q = false := by rw [← hq, hlp]; rfl
      have hne : ((l : Int) != (place : Int)) = true := by simp at hlp ⊢; omega
      have r2 := hR5.at_ 2
      clear hlp hq
      go_wp2_with (first | (refine wpList_store_mid (P := Tryz.prog) rfl 41 (.tmp 4) (.tmp 27) rfl (w.heap.size + 1) 0 (rcellsR 0 0 0 0 0 0 false 0 0) rfl rfl HX.out.1.rec_there (rec_info 0 0 0 0 0 0 false 0 0) (rec_one 0 0 0 0 0 0 false 0 0) ?_) | fail)
      refine bodyPost_ret (v := .tuple #[.agg (rcellsR 0 0 0 0 0 0 false 0 0), .bool false]) (results_rec (p := 4) (u := 5) (by kernel_rfl) rfl rfl HX.out.1.rec_over) rfl ⟨rfl, ?_⟩
      exact HX.out.2.trans ((Turn.setCells (L := [w.heap.size + 1]) _ (by simp) 0 _).below (by simp) HX.out.2.size)
    | true =>
      obtain rfl : q = true := by rw [← hq, hlp]; rfl
      have hne : ((l : Int) != (place : Int)) = false := by simp at hlp ⊢; omega
      have r2 := hR5.at_ 2
      clear hlp hq
      go_wp2_with (first
        | (refine wpList_load_mid (P := Tryz.prog) rfl 41 (.tmp 6) rfl _ _ rfl _ _ (Blk.rec_rangeR (C := rcellsR k g l id a len on s m) hR5) U.out.1 U.out.2 (rec_info k g l id a len on s m) ?_)
        | (refine wpList_store_mid (P := Tryz.prog) rfl 41 (.tmp 4) (.tmp 28) rfl (w.heap.size + 1) 0 (rcellsR k g l id a len on s m) rfl rfl HX.out.1.rec_there (rec_info k g l id a len on s m) (rec_one k g l id a len on s m) ?_) | fail)
      refine bodyPost_ret (v := .tuple #[.agg (rcellsR k g l id a len on s m), .bool true]) (results_rec (p := 4) (u := 5) (by kernel_rfl) rfl rfl HX.out.1.rec_over) rfl ⟨rfl, ?_⟩
      exact HX.out.2.trans ((Turn.setCells (L := [w.heap.size + 1]) _ (by simp) 0 _).below (by simp) HX.out.2.size)
end
end Go.Proofs.YtpgcnjoodoabhaaGreat

