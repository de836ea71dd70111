/-
  RouteEarly: its walk.
-/
import Derived.Test.YtblhijgjidfioaaRePas
import Derived.Test.YtblhijgjidfioaaRtH
namespace Go.Proofs.Ytblhijgjidfioaa
open Go.RowKit Go.Maps

/-- the table while it is filled -/
structure Fill (w W : World) (t k : Nat) : Prop where
  tb : ∃ o n f, Tb W t o n f ∧ n ≤ k ∧ ∀ b, o = some b → w.heap.size ≤ b
  below : Below w.heap.size w W

theorem kk_any (s : Int) (m : Nat) (hm : m ≤ 1000) : ∃ kk : Nat, wrap64 ((IntKind.u64.wrap s).tmod ((m : Int) + 1)) = (kk : Int) ∧ kk ≤ m := by
  have h0 : 0 ≤ IntKind.u64.wrap s := by
    simp [IntKind.wrap, IntKind.bits, IntKind.signed]
    omega
  generalize IntKind.u64.wrap s = u at h0
  have e : u.tmod ((m : Int) + 1) = u % ((m : Int) + 1) := Int.tmod_eq_emod_of_nonneg h0
  have h1 := Int.emod_nonneg u (show (m : Int) + 1 ≠ 0 by omega)
  have h2 := Int.emod_lt_of_pos u (show 0 < (m : Int) + 1 by omega)
  rw [e]
  generalize u % ((m : Int) + 1) = v at h1 h2
  refine ⟨v.toNat, ?_, by omega⟩
  unfold wrap64
  omega
theorem and7 : ∀ k : Nat, k < 41 → 0 ≤ bits .and .i64 (k : Int) 7 ∧ bits .and .i64 (k : Int) 7 ≤ 7 := by decide +kernel
theorem Fill.set {w W : World} {t k : Nat} (h : Fill w W t k) (hk : k < 1000) (ht : w.heap.size ≤ t) (a : Nat) (n : Int) (hp : Pk.ok ⟨a, n⟩) (z : Int) (hz : 0 ≤ z ∧ z ≤ 7) :
    Calls Try.prog 12 #[.pointer (some ⟨t, 0, none⟩), .agg #[.int .u32 a, .int .i64 n], .agg #[.int .i64 z, .int .u32 0, .int .u32 0, .int .u16 0, .int .i64 0]] (W.alloc (.cells #[.int .u32 a, .int .i64 n] 32)) fun e W' => e = .returned (.tuple #[]) ∧ Fill w W' t (k + 1) := by
  obtain ⟨o, n0, f, hT, hn, ho⟩ := h.tb
  have hb := below_new W (.cells #[.int .u32 a, .int .i64 n] 32)
  refine (show Calls _ _ #[.pointer (some ⟨t, 0, none⟩), .agg #[.int .u32 a, .int .i64 n], .agg #[.int .i64 z, .int .u32 0, .int .u32 0, .int .u16 0, .int .i64 0]] _ _ from rt_set (hT.held hb) (by omega) a n ⟨z, 0, 0, 0, 0⟩ ⟨hp.1, hp.2, by show -9223372036854775808 ≤ z; omega, by show z ≤ 9223372036854775807; omega⟩).mono ?_
  rintro e W' ⟨rfl, b, n', hT', hn', hTu, hob⟩
  have hbe := next h.below hb
  refine ⟨rfl, ⟨some b, n', _, hT', by omega, fun b' e => ?_⟩, hbe.trans (hTu.below (fun i hi => ?_) hbe.size)⟩
  · cases e
    rcases hob with e | e
    · exact ho b e
    · exact Nat.le_trans hbe.size e
  · rcases List.mem_cons.1 hi with rfl | hi
    · exact ht
    · exact ho i (by simpa using hi)

set_option maxHeartbeats 4000000 in
set_option maxRecDepth 100000 in
theorem reEarly_walk (A : Option Addr) (len cap : Nat) (ps : List Pk) (stop : Int) (hs : -9223372036854775808 ≤ stop ∧ stop ≤ 9223372036854775807) (w : World) (h : InP w A len cap ps) :
    Calls Try.prog 4 #[.slice A len cap, .int .i64 stop] w fun e w' => e = .returned (.bool true) ∧ Below w.heap.size w w' := by
  have hm := h.hm
  unfold maxLen at hm
  have H := Lib.hid h
  have HS := Lib.hid hs
  clear h hs
  go_enter Try.func4, Try.ntmps4
  go_wp2_with fail
  refine (rt_head w).mono ?_
  rintro e w1 ⟨rfl, hb1⟩
  by_cases h40 : (40 : Int) < len
  · go_wp2_with fail
    go_ret
    exact ⟨rfl, hb1⟩
  · have hlen : len ≤ 40 := by omega
    clear hm
    go_wp2_with fail
    clear h40
    refine (rt_new w1).mono ?_
    rintro e w2 ⟨rfl, hT, rfl⟩
    have hb2 := next hb1 (below_new w1 (.cells #[.map none] 75))
    have hle := hb1.size
    generalize hg : w1.heap.size = t at *
    generalize w1.alloc (.cells #[.map none] 75) = w2 at *
    have F0 : Fill w w2 t 0 := ⟨⟨none, 0, _, hT, Nat.le_refl _, fun b e => by cases e⟩, hb2⟩
    have HF := Lib.hid F0
    clear hT hb2 F0 hg hb1
    go_wp2_with fail
    go_loopw [6, 7, 20] (fun _ _ i wr => ∃ k : Nat, i = .int .i64 k ∧ k ≤ len ∧ Hid (Fill w wr t k)) (fun _ _ i _ => len - (intOf i).toNat)
    case atStart => exact ⟨0, rfl, Nat.zero_le _, HF⟩
    case round =>
      clear HF
      obtain ⟨k, rfl, hk, R⟩ := hrel
      by_cases hkl : k < len
      · have hkz : (k : Int) < (len : Int) := by omega
        obtain ⟨b, off, rfl⟩ := H.out.hA (by omega)
        have hkp : k < ps.length := by rw [H.out.hl]; exact hkl
        have hc := (H.out.held R.out.below).hR b off rfl k hkp
        have c0 := hc.1
        have c1 := hc.2
        have hok := Lib.hid (H.out.hF _ (List.getElem_mem hkp))
        generalize ps[k] = p at *
        obtain ⟨a, n⟩ := p
        dsimp only at c0 c1
        clear hc
        have hz := and7 k (by omega)
        go_wp2_with fail
        generalize bits .and .i64 (k : Int) 7 = z at *
        have HZ := Lib.hid hz
        clear hz
        refine (R.out.set (by omega) hle a n hok.out _ HZ.out).mono ?_
        rintro e w3 ⟨rfl, hF3⟩
        have R3 := Lib.hid hF3
        clear hF3 R c0 c1
        go_wp2_with fail
        go_roundw
        case rel => exact ⟨k + 1, rfl, hkl, R3⟩
        case measure =>
          simp [intOf]
          omega
      · obtain rfl : k = len := by omega
        go_wp2_with fail
        obtain ⟨o, n0, f, hT, hn0, ho⟩ := R.out.tb
        have hbW := R.out.below
        have hb6 := next hbW (next (below_new wr (.cells #[] 32)) (below_new _ (.cells #[.slice (some ⟨wr.heap.size, 0, none⟩) 0 0] 60)))
        have hT6 := hT.held (next (below_new wr (.cells #[] 32)) (below_new _ (.cells #[.slice (some ⟨wr.heap.size, 0, none⟩) 0 0] 60)))
        have hsz : wr.heap.size + 1 < ((wr.alloc (.cells #[] 32)).alloc (.cells #[.slice (some ⟨wr.heap.size, 0, none⟩) 0 0] 60)).heap.size := by rw [size_new, size_new]; omega
        have L6 : LP ((wr.alloc (.cells #[] 32)).alloc (.cells #[.slice (some ⟨wr.heap.size, 0, none⟩) 0 0] 60)) w.heap.size (wr.heap.size + 1) wr.heap.size 0 [] := by
          refine ⟨?_, (World.ownsRow_made (base := w.heap.size) (e := 32) (size := 2) wr #[] 0 hbW.size (by unfold maxLen; omega) rfl).alloc _⟩
          have := Blk.new (wr.alloc (.cells #[] 32)) 60 #[.slice (some ⟨wr.heap.size, 0, none⟩) 0 0]
          rw [size_new] at this
          exact this
        have hA0 : w.heap.size ≤ wr.heap.size + 1 := Nat.le_trans hbW.size (Nat.le_succ _)
        generalize (wr.alloc (.cells #[] 32)).alloc (.cells #[.slice (some ⟨wr.heap.size, 0, none⟩) 0 0] 60) = w6 at *
        have hg0 : wr.heap.size < w6.heap.size := Nat.lt_of_succ_lt hsz
        generalize wr.heap.size + 1 = aB at *
        generalize wr.heap.size = g0 at *
        clear R hT hbW
        refine (pfx_any hT6 (by omega)).mono ?_
        rintro e w7 ⟨B, gx, capx, xs, rfl, hP⟩
        have J7 : J1 w aB B gx capx t n0 o f xs 0 w7 := ⟨⟨g0, 0, L6.turn (L := []) (Turn.of_below _ hP.below) (by simp) (by simp), by have := hP.g0; omega⟩, hP.rw, hT6.held hP.below, next hb6 hP.below⟩
        have X7 := Lib.hid (And.intro hP.len (And.intro hP.asc hP.mem))
        have hP1 := pass1 (by have := hP.len; omega) hA0 (by have := hP.B0; omega) (by have := hP.g0; omega) J7
        clear hP L6 hT6 hb6 hsz hg0 J7
        go_wp2_with fail
        refine hP1.mono ?_
        rintro e w8 ⟨rfl, J8⟩
        obtain ⟨gA, cA, L8, -⟩ := J8.lp
        rw [List.take_length] at L8
        have b0 := L8.box.at_ 0
        have hlx : xs.length ≤ 40 := by have := X7.out.1; omega
        have Y8 := Lib.hid (And.intro L8 (And.intro J8.tb J8.below))
        have hA1 : aB < w8.heap.size := L8.box.lt
        clear J8 L8 hP1 ho H hk hkl
        go_wp2_with fail
        obtain ⟨kk, hkk, hkl⟩ := kk_any stop xs.length (by omega)
        rw [hkk]
        have hb9 := next (next (below_new w8 (.cells #[.int .i64 (kk : Int)] 3)) (below_new _ (.cells #[.int .i64 0] 3))) (below_new _ (.cells #[.bool true] 4))
        have BK := ((Blk.new w8 3 #[.int .i64 (kk : Int)]).more (.cells #[.int .i64 0] 3)).more (.cells #[.bool true] 4)
        have BN := (Blk.new (w8.alloc (.cells #[.int .i64 (kk : Int)] 3)) 3 #[.int .i64 0]).more (.cells #[.bool true] 4)
        have BS := Blk.new ((w8.alloc (.cells #[.int .i64 (kk : Int)] 3)).alloc (.cells #[.int .i64 0] 3)) 4 #[.bool true]
        rw [size_new] at BN
        rw [size_new, size_new] at BS
        have L9 := ((Y8.out.1.alloc (.cells #[.int .i64 (kk : Int)] 3)).alloc (.cells #[.int .i64 0] 3)).alloc (.cells #[.bool true] 4)
        have T9 := Y8.out.2.1.held hb9
        have hbw9 := next Y8.out.2.2 hb9
        have hsz9 : (((w8.alloc (.cells #[.int .i64 (kk : Int)] 3)).alloc (.cells #[.int .i64 0] 3)).alloc (.cells #[.bool true] 4)).heap.size = w8.heap.size + 3 := by rw [size_new, size_new, size_new]
        have hw8 := Y8.out.2.2.size
        generalize ((w8.alloc (.cells #[.int .i64 (kk : Int)] 3)).alloc (.cells #[.int .i64 0] 3)).alloc (.cells #[.bool true] 4) = w9 at *
        clear hb9 Y8 hkk b0
        generalize w8.heap.size = K at *
        have hN0 : w.heap.size ≤ K + 1 := by omega
        have hS0 : w.heap.size ≤ K + 1 + 1 := by omega
        refine (pfx_any T9 (by omega)).mono ?_
        rintro e w10 ⟨B2, gx2, cap2, ys, rfl, hP⟩
        obtain rfl : xs = ys := asc_unique X7.out.2.1 hP.asc (fun p => (X7.out.2.2 p).trans (hP.mem p).symm)
        have J10 : J2 w aB gA cA B2 gx2 cap2 (K + 1 + 1) (K + 1) K kk xs 0 w10 := ⟨BS.held hP.below, BN.held hP.below, BK.held hP.below, L9.turn (L := []) (Turn.of_below _ hP.below) (by simp) (by simp), hP.rw, next hbw9 hP.below⟩
        have hP2 := pass2 (by omega) hS0 hN0 (by omega) (by have := hP.g0; omega) (by have := hP.g0; omega) hkl J10
        clear hP J10 L9 T9 hbw9 BS BN BK X7 hsz9
        go_wp2_with fail
        refine hP2.mono ?_
        rintro e w11 ⟨rfl, J11⟩
        have c0 := J11.s.at_ 0
        have c1 := J11.n.at_ 0
        have c2 := J11.k.at_ 0
        have c3 := J11.lp.box.at_ 0
        have hfin := Lib.hid J11.below
        clear J11 hP2
        by_cases hm : kk + 1 ≤ xs.length
        · rw [show min (kk + 1) xs.length = kk + 1 by omega] at c1
          have hmn : ((kk : Int) + 1 == min ((kk : Int) + 1) (xs.length : Int)) = true := by
            rw [beq_iff_eq]
            omega
          go_wp2_with fail
          go_ret
          exact ⟨rfl, hfin.out⟩
        · rw [show min (kk + 1) xs.length = xs.length by omega] at c1
          have hmn : ((xs.length : Int) == min ((kk : Int) + 1) (xs.length : Int)) = true := by
            rw [beq_iff_eq]
            omega
          go_wp2_with fail
          go_ret
          exact ⟨rfl, hfin.out⟩
end Go.Proofs.Ytblhijgjidfioaa
