/-
  Bytes appended one behind the other; the contract of the statement's own parts.
-/
import Derived.Test.YtpdbaediepofjaaTlvQ
namespace Go.Proofs.Ytpdbaediepofjaa
open Go.RowKit Tm

/-- blocks of other things than bytes read as they did -/
def Keep (W W' : World) : Prop := ∀ x t C, t ≠ 5 → Blk t W x C → Blk t W' x C
theorem Keep.refl (W : World) : Keep W W := fun _ _ _ _ h => h
theorem Keep.trans {W W' W2 : World} (h : Keep W W') (k : Keep W' W2) : Keep W W2 := fun x t C ht hb => k x t C ht (h x t C ht hb)
theorem Keep.of_below {W W' : World} (h : Below W.heap.size W W') : Keep W W' := fun _ _ _ _ hb => hb.held h
section
variable {B : Nat} {bs news : List Nat} {W : World} {p A : Option Addr} {n cap m : Nat}
theorem Lb.app (h : Lb B (.slice p n cap) bs W) (hB : B ≤ W.heap.size) (hx : BytesAt W A m news) (h0 : 0 < m) (hm : bs.length + m ≤ 5000) (c : Nat) :
    ∃ g' cap' W' q, q = n + m ∧ (Builtin.append_ #[35, 35] 35 #[.slice p n cap, .slice A m c]).run Try.prog W = .ok (.slice (some ⟨g', 0, none⟩) q cap') W' ∧ Lb B (.slice (some ⟨g', 0, none⟩) q cap') (bs ++ news) W' ∧ Below B W W' ∧ Keep W W' := by
  obtain ⟨p', cap0, hv, -⟩ := h.form
  have hn : n = bs.length := by cases hv; rfl
  obtain ⟨g', cap', W', hr, hO, hg, hBg, -⟩ := run_lb h hB hx h0 hm c 35
  refine ⟨g', cap', W', n + m, rfl, by rw [hn] at hr ⊢; exact hr, ?_, (Below.refl B W).grown hg hB (fun k e => (h.lt e).2), fun x t C ht hb => ?_⟩
  · have := Lb.of_ob hO hBg
    rw [List.length_append, hx.1] at this
    rw [hn]
    exact this
  · refine (hg.block x hb.lt (fun e => ?_)).trans hb
    rcases h.2 with ⟨e2, _⟩ | ⟨gq, _, curq, e2, _, hq, _⟩
    · rw [e2] at e; cases e
    · rw [e2] at e
      cases e
      have e3 := hb.symm.trans hq
      cases e3
      exact ht rfl
/-- bytes appended, of which there may be none -/
theorem Lb.app0 {g : Nat} (h : Lb B (.slice (some ⟨g, 0, none⟩) n cap) bs W) (hB : B ≤ W.heap.size) (hx : BytesAt W A m news) (hm : bs.length + m ≤ 5000) (c : Nat) :
    ∃ g' cap' W' q, q = n + m ∧ (Builtin.append_ #[35, 35] 35 #[.slice (some ⟨g, 0, none⟩) n cap, .slice A m c]).run Try.prog W = .ok (.slice (some ⟨g', 0, none⟩) q cap') W' ∧ Lb B (.slice (some ⟨g', 0, none⟩) q cap') (bs ++ news) W' ∧ Below B W W' ∧ Keep W W' := by
  by_cases h0 : 0 < m
  · exact h.app hB hx h0 hm c
  · obtain rfl : m = 0 := by omega
    have e : news = [] := List.length_eq_zero_iff.1 hx.1
    subst e
    exact ⟨g, cap, W, n, rfl, run_lb_none h A c _, by rw [List.append_nil]; exact h, .refl _ _, .refl _⟩
/-- bytes of a fresh block appended -/
theorem Lb.lit (h : Lb B (.slice p n cap) bs W) (hB : B ≤ W.heap.size) {o : Obj} {k : Nat} (ho : o = .cells (cls news) 5) (hk : news.length = k) (h0 : 0 < k) (hb : ∀ c ∈ news, c < 256) (hm : bs.length + k ≤ 5000) :
    ∃ g' cap' W' q, q = n + k ∧ (Builtin.append_ #[35, 35] 35 #[.slice p n cap, .slice (some ⟨W.heap.size, 0, none⟩) k k]).run Try.prog (W.alloc o) = .ok (.slice (some ⟨g', 0, none⟩) q cap') W' ∧ Lb B (.slice (some ⟨g', 0, none⟩) q cap') (bs ++ news) W' ∧ Below B W W' ∧ Keep W W' := by
  subst ho hk
  have hN := Blk.new W 5 (cls news)
  have hb1 := below_new W (.cells (cls news) 5)
  obtain ⟨g', cap', W', q, h1, h2, h3, h4, h5⟩ := (h.held hb1).app (Nat.le_trans hB hb1.size) (BytesAt.cls hN hb (by omega)) h0 hm news.length
  exact ⟨g', cap', W', q, h1, h2, h3, (hb1.mono hB).trans h4, (Keep.of_below hb1).trans h5⟩
/-- bytes of a fresh block -/
theorem Lb.fresh (W : World) (hB : B ≤ W.heap.size) {k : Nat} (hk : news.length = k) (hm : k ≤ 5000) : Lb B (.slice (some ⟨W.heap.size, 0, none⟩) k k) news (W.alloc (.cells (cls news) 5)) := by
  have h : Ob (W.alloc (.cells (cls news) 5)) W.heap.size k news := ⟨cls news, Blk.new W _ _, by simp [cls, hk], by omega, by unfold maxLen; omega, by show (news.map cell).take news.length = _; exact List.take_of_length_le (by simp)⟩
  have := Lb.of_ob h hB
  rw [hk] at this
  exact this
/-- '[]byte{}' -/
theorem Lb.empty (W : World) (hB : B ≤ W.heap.size) : Lb B (.slice (some ⟨W.heap.size, 0, none⟩) 0 0) [] (W.alloc (.cells #[] 5)) :=
  Lb.of_ob ⟨#[], Blk.new W _ _, rfl, Nat.le_refl _, by unfold maxLen; omega, rfl⟩ hB
end

set_option maxHeartbeats 800000 in
theorem lparts_any {u : Up} (hr : right u = true) (hf : u.Fits) {id : Nat} (hid : id < 4294967296) (w : World) :
    Calls Try.prog 15 #[.agg (ucs u.a u.len u.id u.seq u.met), .int .u32 id] w fun e w' => ∃ g cap L, e = .returned (.slice (some ⟨g, 0, none⟩) L cap) ∧ L = (parts u id).length ∧ w.heap.size ≤ g ∧ Ob w' g cap (parts u id) ∧ Below w.heap.size w w' := by
  obtain ⟨n, hn⟩ : ∃ n : Nat, u.len = (n : Int) := ⟨u.len.toNat, by have := right_len hr; omega⟩
  have hn32 : n ≤ 32 := by have := right_len hr; omega
  obtain ⟨a, len, uid, seq, met⟩ := u
  simp only at hn
  subst hn
  obtain ⟨ha, -, -, hu, hs, hm⟩ := hf
  simp only at ha hu hs hm
  simp only
  unfold ucs
  have hX := Blk.new w 31 #[.int .u32 a, .int .i64 (n : Nat), .int .u32 uid, .int .u32 seq, .int .u16 met]
  have hb := below_new w (.cells #[.int .u32 a, .int .i64 (n : Nat), .int .u32 uid, .int .u32 seq, .int .u16 met] 31)
  have hsz := size_new w (.cells #[.int .u32 a, .int .i64 (n : Nat), .int .u32 uid, .int .u32 seq, .int .u16 met] 31)
  have hpa : parts ⟨a, (n : Nat), uid, seq, met⟩ id = (((((if uid = id then [] else [2, 4] ++ four uid) ++ [3, 7 + nb n, n]) ++ four seq) ++ [met / 256 % 256, met % 256]) ++ (four a).take (nb n)) := by
    unfold parts body two
    simp only [Int.toNat_natCast]
    split <;> simp
  obtain ⟨PP, hPP⟩ : ∃ PP, PP = parts ⟨a, (n : Nat), uid, seq, met⟩ id := ⟨_, rfl⟩
  rw [← hPP]
  rw [← hPP] at hpa
  have PH := Lib.hid hpa
  clear hPP hpa hr
  go_enter Try.func15, Try.ntmps15
  have X := Lib.hid (And.intro hX (And.intro hb hsz))
  have c1 : ((w.alloc (.cells #[.int .u32 a, .int .i64 (n : Nat), .int .u32 uid, .int .u32 seq, .int .u16 met] 31)).alloc (.cells #[] 5)).cell? ⟨w.heap.size, 2, none⟩ = some (.int .u32 uid) := (hX.more _).at_ 2
  clear hX hb hsz
  go_upto_if 11 with (fail)
  obtain ⟨W1, hW1⟩ : ∃ W1, W1 = w.alloc (.cells #[.int .u32 a, .int .i64 (n : Nat), .int .u32 uid, .int .u32 seq, .int .u16 met] 31) := ⟨_, rfl⟩
  rw [← hW1] at X c1 ⊢
  clear hW1
  go_cut [5] from 7 (fun v u => Lb w.heap.size v (if uid = id then [] else [2, 4] ++ four uid) u ∧ Blk 31 u w.heap.size #[.int .u32 a, .int .i64 (n : Nat), .int .u32 uid, .int .u32 seq, .int .u16 met] ∧ Below w.heap.size w u)
  case first =>
    obtain ⟨hX, hb, hsz⟩ := X.out
    have hb2 := next hb (below_new W1 (.cells #[] 5))
    have hX2 := hX.more (.cells #[] 5)
    cases he : ((uid : Int) != (id : Int))
    · have e : uid = id := by
        have h2 : (uid : Int) = id := by simpa using he
        omega
      have hL := Lb.empty (B := w.heap.size) W1 hb.size
      rw [hsz] at hL
      have Y := Lib.hid (And.intro hL (And.intro hX2 hb2))
      clear hL hX2 hb2 hX hb hsz
      go_wp2_with fail
      go_meet
      case rel =>
        rw [if_pos e]
        exact Y.out
    · have e : ¬ uid = id := fun e => by subst e; simp at he
      clear he
      have hs2 := size_new W1 (.cells #[] 5)
      generalize W1.alloc (.cells #[] 5) = W2 at *
      have hL0 := Lb.fresh (B := w.heap.size) (news := [2, 4]) W2 hb2.size (k := 2) rfl (by omega)
      have hb3 := next hb2 (below_new W2 (.cells (cls [2, 4]) 5))
      have hX3 := hX2.more (.cells (cls [2, 4]) 5)
      have hs3 := size_new W2 (.cells (cls [2, 4]) 5)
      obtain ⟨o, ho⟩ : ∃ o, o = Obj.cells (cls [2, 4]) 5 := ⟨_, rfl⟩
      have ho2 : o = Obj.cells #[.int .u8 2, .int .u8 4] 5 := ho
      rw [← ho] at hL0 hb3 hX3 hs3
      have c2 : (W2.alloc o).cell? ⟨w.heap.size, 2, none⟩ = some (.int .u32 uid) := hX3.at_ 2
      have F := four_any uid hu (W2.alloc o)
      rw [ho2] at c2 F
      obtain ⟨g', cap', W', q, hq, hrun, hL, hB4, hK⟩ := Lb.lit (news := four uid) hL0 hb3.size rfl (four_length uid) (by omega) (four_lt uid) (by simp)
      have hX4 := hK _ _ _ (by decide) hX3
      have hb4 := hb3.trans hB4
      subst hq
      have Y := Lib.hid (And.intro hL (And.intro hX4 (And.intro hb4 (And.intro hs3 hrun))))
      clear hL hX4 hb4 hL0 hX3 hX2 hb2 hX hb hsz hb3 hB4 hK hrun hs2 c1 X ho hs3
      go_wp2_with fail
      refine F.mono ?_
      rintro e w' ⟨rfl, rfl⟩
      clear F c2
      rw [← ho2]
      obtain ⟨hL, hX4, hb4, hs3, hrun⟩ := Y.out
      generalize W2.alloc o = W3 at *
      clear hs3 Y
      generalize W3.alloc (.cells (cls (four uid)) 5) = W4 at *
      generalize W3.heap.size = g3 at *
      generalize W2.heap.size = g2 at *
      go_wp2_with (first | (at_builtin; refine Lib.wpList_append_run _ rfl (.tmp 12) (.tmp 15) 35 35 rfl _ _ rfl rfl _ _ hrun ?_) | fail)
      go_meet
      case rel =>
        rw [if_neg e]
        exact ⟨hL, hX4, hb4⟩
  case rest =>
    clear X c1
    obtain ⟨hL, hX, hb⟩ := hcut
    have hpl : (if uid = id then ([] : List Nat) else [2, 4] ++ four uid).length ≤ 6 := by split <;> simp [four_length]
    have hpa := PH.out
    clear PH
    generalize (if uid = id then ([] : List Nat) else [2, 4] ++ four uid) = pre at *
    obtain ⟨p, cap, hv, hcap⟩ := hL.form
    obtain ⟨q, hq⟩ : ∃ q, q = pre.length := ⟨_, rfl⟩
    rw [← hq] at hv hpl hcap
    subst hv
    have c1 : wc.cell? ⟨w.heap.size, 1, none⟩ = some (.int .i64 (n : Nat)) := hX.at_ 1
    have Y := Lib.hid (And.intro hL (And.intro hX (And.intro hb (And.intro hpa hq))))
    clear hL hX hb hpa hq hcap
    go_wp2_with fail
    go_loopw [6] (fun k wr => ∃ i : Nat, k = .int .i64 i ∧ i ≤ nb n ∧ wr = wc) (fun k _ => nb n - (intOf k).toNat)
    case atStart => exact ⟨0, rfl, by omega, rfl⟩
    case round =>
      obtain ⟨i, rfl, hi, rfl⟩ := hrel
      have hnb : nb n = (n + 7) / 8 := rfl
      by_cases hlt : i < nb n
      · have d1 : decide ((8 : Int) * (i : Int) < (n : Int)) = true := decide_eq_true (by omega)
        have q1 : IntKind.i64.wrap ((i : Int) + 1) = ((i + 1 : Nat) : Int) := by rw [IntKind.wrap_i64]; omega
        go_wp2_with fail
        go_roundw
        case rel => exact ⟨i + 1, by rfl, by omega, by trivial⟩
        case measure => simp only [intOf]; omega
      · obtain rfl : i = nb n := by omega
        have d1 : decide ((8 : Int) * ((nb n : Nat) : Int) < (n : Int)) = false := decide_eq_false (by omega)
        have hk4 := nb_le hn32
        clear hlt hi hnb
        obtain ⟨k, hk⟩ : ∃ k, k = nb n := ⟨_, rfl⟩
        rw [← hk] at Y d1 hk4 ⊢
        clear hk
        obtain ⟨hL, hX, hb, hpa, hq⟩ := Y.out
        have q7 : IntKind.u8.wrap (7 + (k : Int)) = ((7 + k : Nat) : Int) := by simp [IntKind.wrap, IntKind.bits, IntKind.signed]; omega
        have q8 : IntKind.u8.wrap (n : Int) = (n : Int) := by simp [IntKind.wrap, IntKind.bits, IntKind.signed]; omega
        -- 3, the number of bytes, the length
        obtain ⟨o, ho⟩ : ∃ o, o = Obj.cells (cls [3, 7 + k, n]) 5 := ⟨_, rfl⟩
        have ho2 : o = Obj.cells #[.int .u8 3, .int .u8 ((7 + k : Nat) : Int), .int .u8 (n : Int)] 5 := ho
        obtain ⟨g1, p1, V1, n1, hn1, hr1, hL1, hB1, hK1⟩ := Lb.lit (news := [3, 7 + k, n]) (k := 3) hL hb.size ho rfl (by omega) (by intro c hc; simp at hc; omega) (by omega)
        have hX1 := hK1 _ _ _ (by decide) hX
        have hb1 := hb.trans hB1
        rw [ho2] at hr1
        -- the number
        have c3 : V1.cell? ⟨w.heap.size, 3, none⟩ = some (.int .u32 seq) := hX1.at_ 3
        have F1 := four_any seq hs V1
        have hlen1 : (pre ++ [3, 7 + k, n]).length = n1 := by rw [hn1, hq]; simp
        obtain ⟨g2, p2, V2, n2, hn2, hr2, hL2, hB2, hK2⟩ := Lb.lit (news := four seq) (k := 4) hL1 hb1.size rfl rfl (by omega) (four_lt seq) (by omega)
        have hX2 := hK2 _ _ _ (by decide) hX1
        have hb2 := hb1.trans hB2
        have hlen2 : (pre ++ [3, 7 + k, n] ++ four seq).length = n2 := by rw [hn2, List.length_append, hlen1]; rfl
        -- how far
        have c4 : V2.cell? ⟨w.heap.size, 4, none⟩ = some (.int .u16 met) := hX2.at_ 4
        obtain ⟨o3, ho3⟩ : ∃ o, o = Obj.cells (cls [met / 256 % 256, met % 256]) 5 := ⟨_, rfl⟩
        have ho4 : o3 = Obj.cells #[.int .u8 ((met : Int) / 256), .int .u8 ((met : Int) % 256)] 5 := by
          rw [ho3, show ((met : Int) / 256) = ((met / 256 % 256 : Nat) : Int) by omega, show ((met : Int) % 256) = ((met % 256 : Nat) : Int) by omega]
          rfl
        obtain ⟨g3, p3, V3, n3, hn3, hr3, hL3, hB3, hK3⟩ := Lb.lit (news := [met / 256 % 256, met % 256]) (k := 2) hL2 hb2.size ho3 rfl (by omega) (by intro c hc; simp at hc; omega) (by omega)
        have hX3 := hK3 _ _ _ (by decide) hX2
        have hb3 := hb2.trans hB3
        rw [ho4] at hr3
        have hlen3 : (pre ++ [3, 7 + k, n] ++ four seq ++ [met / 256 % 256, met % 256]).length = n3 := by rw [hn3, List.length_append, hlen2]; rfl
        -- the address
        have c0 : V3.cell? ⟨w.heap.size, 0, none⟩ = some (.int .u32 a) := hX3.at_ 0
        have F3 := four_any a ha V3
        have hN3 := Blk.new V3 5 (cls (four a))
        have hL4 := hL3.held (below_new V3 (.cells (cls (four a)) 5))
        have hb4 := next hb3 (below_new V3 (.cells (cls (four a)) 5))
        have hBy := BytesAt.cls hN3 (four_lt a) (by rw [four_length]; omega)
        have hBk : BytesAt (V3.alloc (.cells (cls (four a)) 5)) (some ⟨V3.heap.size, 0, none⟩) k ((four a).take k) := by
          obtain ⟨b1, b2, b3, b4⟩ := hBy
          exact ⟨by rw [List.length_take, four_length]; omega, by unfold maxLen; omega, fun c hc => b3 c (List.mem_of_mem_take hc), fun j hj => by
            obtain ⟨ad, e1, e2⟩ := b4 j (by rw [four_length]; omega)
            refine ⟨ad, e1, e2.trans ?_⟩
            congr 3
            simp [List.getD, hj]⟩
        obtain ⟨g4, p4, V4, n4, hn4, hr4, hL5, hB4, hK4⟩ := Lb.app0 hL4 hb4.size hBk (by omega) 4
        have hb5 := hb4.trans hB4
        have s3 : ∀ (W : World) (g : Nat), (Instr.slice 35 (.slice (some ⟨g, 0, none⟩) 4 4) none (some (.int .i64 (k : Int))) none).run Try.prog W = .ok (.slice (some ⟨g, 0, none⟩) k 4) W := fun W g => cut_high_run g 0 4 4 k (by omega) W rfl (by omega)
        have hE : ∃ g cap L, (Ending.returned (.slice (some ⟨g4, 0, none⟩) n4 p4)) = .returned (.slice (some ⟨g, 0, none⟩) L cap) ∧ L = PP.length ∧ w.heap.size ≤ g ∧ Ob V4 g cap PP := by
          rw [hpa]
          have hlen4 : (pre ++ [3, 7 + k, n] ++ four seq ++ [met / 256 % 256, met % 256] ++ (four a).take k).length = n4 := by rw [hn4, List.length_append, hlen3, hBk.1]
          obtain ⟨gx, cx, e1, e2, e3⟩ := hL5.ob (by rw [hlen4]; omega)
          cases e1
          exact ⟨_, _, _, rfl, hlen4.symm, e2, e3⟩
        have Z := Lib.hid (And.intro hE hb5)
        clear hn1 hn2 hn3 hn4 hlen1 hlen2 hlen3 hL hL1 hL2 hL3 hL4 hL5 hX hX1 hX2 hX3 hb hb1 hb2 hb3 hb4 hb5 hK1 hK2 hK3 hK4 hB1 hB2 hB3 hB4 hpa hq Y hN3 hBy hBk ho ho2 ho3 ho4 hE
        go_wp2_with (first
          | (at_builtin; refine Lib.wpList_append_run _ rfl (.tmp 25) (.tmp 33) 35 35 rfl _ _ rfl rfl _ _ hr1 ?_)
          | fail)
        clear hr1
        refine F1.mono ?_
        rintro e w' ⟨rfl, rfl⟩
        clear F1 c3
        go_wp2_with (first
          | (at_builtin; refine Lib.wpList_append_run _ rfl (.tmp 35) (.tmp 39) 35 35 rfl _ _ rfl rfl _ _ hr2 ?_)
          | (at_builtin; refine Lib.wpList_append_run _ rfl (.tmp 41) (.tmp 51) 35 35 rfl _ _ rfl rfl _ _ hr3 ?_)
          | fail)
        refine F3.mono ?_
        rintro e w' ⟨rfl, rfl⟩
        clear F3 c0 hr2 hr3 c4
        have s4 := s3 (V3.alloc (.cells (cls (four a)) 5)) V3.heap.size
        clear s3
        go_wp2_with (first
          | (at_builtin; refine Lib.wpList_append_run _ rfl (.tmp 53) (.tmp 59) 35 35 rfl _ _ rfl rfl _ _ hr4 ?_)
          | fail)
        go_ret
        obtain ⟨⟨g, cp, L, e1, e2, e3, e4⟩, hb5⟩ := Z.out
        exact ⟨g, cp, L, e1, e2, e3, e4, hb5⟩
end Go.Proofs.Ytpdbaediepofjaa
