/-
  The contract of package tlv's parts.
-/
import Derived.Test.YtpdbaediepofjaaTlvF
import Derived.Deep.Cut
namespace Go.Proofs.Ytpdbaediepofjaa
open Go.RowKit Tm

/-! ### bytes that the call owns, nil let in -/
def Lb (B : Nat) (v : Value) (bs : List Nat) (W : World) : Prop := W.ownsRow B 5 1 v bs.length (bs.map cell)
section
variable {B : Nat} {v : Value} {bs : List Nat} {W W' : World}
theorem Lb.nil (B : Nat) (W : World) : Lb B (.slice none 0 0) [] W := ⟨rfl, .inl ⟨rfl, rfl⟩⟩
theorem Lb.of_block (h : Lb B v bs W) (hb : ∀ b, v.ownBlock = some b → W'.heap[b]? = W.heap[b]?) : Lb B v bs W' := by
  obtain ⟨h1, h2⟩ := h
  refine ⟨h1, ?_⟩
  rcases h2 with h2 | ⟨g, cap, cur, rfl, h4, h5, h6⟩
  · exact .inl h2
  · exact .inr ⟨g, cap, cur, rfl, h4, (hb g rfl).trans h5, h6⟩
theorem Lb.lt (h : Lb B v bs W) {b : Nat} (hb : v.ownBlock = some b) : b < W.heap.size ∧ B ≤ b := by
  rcases h.2 with ⟨rfl, _⟩ | ⟨g, cap, cur, rfl, h4, h5, _⟩
  · cases hb
  · cases hb
    exact ⟨(Array.getElem?_eq_some_iff.1 h5).1, h4⟩
theorem Lb.held (h : Lb B v bs W) (hb : Below W.heap.size W W') : Lb B v bs W' := h.of_block fun b e => hb.block b (h.lt e).1
theorem Lb.drew (h : Lb B v bs W) : Lb B v bs W.drew := h
theorem Lb.turn {L : List Nat} (h : Lb B v bs W) (t : Turn L W W') (hL : ∀ b, v.ownBlock = some b → b ∉ L) : Lb B v bs W' := h.of_block fun b e => t.block b (h.lt e).1 (hL b e)
theorem Lb.form (h : Lb B v bs W) : ∃ p cap, v = .slice p bs.length cap ∧ bs.length ≤ cap := by
  rcases h.2 with ⟨rfl, h0⟩ | ⟨g, cap, cur, rfl, _, _, h6, _⟩
  · exact ⟨none, 0, by rw [h0], by omega⟩
  · exact ⟨_, cap, rfl, h6⟩
theorem Lb.ob (h : Lb B v bs W) (h0 : 0 < bs.length) : ∃ g cap, v = .slice (some ⟨g, 0, none⟩) bs.length cap ∧ B ≤ g ∧ Ob W g cap bs := by
  rcases h.2 with ⟨rfl, h1⟩ | ⟨g, cap, cur, rfl, h4, h5, h6, h7, h8, h9⟩
  · omega
  · exact ⟨g, cap, rfl, h4, ⟨cur, h5, by omega, h6, h7, by rw [Nat.mul_one] at h9; exact h9⟩⟩
theorem Lb.of_ob {g cap : Nat} (h : Ob W g cap bs) (hB : B ≤ g) : Lb B (.slice (some ⟨g, 0, none⟩) bs.length cap) bs W := by
  obtain ⟨cur, h1, h2, h3, h4, h5⟩ := h
  exact ⟨by simp, .inr ⟨g, cap, cur, rfl, hB, h1, h3, h4, by omega, by rw [Nat.mul_one]; exact h5⟩⟩
/-- 'append(b, x...)' -/
theorem run_lb (h : Lb B v bs W) (hB : B ≤ W.heap.size) {A : Option Addr} {m : Nat} {news : List Nat} (hx : BytesAt W A m news) (h0 : 0 < m) (hm : bs.length + m ≤ 5000) (c : Nat) (ty : TypeId) :
    ∃ g' cap' W', (Builtin.append_ #[35, 35] ty #[v, .slice A m c]).run Try.prog W = .ok (.slice (some ⟨g', 0, none⟩) (bs.length + m) cap') W' ∧ Ob W' g' cap' (bs ++ news) ∧ W.grownBy W' v.ownBlock ∧ B ≤ g' ∧ (v.ownBlock = some g' ∨ g' = W.heap.size) := by
  obtain ⟨i0, hi, hz0, hz1, hz2⟩ := info_parts byte_parts
  obtain ⟨ad, rfl⟩ : ∃ ad, A = some ad := by
    obtain ⟨_, _, _, hc⟩ := hx
    obtain ⟨ad', e, _⟩ := hc 0 h0
    exact ⟨_, e⟩
  obtain ⟨v', u', hr, hown, hgr, hnil, hat⟩ := run_append_own_at (P := Try.prog) W B 35 ty 5 i0 (.int .u8 0) 1 1 (by kernel_rfl) hi hz0 hz1 hz2 rfl (by decide) v _ _ h ad m c (news.map cell) (by simp [hx.1]) (fun j v hv => by
      obtain ⟨hl, -, -, hc⟩ := hx
      have hj : j < m := by
        have := (List.getElem?_eq_some_iff.1 hv).1
        simp at this; omega
      obtain ⟨ad', e, h'⟩ := hc j hj
      cases e
      rw [h', ← hv]
      have hj' : j < news.length := by omega
      simp [hj', cell]) (cell_one _) (maxLen_small hm) (by omega) hB
  rcases hown.2 with ⟨rfl, h1⟩ | ⟨g', cap', cur, rfl, h4, hg, h1, h2, h3, h5⟩
  · have := (hnil.1 rfl).2
    omega
  · refine ⟨g', cap', u', hr, ⟨cur, hg, by omega, by simp [hx.1]; omega, h2, ?_⟩, hgr, h4, ?_⟩
    · rw [List.length_append, hx.1, List.map_append, ← h5, Nat.mul_one]
    · rcases hat with h | h
      · exact .inl (h.symm.trans rfl)
      · exact .inr (by simpa [Value.ownBlock] using h)
end

/-! ### stores into bytes that the call owns -/
theorem Ob.setCell {u : World} {g cap : Nat} {bs : List Nat} (h : Ob u g cap bs) (i : Nat) (x : Nat) : Ob (u.setCell ⟨g, i, none⟩ (cell x)) g cap (bs.set i x) := by
  obtain ⟨cur, h1, h2, h3, h4, h5⟩ := h
  refine ⟨_, h1.store i (cell x), by simpa using h2, by simpa using h3, h4, ?_⟩
  rw [List.length_set, Array.toList_setIfInBounds, List.take_set, h5, List.map_set]
theorem put_ob4 {u : World} {g cap : Nat} {bs : List Nat} (h : Ob u g cap bs) {off v : Nat} (hv : v < 4294967296) (hs : off + 4 ≤ bs.length) (c : Nat) :
    Calls Try.prog 20 #[.slice (some ⟨g, off, none⟩) 4 c, .int .u32 v] u fun e w' => e = .returned (.tuple #[]) ∧ Ob w' g cap (set4 bs off v) ∧ Turn [g] u w' := by
  obtain ⟨cur, h1, h2, h3, h4, h5⟩ := id h
  refine (put_four g off c v hv cur u h1 (by omega)).mono ?_
  rintro e w' ⟨rfl, rfl⟩
  exact ⟨rfl, (((h.setCell _ _).setCell _ _).setCell _ _).setCell _ _, (((Turn.setCell u (by simp) _).trans (Turn.setCell _ (by simp) _)).trans (Turn.setCell _ (by simp) _)).trans (Turn.setCell _ (by simp) _)⟩
theorem put_ob2 {u : World} {g cap : Nat} {bs : List Nat} (h : Ob u g cap bs) {off v : Nat} (hv : v < 65536) (hs : off + 2 ≤ bs.length) (c : Nat) :
    Calls Try.prog 20 #[.slice (some ⟨g, off, none⟩) 2 c, .int .u32 v] u fun e w' => e = .returned (.tuple #[]) ∧ Ob w' g cap (set2 bs off v) ∧ Turn [g] u w' := by
  obtain ⟨cur, h1, h2, h3, h4, h5⟩ := id h
  refine (put_two g off c v hv cur u h1 (by omega)).mono ?_
  rintro e w' ⟨rfl, rfl⟩
  exact ⟨rfl, (h.setCell _ _).setCell _ _, (Turn.setCell u (by simp) _).trans (Turn.setCell _ (by simp) _)⟩

set_option maxHeartbeats 400000 in
theorem parts_any {u : Up} (hr : right u = true) (hf : u.Fits) {id : Nat} (hid : id < 4294967296) (w : World) :
    Calls Try.prog 19 #[.agg (ucs u.a u.len u.id u.seq u.met), .int .u32 id] w fun e w' => ∃ g cap L, e = .returned (.slice (some ⟨g, 0, none⟩) L cap) ∧ L = (parts u id).length ∧ w.heap.size ≤ g ∧ Ob w' g cap (parts u id) ∧ Below w.heap.size w w' := by
  obtain ⟨n, hn⟩ : ∃ n : Nat, u.len = (n : Int) := ⟨u.len.toNat, by have := right_len hr; omega⟩
  have hn32 : n ≤ 32 := by have := right_len hr; omega
  obtain ⟨a, len, uid, seq, met⟩ := u
  simp only at hn
  subst hn
  obtain ⟨ha, -, -, hu, hs, hm⟩ := hf
  simp only at ha hu hs hm
  simp only
  unfold ucs
  have hX := Blk.new w 31 #[.int .u32 a, .int .i64 (n : Nat), .int .u32 uid, .int .u32 seq, .int .u16 met]
  have hb := below_new w (.cells #[.int .u32 a, .int .i64 (n : Nat), .int .u32 uid, .int .u32 seq, .int .u16 met] 31)
  have hsz := size_new w (.cells #[.int .u32 a, .int .i64 (n : Nat), .int .u32 uid, .int .u32 seq, .int .u16 met] 31)
  have c1 : (w.alloc (.cells #[.int .u32 a, .int .i64 (n : Nat), .int .u32 uid, .int .u32 seq, .int .u16 met] 31)).cell? ⟨w.heap.size, 2, none⟩ = some (.int .u32 uid) := hX.at_ 2
  have X := Lib.hid (And.intro hX (And.intro hb hsz))
  clear hX hb hsz
  have hpa : parts ⟨a, (n : Nat), uid, seq, met⟩ id = (if uid = id then [] else 2 :: 4 :: four uid) ++ 3 :: (7 + nb n) :: body ⟨a, (n : Nat), uid, seq, met⟩ := rfl
  obtain ⟨PP, hPP⟩ : ∃ PP, PP = parts ⟨a, (n : Nat), uid, seq, met⟩ id := ⟨_, rfl⟩
  rw [← hPP]
  rw [← hPP] at hpa
  have PH := Lib.hid hpa
  clear hPP hpa
  go_enter Try.func19, Try.ntmps19
  go_upto_if 10 with (fail)
  generalize w.alloc _ = W1 at *
  go_cut [5] from 7 (fun v u => Lb w.heap.size v (if uid = id then [] else 2 :: 4 :: four uid) u ∧ Blk 31 u w.heap.size #[.int .u32 a, .int .i64 (n : Nat), .int .u32 uid, .int .u32 seq, .int .u16 met] ∧ Below w.heap.size w u)
  case first =>
    cases he : ((uid : Int) != (id : Int))
    · have e : uid = id := by
        have h2 : (uid : Int) = id := by simpa using he
        omega
      go_wp2_with fail
      go_meet
      case rel =>
        obtain ⟨hX, hb, -⟩ := X.out
        rw [if_pos e]
        exact ⟨Lb.nil _ _, hX, hb⟩
    · have e : ¬ uid = id := fun e => by subst e; simp at he
      clear he
      obtain ⟨hX, hb, hsz⟩ := X.out
      obtain ⟨o, ho⟩ : ∃ o, o = Obj.cells #[.int .u8 2, .int .u8 4, .int .u8 0, .int .u8 0, .int .u8 0, .int .u8 0] 5 := ⟨_, rfl⟩
      have hN : Blk 5 (W1.alloc o) W1.heap.size (cls [2, 4, 0, 0, 0, 0]) := by rw [ho]; exact Blk.new W1 _ _
      have hX2 := hX.more o
      have hb2 := next hb (below_new W1 o)
      have hle := hb2.size
      have hBy := BytesAt.cls hN (by decide) (by decide)
      obtain ⟨g', cap', W3, hrun, hO3, hg3, hB3, hat⟩ := run_lb (B := w.heap.size) (Lb.nil w.heap.size (W1.alloc o)) hle (c := 6) hBy (by simp) (by simp) 35
      have hrun2 : (Builtin.append_ #[35, 35] 35 #[.slice none 0 0, .slice (some ⟨W1.heap.size, 0, none⟩) 6 6]).run Try.prog (W1.alloc (.cells #[.int .u8 2, .int .u8 4, .int .u8 0, .int .u8 0, .int .u8 0, .int .u8 0] 5)) = .ok (.slice (some ⟨g', 0, none⟩) 6 cap') W3 := by rw [← ho]; exact hrun
      have hO3' : Ob W3 g' cap' [2, 4, 0, 0, 0, 0] := hO3
      obtain ⟨A', hA'⟩ : ∃ A' : Option Addr, A' = some ⟨g', 2, none⟩ := ⟨_, rfl⟩
      obtain ⟨c', hc'⟩ : ∃ c', c' = cap' - 2 := ⟨_, rfl⟩
      have hcap' : 6 ≤ cap' := by obtain ⟨_, _, _, h, _⟩ := hO3'; simpa using h
      have s2 : ∀ W : World, (Instr.slice 35 (.slice (some ⟨g', 0, none⟩) 6 cap') (some (.int .i64 2)) none none).run Try.prog W = .ok (.slice (some ⟨g', 2, none⟩) 4 c') W := fun W => cut_low_run _ 6 cap' 2 (by omega) hcap' W (z := 2) rfl (by rw [if_neg (by omega)]; rfl) rfl hc'
      have hX3 : Blk 31 W3 w.heap.size #[.int .u32 a, .int .i64 (n : Nat), .int .u32 uid, .int .u32 seq, .int .u16 met] := (hg3.block _ hX2.lt (by simp [Value.ownBlock])).trans hX2
      have hb3 := hb2.grown hg3 hle (fun kk e => by cases e)
      have hne : g' ≠ w.heap.size := by
        rcases hat with h | h
        · cases h
        · have := hX2.lt
          omega
      have c3 : W3.cell? ⟨w.heap.size, 1 + 1, none⟩ = some (.int .u32 uid) := hX3.at_ 2
      have P := put_ob4 (u := W3.drew) hO3'.drew (off := 2) hu (by simp) c'
      have Y := Lib.hid (And.intro hX3 (And.intro hb3 (And.intro hne hB3)))
      clear hN hX2 hb2 hle hBy hrun hO3 hO3' hg3 hat hA' A' hX3 hb3 hne hc' hcap' hX hb hsz
      go_wp2_with (first | (at_builtin; refine Lib.wpList_append_run _ rfl (.tmp 11) (.tmp 12) 35 35 rfl _ _ rfl rfl _ _ hrun2 ?_) | fail)
      go_still_tail 4, (by kernel_rfl)
      change wpList _ _ _ _ _ W3.drew
      go_wp2_with fail
      refine P.mono ?_
      rintro e w4 ⟨rfl, hO4, hT4⟩
      go_wp2_with fail
      go_meet
      case rel =>
        obtain ⟨hX3, hb3, hne, hB3⟩ := Y.out
        rw [if_neg e]
        exact ⟨Lb.of_ob hO4 hB3, hX3.drew.turn hT4 (by simp; omega), hb3.drew.trans (hT4.below (B := w.heap.size) (by simp; omega) hb3.size)⟩
  case rest =>
    clear X c1
    obtain ⟨hL, hX, hb⟩ := hcut
    have hbl : (body ⟨a, (n : Nat), uid, seq, met⟩).length = 7 + nb n := body_length hr
    have hbt := body_lt hr
    have hnb := nb_le hn32
    have hpa := PH.out
    clear PH
    have hpl : (if uid = id then ([] : List Nat) else 2 :: 4 :: four uid).length ≤ 6 := by split <;> simp [four_length]
    generalize (if uid = id then ([] : List Nat) else 2 :: 4 :: four uid) = pre at *
    obtain ⟨p, cap, hv, hcap⟩ := hL.form
    obtain ⟨q, hq⟩ : ∃ q, q = pre.length := ⟨_, rfl⟩
    rw [← hq] at hv hpl hcap
    subst hv
    have c0 : wc.cell? ⟨w.heap.size, 0, none⟩ = some (.int .u32 a) := hX.at_ 0
    have c1 : wc.cell? ⟨w.heap.size, 1, none⟩ = some (.int .i64 (n : Nat)) := hX.at_ 1
    have c2 : wc.cell? ⟨w.heap.size, 2, none⟩ = some (.int .u32 uid) := hX.at_ 2
    have c3 : wc.cell? ⟨w.heap.size, 3, none⟩ = some (.int .u32 seq) := hX.at_ 3
    have c4 : wc.cell? ⟨w.heap.size, 4, none⟩ = some (.int .u16 met) := hX.at_ 4
    have B := body_any a n uid seq met ha hn32 hs hm wc
    generalize body ⟨a, (n : Nat), uid, seq, met⟩ = bd at *
    have PH := Lib.hid hpa
    have Y := Lib.hid (And.intro hL (And.intro hb (And.intro hbl (And.intro hbt (And.intro hq hcap)))))
    clear hpa hL hb hbl hbt hq hcap hX hr
    go_wp2_with fail
    refine B.mono ?_
    rintro e w5 ⟨g5, L5, rfl, hL5, hg5, hG5, hb5⟩
    clear B c0 c1 c2 c3 c4
    obtain ⟨hL, hb, hbl, hbt, hq, hcap⟩ := Y.out
    have hL2 := hL.held hb5
    have hb2 := next hb hb5
    have hlt : ∀ b, (Value.slice p q cap).ownBlock = some b → b ≠ g5 := fun b e h => by have := (hL.lt e).1; omega
    clear Y hL hb hg5 hb5
    rw [← hL5] at hbl
    have hL5a : L5 ≤ 11 := by omega
    have hL57 : 7 ≤ L5 := by omega
    have q5 : IntKind.u8.wrap (L5 : Int) = L5 := by simp [IntKind.wrap, IntKind.bits, IntKind.signed]; omega
    obtain ⟨o, ho⟩ : ∃ o, o = Obj.cells #[.int .u8 3, .int .u8 (L5 : Nat)] 5 := ⟨_, rfl⟩
    have hN : Blk 5 (w5.alloc o) w5.heap.size (cls [3, L5]) := by rw [ho]; exact Blk.new w5 _ _
    have hL3 := hL2.held (below_new w5 o)
    have hG3 := hG5.more o
    have hb3 := next hb2 (below_new w5 o)
    have hle := hb3.size
    have hBy := BytesAt.cls hN (by intro c hc; simp at hc; omega) (by simp)
    obtain ⟨g6, cap6, W6, hrun, hO6, hg6, hB6, hat⟩ := run_lb hL3 hle (c := 2) hBy (by simp) (by simp; omega) 35
    have hrun2 : (Builtin.append_ #[35, 35] 35 #[.slice p q cap, .slice (some ⟨w5.heap.size, 0, none⟩) 2 2]).run Try.prog (w5.alloc (.cells #[.int .u8 3, .int .u8 (L5 : Nat)] 5)) = .ok (.slice (some ⟨g6, 0, none⟩) (q + 2) cap6) W6 := by rw [← ho, hq]; rw [hq] at hrun; exact hrun
    have hG6 : Blk 5 W6 g5 (cls bd) := (hg6.block _ hG3.lt (fun e => hlt _ e.symm rfl)).trans hG3
    have hb6 := hb3.grown hg6 hle (fun kk e => (hL3.lt e).2)
    have hBd : BytesAt W6 (some ⟨g5, 0, none⟩) L5 bd := by rw [← hbl]; exact BytesAt.cls hG6 hbt (by omega)
    obtain ⟨g7, cap7, W7, hrun3, hO7, hT7, hat7⟩ := run_app hO6 hBd (by simp; omega) L5 35
    have hb7 := hb6.trans (hT7.below (B := w.heap.size) (by simp; exact hB6) hb6.size)
    have hB7 : w.heap.size ≤ g7 := by rcases hat7 with rfl | h; exact hB6; exact Nat.le_trans hb6.size h
    obtain ⟨q7, hq7⟩ : ∃ q7, q7 = q + 2 + L5 := ⟨_, rfl⟩
    have hrun4 : (Builtin.append_ #[35, 35] 35 #[.slice (some ⟨g6, 0, none⟩) (q + 2) cap6, .slice (some ⟨g5, 0, none⟩) L5 L5]).run Try.prog W6 = .ok (.slice (some ⟨g7, 0, none⟩) q7 cap7) W7 := by
      rw [hq7, hq]; simpa using hrun3
    have hql : q7 = (pre ++ 3 :: L5 :: bd).length := by rw [hq7, hq]; simp; omega
    have hO8 : Ob W7 g7 cap7 (pre ++ 3 :: L5 :: bd) := by simpa using hO7
    have Z := Lib.hid (And.intro hL5 (And.intro hql (And.intro hB7 (And.intro hO8 hb7))))
    obtain ⟨q6, hq6⟩ : ∃ q6, q6 = q + 2 := ⟨_, rfl⟩
    rw [← hq6] at hrun2 hrun4
    clear hL5 hG5 hbl hbt hq hcap hL2 hb2 hlt hN hL3 hG3 hb3 hle hBy hrun hO6 hg6 hB6 hat hG6 hb6 hBd hrun3 hO7 hT7 hat7 hb7 hB7 hq7 hql hO8 hq6
    go_wp2_with (first
      | (at_builtin; refine Lib.wpList_append_run _ rfl (.tmp 21) (.tmp 25) 35 35 rfl _ _ rfl rfl _ _ hrun2 ?_)
      | (at_builtin; refine Lib.wpList_append_run _ rfl (.tmp 27) (.tmp 28) 35 35 rfl _ _ rfl rfl _ _ hrun4 ?_)
      | fail)
    go_ret
    obtain ⟨hL5, hql, hB7, hO8, hb7⟩ := Z.out
    rw [PH.out, ← hL5]
    exact ⟨g7, cap7, q7, rfl, hql, hB7, hO8, hb7⟩
end Go.Proofs.Ytpdbaediepofjaa
