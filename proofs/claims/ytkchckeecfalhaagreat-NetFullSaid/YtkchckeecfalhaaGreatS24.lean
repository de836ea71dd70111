/-
  Package router: told.
  Lists that a function owns, of whatever elements: nothing, push, read. No program's own text in sight.
  Package router: a datagram cloned; datagrams to neighbours in memory.
  A loop over what an iterator yields, where the iterator is a loop itself; a round may leave it by a return.
  Package router: whether some prefix is its own.
-/
import Derived.Test.YtkchckeecfalhaaGreatS22
import Derived.Test.YtkchckeecfalhaaGreatS23
import Derived.Test.YtkchckeecfalhaaGreatS01
import Derived.Maps.AppendAt
import Derived.Test.YtkchckeecfalhaaGreatS15
import Derived.Test.YtkchckeecfalhaaGreatS17
import Derived.Test.YtkchckeecfalhaaGreatS18
namespace Go.Proofs.YtkchckeecfalhaaGreat
open Go.RowKit Go.Maps Rm Fm Sb

theorem Mr.needS_drop {M : Mr} {rs : List En} {k : Nat} (hk : k < rs.length) : M.needS (rs.drop k) = M.need rs[k] + (M.tell1 rs[k]).2.needS (rs.drop (k + 1)) := by
  rw [List.drop_eq_getElem_cons hk]
  rfl
theorem tellS_take {M : Mr} {rs : List En} {k : Nat} (hk : k < rs.length) : M.tellS (rs.take (k + 1)) = ((M.tellS (rs.take k)).1 ++ ((M.tellS (rs.take k)).2.tell1 rs[k]).1, ((M.tellS (rs.take k)).2.tell1 rs[k]).2) := by
  rw [List.take_add_one, List.getElem?_eq_getElem hk]
  exact Mr.tellS_snoc _ _ _
theorem lu_mono {B B' : Nat} {v : Value} {us : List T.Tm.Up} {w : World} (h : T.Lu B v us w) (hB : B' ≤ B) : T.Lu B' v us w := by
  obtain ⟨⟨h1, h2⟩, h3⟩ := h
  refine ⟨⟨h1, ?_⟩, h3⟩
  rcases h2 with h2 | ⟨g, cap, cur, rfl, h4, h5⟩
  · exact .inl h2
  · exact .inr ⟨g, cap, cur, rfl, Nat.le_trans hB h4, h5⟩
/-- while it is told: behind k subjects -/
structure TdR (F : List Nat) (W1 : World) (R room sp : Nat) (M : Mr) (rs : List En) (k : Nat) (v : Value) (w : World) : Prop where
  ex : ∃ F', Rz F' w R (room + (M.tellS (rs.take k)).2.needS (rs.drop k)) sp (M.tellS (rs.take k)).2 ∧ Turn F W1 w ∧ (∀ y, y ∈ F' → y ∈ F ∨ W1.heap.size ≤ y) ∧ ∀ b, v.ownBlock = some b → b ∉ F'
  lu : T.Lu W1.heap.size v (M.tellS (rs.take k)).1 w

/-- behind 'append(list, u)' -/
theorem us_push {B : Nat} {p : Option Addr} {n c : Nat} {us : List T.Tm.Up} {w : World} (h : T.Lu B (.slice p n c) us w) (hle : B ≤ w.heap.size) (hbig : us.length ≤ 1000) (x : T.Tm.Up) :
    ∃ g' cap' W6, (Builtin.append_ #[104, 104] 104 #[.slice p n c, .slice (some ⟨w.heap.size, 0, none⟩) 1 1]).run Tryz.prog (w.alloc (.cells #[.int .u32 x.a, .int .i64 x.len, .int .u32 x.id, .int .u32 x.seq, .int .u16 x.met] 123)) = .ok (.slice (some ⟨g', 0, none⟩) (us.length + 1) cap') W6 ∧ T.Lu B (.slice (some ⟨g', 0, none⟩) (us.length + 1) cap') (us ++ [x]) W6 ∧ Turn (Value.slice p n c).ownBlock.toList w W6 ∧ ((Value.slice p n c).ownBlock = some g' ∨ w.heap.size < g') := by
  have hb := below_new w (.cells #[.int .u32 x.a, .int .i64 x.len, .int .u32 x.id, .int .u32 x.seq, .int .u16 x.met] 123)
  have hX := Blk.new w 123 #[.int .u32 x.a, .int .i64 x.len, .int .u32 x.id, .int .u32 x.seq, .int .u16 x.met]
  have hs := size_new w (.cells #[.int .u32 x.a, .int .i64 x.len, .int .u32 x.id, .int .u32 x.seq, .int .u16 x.met] 123)
  have h5 := h.held hb
  obtain ⟨g', cap', W6, hrun, h6, hg6, hat⟩ := T.run_us h5 (Nat.le_trans hle hb.size) (ad := ⟨w.heap.size, 0, none⟩) (m := 1) (c := 1) (news := [x]) rfl (fun jj vv hv => by
    rw [Addr.add_mid, Nat.zero_add, hX.at_ jj]
    simpa [T.ucl, T.Tm.Up.cs, T.ucs] using hv) (by omega) (by omega) 104
  refine ⟨g', cap', W6, hrun, h6, ⟨hg6.os.trans hb.os, hg6.tape.trans hb.tape, hg6.output.trans hb.output, Nat.le_trans hb.size hg6.size, fun i hi hn => ?_⟩, ?_⟩
  · refine (hg6.block i (by omega) (fun e => ?_)).trans (hb.block i hi)
    rw [← e] at hn
    simp at hn
  · rcases hat with h | h
    · exact .inl h
    · exact .inr (by omega)

set_option maxHeartbeats 4000000 in
set_option maxRecDepth 100000 in
theorem rz_told {F : List Nat} {w : World} {R room sp : Nat} {M : Mr} {N n m : Nat} (h : Rz F w R (room + m) sp M) (hG : M.Good) (hf : Few M N n) (hn : 2 * N + n < 20) (hm : ∀ rs, Subj M rs → M.needS rs ≤ m) :
    Calls Tryz.prog 129 #[.pointer (some ⟨R, 0, none⟩)] w fun e w' => ∃ v rs, e = .returned v ∧ Subj M rs ∧ T.Lu w.heap.size v (M.tellS rs).1 w' ∧ Goes F w R room sp (M.tellS rs).2 w' := by
  have HS := rz_subj h hf hn
  have X := Lib.hid (And.intro h (And.intro hG hm))
  clear h hG hf hn hm
  go_enter Tryz.func129, Tryz.ntmps129
  go_wp2_with fail
  refine HS.mono ?_
  rintro e w1 ⟨v, rs, rfl, hS, hl20, hat, hown, hb⟩
  obtain ⟨p, cap, rfl⟩ := hat.form
  have h1 := X.out.1.held hb
  have hrl : rs.length ≤ 100 := by omega
  have hmm := X.out.2.2 rs hS
  have hroom : Rz F w1 R (room + M.needS rs) sp M := by
    obtain ⟨o, fl, tb, j, N, n, S, Mp, dn, safe, wn, hF', hR, hD, hd, q1, q2, q3, q4, q5⟩ := h1.ex
    exact ⟨o, fl, tb, j, N, n, S, Mp, dn, safe, wn, hF', hR, hD, hd, q1, by omega, q3, by omega, q5⟩
  have R0 : TdR F w1 R room sp M rs 0 (.slice none 0 0) w1 := ⟨⟨F, hroom, .refl _ _, fun _ h => .inl h, fun b e => by cases e⟩, T.Lu.nil _ _⟩
  have hFs : ∀ b, (Value.slice p rs.length cap).ownBlock = some b → b ∉ F ∧ b < w1.heap.size := fun b e => ⟨fun hm => by have := X.out.1.lt hm; have := hown b e; omega, by
    rcases hat with ⟨e2, -⟩ | ⟨g, cap', e2, hg, -⟩
    · rw [e2] at e; cases e
    · rw [e2] at e; cases e; exact hg⟩
  have HR := Lib.hid R0
  have Y := Lib.hid (And.intro hS (And.intro hat (And.intro hb (And.intro h1 hFs))))
  clear HS R0 hS hat hown hb h1 hmm hroom hFs
  go_wp2_with fail
  go_loopw [3, 11] (fun l i wr => ∃ k : Nat, k ≤ rs.length ∧ i = .int .i64 k ∧ Hid (TdR F w1 R room sp M rs k l wr)) (fun _ i _ => rs.length - (intOf i).toNat)
  case atStart => exact ⟨0, by omega, rfl, HR.out⟩
  case round =>
    clear HR
    obtain ⟨k, hk, rfl, hR⟩ := hrel
    by_cases hkl : k < rs.length
    · rcases Y.out.2.1 with ⟨e, hnil⟩ | ⟨g, cap', e, hg, hc, Fq, hS, hF⟩
      · rw [hnil] at hkl
        simp at hkl
      · cases e
        obtain ⟨F', hz, t1, n1, hv⟩ := hR.out.ex
        have hS2 := hS.of_block (t1.block g hg (Y.out.2.2.2.2 _ rfl).1)
        have hFk := hF k hkl
        obtain ⟨⟨ea, en, on⟩, he⟩ : ∃ e, rs[k] = e := ⟨_, rfl⟩
        rw [he] at hFk
        have c0 := hS2.c0 k hkl
        have c1 := hS2.c1 k hkl
        have c2 := hS2.c2 k hkl
        rw [hFk] at c0 c1 c2
        dsimp only at c0 c1 c2
        have hp := Y.out.1.ok (List.getElem_mem hkl)
        rw [he] at hp
        dsimp only at hp
        have b1 := below_new wr (.cells #[.int .u32 ea, .int .i64 en, .bool on] 194)
        have E1 := Blk.new wr 194 #[.int .u32 ea, .int .i64 en, .bool on]
        have hz1 := hz.held b1
        rw [Mr.needS_drop hkl, he, show room + ((M.tellS (rs.take k)).2.need ⟨ea, en, on⟩ + ((M.tellS (rs.take k)).2.tell1 ⟨ea, en, on⟩).2.needS (rs.drop (k + 1))) = (room + ((M.tellS (rs.take k)).2.tell1 ⟨ea, en, on⟩).2.needS (rs.drop (k + 1))) + (M.tellS (rs.take k)).2.need ⟨ea, en, on⟩ by omega] at hz1
        have HU := rz_update hz1 (X.out.2.1.of_f (Mr.tellS_f _ _)) hp
        obtain ⟨Ln, hLn⟩ : ∃ Ln, (M.tellS (rs.take k)).1.length = Ln := ⟨_, rfl⟩
        have hLl : Ln ≤ 100 := by
          have := Mr.tellS_len (rs.take k) M
          rw [List.length_take] at this
          omega
        obtain ⟨p0, cc, rfl, -⟩ := hR.out.lu.form
        have hv' : ∀ b, (Value.slice p0 (M.tellS (rs.take k)).1.length cc).ownBlock = some b → b ∉ F' := hv
        rw [hLn]
        have lu2 := hR.out.lu.held b1
        have t2 := t1.and_below b1
        have hs2 : w1.heap.size ≤ (wr.alloc (.cells #[.int .u32 ea, .int .i64 en, .bool on] 194)).heap.size := t2.size
        have Z := Lib.hid (And.intro lu2 (And.intro he (And.intro hLn (And.intro t2 (And.intro n1 (And.intro hv' hs2))))))
        clear lu2 t2 hs2 hLn hR hS hS2 hF hFk he hc hz t1 n1 hv hv' hz1 hg
        go_upto_region 5 with fail
        generalize wr.alloc (.cells #[.int .u32 ea, .int .i64 en, .bool on] 194) = w2 at *
        generalize wr.heap.size = Ee at *
        clear c0 c1 c2
        have e0 : w2.cell? ⟨Ee, 0, none⟩ = some (.int .u32 ea) := E1.at_ 0
        have e1 : w2.cell? ⟨Ee, 1, none⟩ = some (.int .i64 en) := E1.at_ 1
        have e2 : w2.cell? ⟨Ee, 2, none⟩ = some (.bool on) := E1.at_ 2
        go_upto_region 6 with (go_at_call 185; refine HU.mono ?_; rintro e w3 ⟨⟨xa, xl, xi, xs, xm⟩, ok, rfl, hu, F3, hz3, t3, n3⟩)
        obtain ⟨lu2, he, hLn, t2, n1, hv', hs2⟩ := Z.out
        have hb4 := below_new w3 (.cells #[.int .u32 xa, .int .i64 xl, .int .u32 xi, .int .u32 xs, .int .u16 xm] 123)
        have U4 := Blk.new w3 123 #[.int .u32 xa, .int .i64 xl, .int .u32 xi, .int .u32 xs, .int .u16 xm]
        have hok : (if ok = true then [(⟨xa, xl, xi, xs, xm⟩ : T.Tm.Up)] else []) = ((M.tellS (rs.take k)).2.tell1 ⟨ea, en, on⟩).1 := hu
        have lu3 := lu2.turn t3 hv'
        have T3 := t2.beyond t3 n1
        have N3 : ∀ y, y ∈ F3 → y ∈ F ∨ w1.heap.size ≤ y := fun y hy => (n3 y hy).elim (n1 y) (fun h => .inr (Nat.le_trans hs2 h))
        have V3 : ∀ b, (Value.slice p0 (M.tellS (rs.take k)).1.length cc).ownBlock = some b → b ∉ F3 := fun b e hm => (n3 b hm).elim (hv' b e) (fun h => by have := (lu2.lt e).1; omega)
        have lu4 := lu3.held hb4
        have T4 := T3.and_below hb4
        have hz4 := hz3.held hb4
        have hTk := tellS_take hkl (M := M)
        rw [he, ← hok] at hTk
        have S := Lib.hid (And.intro lu4 (And.intro T4 (And.intro hz4 (And.intro N3 (And.intro V3 (And.intro hTk hLn))))))
        clear HU e0 e1 e2 E1 lu2 he hLn t2 n1 hv' hs2 hb4 hok hu lu3 T3 N3 V3 lu4 T4 hz4 hTk hz3 t3 n3 Z
        generalize w3.alloc (.cells #[.int .u32 xa, .int .i64 xl, .int .u32 xi, .int .u32 xs, .int .u16 xm] 123) = w4 at *
        generalize w3.heap.size = Ug at *
        have u0 : w4.cell? ⟨Ug, 0, none⟩ = some (.int .u32 xa) := U4.at_ 0
        have u1 : w4.cell? ⟨Ug, 1, none⟩ = some (.int .i64 xl) := U4.at_ 1
        have u2 : w4.cell? ⟨Ug, 2, none⟩ = some (.int .u32 xi) := U4.at_ 2
        have u3 : w4.cell? ⟨Ug, 3, none⟩ = some (.int .u32 xs) := U4.at_ 3
        have u4 : w4.cell? ⟨Ug, 4, none⟩ = some (.int .u16 xm) := U4.at_ 4
        clear U4
        cases ok with
        | true =>
          obtain ⟨g', cap2, W6, hrun, hL6, T6, hg6⟩ := us_push S.out.1 S.out.2.1.size (by rw [S.out.2.2.2.2.2.2]; omega) ⟨xa, xl, xi, xs, xm⟩
          rw [S.out.2.2.2.2.2.2] at hrun hL6
          obtain ⟨L1, hL1⟩ : ∃ L1, Ln + 1 = L1 := ⟨_, rfl⟩
          rw [hL1] at hrun hL6
          clear hL1
          have hsub : ∀ y, y ∈ (Value.slice p0 (M.tellS (rs.take k)).1.length cc).ownBlock.toList → (Value.slice p0 (M.tellS (rs.take k)).1.length cc).ownBlock = some y := fun y hy => by simpa using hy
          have G := Lib.hid (show TdR F w1 R room sp M rs (k + 1) (.slice (some ⟨g', 0, none⟩) L1 cap2) W6 from ⟨by
            rw [S.out.2.2.2.2.2.1]
            refine ⟨F3, S.out.2.2.1.turn T6 (fun x hx hm => S.out.2.2.2.2.1 x (hsub x hm) hx), S.out.2.1.beyond T6 (fun y hy => .inr (S.out.1.lt (hsub y hy)).2), S.out.2.2.2.1, fun b e hm => ?_⟩
            cases e
            rcases hg6 with h | h
            · exact S.out.2.2.2.2.1 _ h hm
            · have : g' < w4.heap.size := S.out.2.2.1.lt hm
              omega, by
            rw [S.out.2.2.2.2.2.1]
            exact hL6⟩)
          clear hL6 T6 hg6 S hsub
          go_wp2_with (first | (at_builtin; refine Lib.wpList_append_run _ rfl (.tmp 22) (.tmp 24) 104 104 rfl _ _ rfl rfl _ _ hrun ?_) | fail)
          go_roundw
          case rel => exact ⟨k + 1, by omega, by go_num, G.out⟩
          case measure => simp [intOf]; omega
        | false =>
          have G := Lib.hid (show TdR F w1 R room sp M rs (k + 1) (.slice p0 Ln cc) w4 from ⟨by
            rw [S.out.2.2.2.2.2.1]
            refine ⟨F3, S.out.2.2.1, S.out.2.1, S.out.2.2.2.1, fun b e => ?_⟩
            rw [← S.out.2.2.2.2.2.2] at e
            exact S.out.2.2.2.2.1 b e, by
            rw [S.out.2.2.2.2.2.1, if_neg (by decide), List.append_nil, ← S.out.2.2.2.2.2.2]
            exact S.out.1⟩)
          clear S
          go_wp2_with fail
          go_roundw
          case rel => exact ⟨k + 1, by omega, by go_num, G.out⟩
          case measure => simp [intOf]; omega
    · have hk2 : k = rs.length := by omega
      subst hk2
      obtain ⟨⟨F', hz, t1, n1, hv⟩, hf⟩ := hR.out
      rw [List.take_length] at hf hz
      rw [List.drop_length] at hz
      have H := Lib.hid (And.intro hf (And.intro (show Goes F w1 R room sp (M.tellS rs).2 _ from ⟨F', hz, t1, n1⟩) Y.out.2.2.1))
      clear hf hz t1 n1 hv hR
      go_wp2_with fail
      go_ret
      exact ⟨_, rs, rfl, Y.out.1, lu_mono H.out.1 Y.out.2.2.1.size, Goes.before H.out.2.2 H.out.2.1⟩
end Go.Proofs.YtkchckeecfalhaaGreat

namespace Go.Proofs.YtkchckeecfalhaaGreat
open Go.RowKit Go.Maps

/-- what a slice type's elements are -/
structure Elem {α : Type} (P : Program) (t e : TypeId) (cl : α → List Value) (k bytes : Nat) : Prop where
  ht : P.underlying t = some (.slice e)
  info : ∃ i z, P.info? e = some i ∧ i.zero = some z ∧ i.size = k ∧ i.bytes = bytes ∧ z.cells.size = k
  pos : 0 < k
  len : ∀ x, (cl x).length = k
  one : ∀ x, ∀ v ∈ cl x, v.oneCell' = true
  small : bytes ≤ 1000
theorem elem_info {P : Program} {e : TypeId} {z : Value} {k b : Nat} (h : (P.info? e).map (fun i => (i.zero, i.size, i.bytes)) = some (some z, k, b)) (hz : z.cells.size = k) : ∃ i z, P.info? e = some i ∧ i.zero = some z ∧ i.size = k ∧ i.bytes = b ∧ z.cells.size = k := by
  cases hi : P.info? e with
  | none => rw [hi] at h; cases h
  | some i =>
    rw [hi] at h
    simp only [Option.map_some, Option.some.injEq, Prod.mk.injEq] at h
    exact ⟨i, z, rfl, h.1, h.2.1, h.2.2, hz⟩

section
variable {α : Type} {P : Program} {t e : TypeId} {cl : α → List Value} {k bytes : Nat}
theorem cl_flat_len (hk : ∀ x, (cl x).length = k) (xs : List α) : (xs.flatMap cl).length = xs.length * k := by
  induction xs with
  | nil => simp
  | cons x r ih => rw [List.flatMap_cons, List.length_append, ih, hk, List.length_cons, Nat.add_mul, Nat.one_mul, Nat.add_comm]
theorem cl_flat_get (hk : ∀ x, (cl x).length = k) : ∀ (xs : List α) (i : Nat) (h : i < xs.length) (j : Nat), j < k → (xs.flatMap cl)[i * k + j]? = (cl xs[i])[j]?
  | [], i, h, _, _ => by simp at h
  | x :: r, 0, h, j, hj => by
    rw [List.flatMap_cons, Nat.zero_mul, Nat.zero_add, List.getElem?_append_left (by rw [hk]; exact hj)]
    rfl
  | x :: r, i + 1, h, j, hj => by
    rw [List.flatMap_cons, List.getElem?_append_right (by rw [hk, Nat.add_mul]; omega), hk, show (i + 1) * k + j - k = i * k + j by rw [Nat.add_mul]; omega]
    rw [cl_flat_get hk r i (by simpa using h) j hj]
    rfl

/-- v is a list of the call's own, from block B on -/
def Ol (e : TypeId) (cl : α → List Value) (k : Nat) (B : Nat) (v : Value) (xs : List α) (W : World) : Prop := W.ownsRow B e k v xs.length (xs.flatMap cl)
variable {B : Nat} {v : Value} {xs : List α} {W W' : World}
theorem Ol.nil (B : Nat) (W : World) : Ol e cl k B (.slice none 0 0) [] W := ⟨by simp, .inl ⟨rfl, rfl⟩⟩
theorem Ol.of_block (h : Ol e cl k B v xs W) (hb : ∀ b, v.ownBlock = some b → W'.heap[b]? = W.heap[b]?) : Ol e cl k B v xs W' := by
  obtain ⟨h1, h2⟩ := h
  refine ⟨h1, ?_⟩
  rcases h2 with h2 | ⟨g, cap, cur, rfl, h4, h5, h6⟩
  · exact .inl h2
  · exact .inr ⟨g, cap, cur, rfl, h4, (hb g rfl).trans h5, h6⟩
theorem Ol.lt (h : Ol e cl k B v xs W) {b : Nat} (hb : v.ownBlock = some b) : b < W.heap.size ∧ B ≤ b := by
  rcases h.2 with ⟨rfl, _⟩ | ⟨g, cap, cur, rfl, h4, h5, _⟩
  · cases hb
  · cases hb
    exact ⟨(Array.getElem?_eq_some_iff.1 h5).1, h4⟩
theorem Ol.held (h : Ol e cl k B v xs W) (hb : Below W.heap.size W W') : Ol e cl k B v xs W' := h.of_block fun b e => hb.block b (h.lt e).1
theorem Ol.turn {L : List Nat} (h : Ol e cl k B v xs W) (t : Turn L W W') (hL : ∀ b, v.ownBlock = some b → b ∉ L) : Ol e cl k B v xs W' := h.of_block fun b e => t.block b (h.lt e).1 (hL b e)
theorem Ol.mono (h : Ol e cl k B v xs W) {B' : Nat} (hB : B' ≤ B) : Ol e cl k B' v xs W := by
  obtain ⟨h1, h2⟩ := h
  refine ⟨h1, ?_⟩
  rcases h2 with h2 | ⟨g, cap, cur, rfl, h4, h5⟩
  · exact .inl h2
  · exact .inr ⟨g, cap, cur, rfl, Nat.le_trans hB h4, h5⟩
theorem Ol.form (h : Ol e cl k B v xs W) : ∃ p cap, v = .slice p xs.length cap ∧ xs.length ≤ cap := by
  rcases h.2 with ⟨rfl, h0⟩ | ⟨g, cap, cur, rfl, _, _, h6, _⟩
  · exact ⟨none, 0, by rw [h0], by omega⟩
  · exact ⟨_, cap, rfl, h6⟩
/-- its cells -/
theorem Ol.at_ (hk : ∀ x, (cl x).length = k) (h : Ol e cl k B v xs W) {i : Nat} (hi : i < xs.length) : ∃ g cap, v = .slice (some ⟨g, 0, none⟩) xs.length cap ∧ xs.length ≤ cap ∧ cap ≤ maxLen ∧ ∀ j, j < k → W.cell? ⟨g, i * k + j, none⟩ = (cl xs[i])[j]? := by
  rcases h.2 with ⟨rfl, h0⟩ | ⟨g, cap, cur, rfl, h4, h5, h6, h7, h8, h9⟩
  · omega
  · refine ⟨g, cap, rfl, h6, h7, fun j hj => ?_⟩
    have h5' : Blk e W g cur := h5
    rw [h5'.at_, ← cl_flat_get hk xs i hi j hj, ← h9, List.getElem?_take, if_pos]
    · simp
    · have := Nat.mul_le_mul_right k (show i + 1 ≤ xs.length from hi)
      rw [Nat.add_mul, Nat.one_mul] at this
      omega
/-- behind 'append(list, x)' -/
theorem Ol.push (E : Elem P t e cl k bytes) (h : Ol e cl k B v xs W) (hB : B ≤ W.heap.size) {ad : Addr} {c : Nat} (x : α) (hx : ∀ j u, (cl x)[j]? = some u → W.cell? (ad.add j) = some u) (hbig : xs.length ≤ 1000000) (ty : TypeId) :
    ∃ g' cap' W', (Builtin.append_ #[t, t] ty #[v, .slice (some ad) 1 c]).run P W = .ok (.slice (some ⟨g', 0, none⟩) (xs.length + 1) cap') W' ∧ Ol e cl k B (.slice (some ⟨g', 0, none⟩) (xs.length + 1) cap') (xs ++ [x]) W' ∧ W.grownBy W' v.ownBlock ∧ (v.ownBlock = some g' ∨ g' = W.heap.size) := by
  obtain ⟨i0, z, hi, hz0, hz1, hz2, hz3⟩ := E.info
  obtain ⟨v', W', hr, hown, hgr, hnil, hat⟩ := run_append_own_at (P := P) W B t ty e i0 z k bytes E.ht hi hz0 hz1 hz2 hz3 E.pos v xs.length (xs.flatMap cl) h ad 1 c (cl x) (by rw [E.len, Nat.one_mul]) hx (E.one x)
    (by unfold maxLen; omega) (by have h1 := E.small; have := Nat.mul_le_mul (show xs.length + 1 ≤ 1000001 by omega) h1; omega) hB
  have hne : ¬ v' = .slice none 0 0 := fun e => by have := (hnil.1 e).2; omega
  rcases hown.2 with ⟨rfl, _⟩ | ⟨g', cap', cur, rfl, h4, h5, h6, h7, h8, h9⟩
  · exact absurd rfl hne
  · have e1 : (xs ++ [x]).flatMap cl = xs.flatMap cl ++ cl x := by simp
    have e2 : (xs ++ [x]).length = xs.length + 1 := by simp
    refine ⟨g', cap', W', hr, ⟨by rw [e1, e2]; exact hown.1, .inr ⟨g', cap', cur, by rw [e2], h4, h5, by rw [e2]; exact h6, h7, h8, by rw [e1, e2]; exact h9⟩⟩, hgr, ?_⟩
    rcases hat with h | h
    · exact .inl (h.symm.trans rfl)
    · exact .inr (by simpa [Value.ownBlock] using h)
/-- .. where x lies in a block made for that -/
theorem Ol.push1 (E : Elem P t e cl k bytes) (h : Ol e cl k B v xs W) (hB : B ≤ W.heap.size) (x : α) (hbig : xs.length ≤ 1000000) (ty : TypeId) :
    ∃ g' cap' W', (Builtin.append_ #[t, t] ty #[v, .slice (some ⟨W.heap.size, 0, none⟩) 1 1]).run P (W.alloc (.cells (cl x).toArray e)) = .ok (.slice (some ⟨g', 0, none⟩) (xs.length + 1) cap') W' ∧ Ol e cl k B (.slice (some ⟨g', 0, none⟩) (xs.length + 1) cap') (xs ++ [x]) W' ∧ Turn v.ownBlock.toList W W' ∧ (v.ownBlock = some g' ∨ W.heap.size < g') := by
  have hb := below_new W (.cells (cl x).toArray e)
  have hX := Blk.new W e (cl x).toArray
  have h5 := h.held hb
  have hs := size_new W (.cells (cl x).toArray e)
  obtain ⟨g', cap', W6, hrun, h6, hg6, hat⟩ := Ol.push E h5 (Nat.le_trans hB hb.size) (ad := ⟨W.heap.size, 0, none⟩) (c := 1) x (fun jj vv hv => by
    rw [Addr.add_mid, Nat.zero_add, hX.at_ jj]
    simpa using hv) hbig ty
  refine ⟨g', cap', W6, hrun, h6, ⟨hg6.os.trans hb.os, hg6.tape.trans hb.tape, hg6.output.trans hb.output, Nat.le_trans hb.size hg6.size, fun i hi hn => ?_⟩, ?_⟩
  · refine (hg6.block i (by omega) (fun e => ?_)).trans (hb.block i hi)
    rw [← e] at hn
    simp at hn
  · rcases hat with h | h
    · exact .inl h
    · exact .inr (by omega)
/-- nothing but blocks from B on has turned -/
theorem own_below (h : Ol e cl k B v xs W) {w0 : World} (h0 : Below B w0 W) (hB : B ≤ W.heap.size) (T : Turn v.ownBlock.toList W W') : Below B w0 W' :=
  h0.trans (T.below (B := B) (fun i hi => by
    have : v.ownBlock = some i := by simpa using hi
    exact (h.lt this).2) hB)
end
end Go.Proofs.YtkchckeecfalhaaGreat

namespace Go.Proofs.YtkchckeecfalhaaGreat
open Go.RowKit Go.Maps Rm Fm Sb

set_option maxHeartbeats 400000 in
theorem clone_ob {w : World} {ad : Addr} {n cap : Nat} {bs : List Nat} (hx : T.BytesAt w (some ad) n bs) (hn : n ≤ 5000) :
    Calls Tryz.prog 104 #[.slice (some ad) n cap] w fun e w' => ∃ g cap', e = .returned (.slice (some ⟨g, 0, none⟩) n cap') ∧ w.heap.size ≤ g ∧ T.Ob w' g cap' bs ∧ Below w.heap.size w w' := by
  have hb := below_new w (.cells #[] 5)
  have hO : T.Ob (w.alloc (.cells #[] 5)) w.heap.size 0 [] := ⟨#[], Blk.new w _ _, rfl, by simp, by unfold maxLen; omega, by simp⟩
  obtain ⟨g', cap', u', hrun, hO', hT, hg⟩ := T.run_app hO (hx.held hb) (by simp; omega) cap 79
  have hq := Lib.run_eql_slice_nil (P := Tryz.prog) w 79 5 (some ad) n cap 0 0 (by kernel_rfl)
  simp only [List.length_nil, Nat.zero_add, List.nil_append] at hrun hO'
  have hB : Below w.heap.size w u' := hb.trans (hT.below (fun i hi => by simp at hi; omega) hb.size)
  have hge : w.heap.size ≤ g' := by rw [size_new] at hg; omega
  have X := Lib.hid (And.intro hO' (And.intro hB hge))
  clear hO hO' hT hg hB hge hb hx
  go_enter Tryz.func104, Tryz.ntmps104
  go_wp2_with (first | (at_builtin; refine Lib.wpList_append_run _ rfl (.tmp 5) (.tmp 6) 79 79 rfl _ _ rfl rfl _ _ hrun ?_) | fail)
  go_ret
  exact ⟨g', cap', rfl, X.out.2.2, X.out.1, X.out.2.1⟩

/-- a datagram to a neighbour: who, and where its bytes lie -/
structure Oe where
  dst : Nat
  g : Nat
  n : Nat
  cap : Nat
def ocl (x : Oe) : List Value := [.int .i64 x.dst, .slice (some ⟨x.g, 0, none⟩) x.n x.cap]
theorem elemO : Elem Tryz.prog 151 154 ocl 2 32 := ⟨by kernel_rfl, elem_info (z := .agg #[.int .i64 0, .slice none 0 0]) (by kernel_rfl) rfl, by omega, fun _ => rfl, fun x v hv => by simp only [ocl, List.mem_cons, List.not_mem_nil, or_false] at hv; rcases hv with rfl | rfl <;> rfl, by omega⟩
/-- v is a list of the call's own of these datagrams; the bytes of each lie in a block of their own -/
structure Ot (B : Nat) (v : Value) (os : List (Nat × List Nat)) (xs : List Oe) (W : World) : Prop where
  own : Ol 154 ocl 2 B v xs W
  len : xs.length = os.length
  row : ∀ i (h : i < xs.length) (h' : i < os.length), xs[i].dst = os[i].1 ∧ xs[i].n = os[i].2.length ∧ T.Ob W xs[i].g xs[i].cap os[i].2 ∧ B ≤ xs[i].g ∧ v.ownBlock ≠ some xs[i].g
theorem Ot.nil (B : Nat) (W : World) : Ot B (.slice none 0 0) [] [] W := ⟨Ol.nil _ _, rfl, fun i h => by simp at h⟩
theorem Ot.held {B : Nat} {v : Value} {os : List (Nat × List Nat)} {xs : List Oe} {W W' : World} (h : Ot B v os xs W) (hb : Below W.heap.size W W') : Ot B v os xs W' :=
  ⟨h.own.held hb, h.len, fun i hi hi' => by obtain ⟨a, b, c, d⟩ := h.row i hi hi'; exact ⟨a, b, c.held hb, d⟩⟩
theorem Ot.push {B : Nat} {p : Option Addr} {n c : Nat} {os : List (Nat × List Nat)} {xs : List Oe} {W : World} (h : Ot B (.slice p n c) os xs W) (hB : B ≤ W.heap.size) {k g cap : Nat} {bs : List Nat} (hg : B ≤ g) (hv : (Value.slice p n c).ownBlock ≠ some g) (ho : T.Ob W g cap bs) (hbig : os.length ≤ 100000) :
    ∃ g' cap' W', (Builtin.append_ #[151, 151] 151 #[.slice p n c, .slice (some ⟨W.heap.size, 0, none⟩) 1 1]).run Tryz.prog (W.alloc (.cells #[.int .i64 k, .slice (some ⟨g, 0, none⟩) bs.length cap] 154)) = .ok (.slice (some ⟨g', 0, none⟩) (os.length + 1) cap') W' ∧
      Ot B (.slice (some ⟨g', 0, none⟩) (os.length + 1) cap') (os ++ [(k, bs)]) (xs ++ [⟨k, g, bs.length, cap⟩]) W' ∧ Turn (Value.slice p n c).ownBlock.toList W W' := by
  obtain ⟨g', cap', W', hrun, hO, hT, hat⟩ := Ol.push1 elemO h.own hB ⟨k, g, bs.length, cap⟩ (by rw [h.len]; omega) 151
  rw [h.len] at hrun hO
  refine ⟨g', cap', W', hrun, ⟨hO, by simp [h.len], fun i hi hi' => ?_⟩, hT⟩
  have away : ∀ x, (Value.slice p n c).ownBlock ≠ some x → x ∉ (Value.slice p n c).ownBlock.toList := fun x hx hm => hx (by simpa using hm)
  have new : ∀ x, (Value.slice p n c).ownBlock ≠ some x → x < W.heap.size → (Value.slice (some ⟨g', 0, none⟩) (os.length + 1) cap').ownBlock ≠ some x := fun x hx hl e => by
    have e2 : g' = x := by simpa [Value.ownBlock] using e
    subst e2
    rcases hat with h1 | h1
    · exact hx h1
    · omega
  by_cases hl : i < xs.length
  · have hl' : i < os.length := by rw [← h.len]; exact hl
    obtain ⟨a, b, d, e, f⟩ := h.row i hl hl'
    rw [List.getElem_append_left hl, List.getElem_append_left hl']
    exact ⟨a, b, d.turn hT (away _ f), e, new _ f d.lt⟩
  · have e1 : i = xs.length := by simp at hi; omega
    subst e1
    rw [List.getElem_append_right (by omega), List.getElem_append_right (by rw [h.len]; omega)]
    simp only [h.len, Nat.sub_self, List.getElem_cons_zero]
    exact ⟨trivial, trivial, ho.turn hT (away _ hv), hg, new _ hv ho.lt⟩
end Go.Proofs.YtkchckeecfalhaaGreat

namespace Go.Proofs.YtkchckeecfalhaaGreat
open Go.RowKit
variable {P : Program} {α : Type}

/-- The iterator g, called in W at whatever loop, drives rounds until one leaves: all of some xs with S come, or it is left. -/
def Leads (P : Program) (g : Nat) (lb : Array Value) (encs : α → Array Value) (N : Nat) (S : List α → Prop) (Kq : World → World → Prop) (W : World) : Prop :=
  ∀ (l : Nat) (J Jx : List α → World → Prop), OwnFrom W.heap.size J → OwnFrom W.heap.size Jx →
    (∀ pre x W1, J pre W1 → W.heap.size ≤ W1.heap.size → pre.length < N → YieldAt Fence.wide 0 P l (encs x) W1 fun e W' => ∃ b : Bool, e = .returned (.bool b) ∧ KeepsFrom W.heap.size W1 W' ∧ (if b then J (pre ++ [x]) W' ∧ Kq W1 W' else Jx (pre ++ [x]) W')) →
    J [] W → Calls P g (#[.func (.yield l) #[] #[]] ++ lb) W fun e W' => (∃ v, e = .returned v) ∧ ((∃ xs, S xs ∧ J xs W') ∨ ∃ pre, Jx pre W')

theorem loop_some {n : Nat} {g : Operand} {ps : Array Tmp} {assign body : Code} {Q : Exit → Act → World → Prop} {a : Act} {w : World} {gf : Nat} {lb : Array Value}
    (hg : a.eval g = .func (.func gf) #[] lb) (eg : ∀ args w, (callFunc gf args).run P w = .ok (.enter gf args) w)
    {encs : α → Array Value} {N : Nat} {S : List α → Prop} {Kq : World → World → Prop} (hseq : ∀ W, Below w.heap.size w W → Leads P gf lb encs N S Kq W) (hps : ∀ x, (encs x).size = ps.size)
    (hKt : ∀ {A B C : World}, Kq A B → Kq B C → Kq A C) (hKb : ∀ (W : World) (l : Nat) (o o' : Obj), w.heap.size ≤ l → W.heap[l]? = some o → o.isCells = false → o.isWalk = false → Kq W (W.putObj l o'))
    (I Ix : List α → World → Prop) (hI : OwnFrom w.heap.size I) (hIx : OwnFrom w.heap.size Ix) (h0 : I [] w) (Ax : α → Act → World → Prop) (hAx : ∀ x a', OwnFrom w.heap.size (fun (_ : Unit) W => Ax x a' W))
    (hassign : ∀ (l : Nat) (pre : List α) (x : α) (W : World) (K : Act → World → Prop), I pre W → (∀ a' W', KeepsFrom w.heap.size W W' → Kq W W' → I pre W' → Ax x a' W' → K a' W') →
      assign.wpIn (Fence.wide.inRound l) 0 P (Exit.then K (fun _ _ _ => False)) { tmps := (ps.zip (encs x)).foldl (fun t (p, v) => t.setIfInBounds p v) a.tmps, defers := [] } W)
    (hbody : ∀ (l : Nat) (pre : List α) (x : α) (a' : Act) (W : World), I pre W → Ax x a' W → pre.length < N → body.wpIn (Fence.wide.inRound l) 0 P (fun e _ W' => KeepsFrom w.heap.size W W' ∧ ((e = .normal ∧ Kq W W' ∧ I (pre ++ [x]) W') ∨ (e = .ret ∧ Ix (pre ++ [x]) W'))) a' W)
    (hdone : ∀ (D : Nat) (xs : List α) (W : World), w.heap.size ≤ D → S xs → I xs W → W.heap[D]? = some (.deferred (some [])) → Q .normal { a with defers := { target := .collected D, args := #[] } :: a.defers } W)
    (hstop : ∀ (D : Nat) (pre : List α) (W : World), w.heap.size ≤ D → Ix pre W → W.heap[D]? = some (.deferred (some [])) → Code.ret.wpIn Fence.wide n P Q { a with defers := { target := .collected D, args := #[] } :: a.defers } W) :
    (Code.rangeFunc g ps assign body).wpIn Fence.wide n P Q a w := by
  refine wpIn_rangeFunc fun fn _ => ?_
  obtain ⟨R, hR⟩ : ∃ R : LoopState → Option Code → Loop, R = fun st pe => { state := st, pending := pe, fn := fn, tmps := a.tmps, params := ps, assign := assign, body := body, defers := w.heap.size } := ⟨_, rfl⟩
  obtain ⟨V, hV⟩ : ∃ V, V = (w.alloc (.deferred (some []))).alloc (.loop (R .ready none)) := ⟨_, rfl⟩
  have hb : Below w.heap.size w V := by rw [hV]; exact next (below_new _ _) (below_new _ _)
  have hVs : V.heap.size = w.heap.size + 2 := by rw [hV, size_new, size_new]
  have hD : V.heap[w.heap.size]? = some (.deferred (some [])) := by
    rw [hV]
    exact ((below_new _ (.loop (R .ready none))).block _ (by rw [size_new]; omega)).trans (World.alloc_heap_new w _)
  have hL : V.heap[w.heap.size + 1]? = some (.loop (R .ready none)) := by
    have := World.alloc_heap_new (w.alloc (.deferred (some []))) (.loop (R .ready none))
    rw [size_new] at this
    rw [hV]
    exact this
  have hI0 : I [] V := by rw [hV]; exact hI.alloc _ (hI.alloc _ h0)
  refine ⟨w.heap.size + 1, [{ target := .collected w.heap.size, args := #[] }], V, { target := .fn (.func gf) lb, args := #[.func (.yield (w.heap.size + 1)) #[] #[]] }, V, gf, #[.func (.yield (w.heap.size + 1)) #[] #[]] ++ lb, V, ?_, ?_, (fun _ _ => trivial), ?_, (fun h => by cases h), ?_⟩
  · rw [hV, hR]; exact run_enterLoop_outer _ _ _ _ _
  · simp only [resolve, hg]
    simp [go_sem]
  · simp [invoke, go_sem, eg]
  refine callsIn_any ((hseq V hb (w.heap.size + 1) (fun pre W => I pre W ∧ W.heap[w.heap.size + 1]? = some (.loop (R .ready none)) ∧ W.heap[w.heap.size]? = some (.deferred (some []))) (fun pre W => Ix pre W ∧ W.heap[w.heap.size + 1]? = some (.loop (R .done (some .ret))) ∧ W.heap[w.heap.size]? = some (.deferred (some []))) ?_ ?_ ?_ ⟨hI0, hL, hD⟩).mono ?_)
  · intro s X Y row hs hgr hr
    exact ⟨hI s X Y row hs.1 hgr (fun r e => ⟨by have := (hr r e).1; omega, (hr r e).2⟩), grown_block hgr hr (by omega) hs.2.1, grown_block hgr hr (by omega) hs.2.2⟩
  · intro s X Y row hs hgr hr
    exact ⟨hIx s X Y row hs.1 hgr (fun r e => ⟨by have := (hr r e).1; omega, (hr r e).2⟩), grown_block hgr hr (by omega) hs.2.1, grown_block hgr hr (by omega) hs.2.2⟩
  · rintro pre x W ⟨hi, hl, hd⟩ hsz hlen
    have hy := run_yield (P := P) (args := encs x) hl (by rw [hR]; exact hps x)
    rw [hR] at hy
    refine ⟨fn, _, assign, body, hy, roundIn_of_wpIn trivial (hassign _ pre x W _ hi ?_)⟩
    intro a' W2 hk2 hq2 hi2 hax2
    have hl2 := hk2.same _ _ (by omega) hl rfl
    have hd2 := hk2.same _ _ (by omega) hd rfl
    refine ⟨_, run_beginRound hl2 (by rw [hR]), ?_⟩
    obtain ⟨W3, hW3⟩ : ∃ W3, W3 = W2.putObj (w.heap.size + 1) (.loop { R .ready none with state := .busy }) := ⟨_, rfl⟩
    have hl3 : W3.heap[w.heap.size + 1]? = some (.loop { R .ready none with state := .busy }) := by rw [hW3]; exact World.putObj_heap_same (Array.getElem?_eq_some_iff.1 hl2).1
    have hd3 : W3.heap[w.heap.size]? = some (.deferred (some [])) := by rw [hW3]; exact (World.putObj_heap_other (by omega)).trans hd2
    have hi3 : I pre W3 := by rw [hW3]; exact hI.putObj _ hi2 (by omega) hl2 rfl
    have hax3 : Ax x a' W3 := by rw [hW3]; exact (hAx x a').putObj (s := ()) _ hax2 (by omega) hl2 rfl
    have hq3 : Kq W2 W3 := by rw [hW3]; exact hKb _ _ _ _ (by omega) hl2 rfl rfl
    have hk3 : KeepsFrom V.heap.size W2 W3 := by rw [hW3]; exact KeepsFrom.of_grownBy (grownBy_putObj' _ _ _) (fun j e => by cases e; omega)
    rw [← hW3]
    refine wpIn_mono (hbody _ pre x a' W3 hi3 hax3 hlen) ?_
    rintro e a4 W4 ⟨hk4, hp⟩
    have hl4 := hk4.same _ _ (by omega) hl3 rfl
    have hd4 := hk4.same _ _ (by omega) hd3 rfl
    have fin : ∀ (jump : Option Code), ∃ W5, (Instr.endRound (w.heap.size + 1) jump).run P W4 = .ok (.bool jump.isNone) W5 ∧ W5 = W4.putObj (w.heap.size + 1) (.loop (R (if jump.isNone then .ready else .done) jump)) := fun jump => by
      have hrun := run_endRound (P := P) jump hl4
      refine ⟨_, ?_, rfl⟩
      rw [hR] at hrun ⊢
      exact hrun
    have h5k : ∀ (o : Obj), KeepsFrom V.heap.size W2 (W4.putObj (w.heap.size + 1) o) := fun o => by
      have h5 : KeepsFrom V.heap.size W4 (W4.putObj (w.heap.size + 1) o) := KeepsFrom.of_grownBy (grownBy_putObj' _ _ _) (fun j e => by cases e; omega)
      exact (hk3.trans (KeepsFrom.mono hk4 (by omega))).trans h5
    rcases hp with ⟨rfl, hq4, hi4⟩ | ⟨rfl, hi4⟩
    · obtain ⟨W5, hend, hW5⟩ := fin none
      refine ⟨_, _, hend, true, rfl, ?_, ?_⟩
      · rw [hW5]; exact (KeepsFrom.mono hk2 (by omega)).trans (h5k _)
      rw [if_pos rfl]
      refine ⟨⟨?_, ?_, ?_⟩, ?_⟩
      · rw [hW5]; exact hI.putObj _ hi4 (by omega) hl4 rfl
      · rw [hW5]; exact World.putObj_heap_same (Array.getElem?_eq_some_iff.1 hl4).1
      · rw [hW5]; exact (World.putObj_heap_other (by omega)).trans hd4
      · refine hKt (hKt (hKt hq2 hq3) hq4) ?_
        rw [hW5]
        exact hKb _ _ _ _ (by omega) hl4 rfl rfl
    · obtain ⟨W5, hend, hW5⟩ := fin (some .ret)
      refine ⟨_, _, hend, false, rfl, ?_, ?_⟩
      · rw [hW5]; exact (KeepsFrom.mono hk2 (by omega)).trans (h5k _)
      rw [if_neg (by decide)]
      refine ⟨?_, ?_, ?_⟩
      · rw [hW5]; exact hIx.putObj _ hi4 (by omega) hl4 rfl
      · rw [hW5]; exact World.putObj_heap_same (Array.getElem?_eq_some_iff.1 hl4).1
      · rw [hW5]; exact (World.putObj_heap_other (by omega)).trans hd4
  · rintro e W ⟨⟨v, rfl⟩, ⟨xs, hS, hi, hl, hd⟩ | ⟨pre, hi, hl, hd⟩⟩
    · have hend := run_endLoop (P := P) hl (by rw [hR]; simp)
      refine ⟨_, _, hend, ?_⟩
      have hp : (R .ready none).pending = none := by rw [hR]
      rw [hp]
      exact hdone _ xs _ (Nat.le_refl _) hS (hI.putObj _ hi (by omega) hl rfl) ((World.putObj_heap_other (by omega)).trans hd)
    · have hend := run_endLoop (P := P) hl (by rw [hR]; simp)
      refine ⟨_, _, hend, ?_⟩
      have hp : (R .done (some .ret)).pending = some .ret := by rw [hR]
      rw [hp]
      exact hstop _ pre _ (Nat.le_refl _) (hIx.putObj _ hi (by omega) hl rfl) ((World.putObj_heap_other (by omega)).trans hd)
end Go.Proofs.YtkchckeecfalhaaGreat
namespace Go.Proofs.YtkchckeecfalhaaGreat
open Go.RowKit Go.Maps
theorem owns_leads {W0 : World} {B1 B2 B3 n : Nat} {v : Value} {o : Option Nat} {f : Pk → Option Bool} {xs : List Pk} {es : List (ElP f)} (h : ItP W0 B1 B2 v o n f xs) (hE : EsP f xs es)
    (h3 : Blk 185 W0 B3 #[.func (.func 144) #[] #[.pointer (some ⟨B1, 0, none⟩), .pointer (some ⟨B2, 0, none⟩)]]) (W : World) (hW : Below W0.heap.size W0 W) :
    Leads Tryz.prog 97 #[.pointer (some ⟨B3, 0, none⟩)] arO es.length (fun ys => ys = es) (KqO (itL B1 B2 v o)) W := fun l J Jx hJ hJx hY h0 => by
  refine (callsIn_wide.1 (owns1 (h.held hW) hE (h3.held hW) (.loop l) J Jx hJ hJx (fun pre x W1 hj hs hl => ?_) h0 0)).mono ?_
  · refine Fv.At.mono (R := _) (hY pre x W1 hj hs hl) ?_
    rintro e W' ⟨b, rfl, h1, h2⟩
    refine ⟨b, rfl, h1, ?_⟩
    cases b with
    | true =>
      rw [if_pos rfl] at h2 ⊢
      exact ⟨h2.1, h2.2.1, h2.2.2⟩
    | false =>
      rw [if_neg (by decide)] at h2 ⊢
      exact h2
  · rintro e W' ⟨h1, h2 | h2⟩
    · exact ⟨h1, .inl ⟨es, rfl, h2⟩⟩
    · exact ⟨h1, .inr h2⟩
end Go.Proofs.YtkchckeecfalhaaGreat

namespace Go.Proofs.YtkchckeecfalhaaGreat
open Go.RowKit Go.Maps Rm Fm Sb
attribute [local go_sem] Oper.semAt_some

set_option maxRecDepth 100000 in
set_option maxHeartbeats 4000000 in
theorem rr_ownsSome {w : World} {R : Nat} {o fl tb : Option Nat} {j : Jr} {N n : Nat} {M : Mr} (h : Rr w R o fl tb j N n M) :
    Calls Tryz.prog 127 #[.pointer (some ⟨R, 0, none⟩)] w fun e w' => ∃ q : Bool, e = .returned (.bool q) ∧ (q = true ↔ ∃ p : Pk, p.ok ∧ M.sm.own p = some true) ∧ Below w.heap.size w w' := by
  have hb1 := below_new w (.cells #[.bool false] 4)
  have hBx := Blk.new w 4 #[.bool false]
  have h1 := h.held hb1
  have HST := rr_state h1
  have HR := Lib.hid h
  refine (callsIn_wide (n := 9)).1 ?_
  refine callsIn_of_wp_marks Tryz.func127 rfl trivial ?_ rfl
  simp only [Tryz.ntmps127, List.size_toArray, List.length_cons, List.length_nil, Nat.reduceAdd, Nat.reduceSub, Array.replicate_succ, Array.replicate_zero, List.push_toArray, List.append_toArray, List.nil_append, List.cons_append]
  clear h
  gi_wp2
  have hz : (w.alloc (.cells #[.bool false] 4)).heap.size = w.heap.size + 1 := size_new w _
  generalize w.alloc (.cells #[.bool false] 4) = w1 at *
  refine ⟨trivial, (callsIn_any HST).mono ?_⟩
  rintro e w1' ⟨rfl, hb1'⟩
  have hR1 := h1.held hb1'
  obtain ⟨cn, cm, hnm, hS⟩ := hR1.nt
  have HO := owns_any hS
  clear HST
  gi_wp2
  refine ⟨trivial, (callsIn_any HO).mono ?_⟩
  rintro e w2 ⟨B1, B2, B3, v1, oo, xs, rfl, hI, h3, hfr, hB3, hB⟩
  clear HO
  gi_wp2
  have hbb := next hb1' hB
  have hsz2 := hbb.size
  have hsz1 := hb1'.size
  obtain ⟨es, hE⟩ := esP_ex (f := M.sm.own) (fun _ _ _ => rfl) xs (fun x hx => (hI.mem x).1 hx)
  have hxs : es.length = xs.length := by rw [← show es.map (·.key) = xs from hE]; simp
  have h1w : w.heap.size ≤ w.heap.size := Nat.le_refl _
  refine loop_some (α := ElP M.sm.own) rfl enter_owns1 (owns_leads hI hE h3) (fun _ => rfl) (fun h k => ⟨h.1.trans k.1, fun b C hb => k.2 b C (h.2 b C hb)⟩) (fun W l o o' hl h hc hw => ⟨keepS_put hI.lt W l o o' hl h hc hw, KeepT.put W l o o' h hc⟩)
    (fun pre W => (Blk 4 W w.heap.size #[.bool false] ∧ Below w.heap.size w W) ∧ ∀ x ∈ pre, x.val = false)
    (fun pre W => (Blk 4 W w.heap.size #[.bool true] ∧ Below w.heap.size w W) ∧ ∃ p : Pk, p.ok ∧ M.sm.own p = some true)
    (OwnFrom.and (OwnFrom.and (fun _ _ _ _ hs hg hr => hs.grown hg hr) (ownFrom_below h1w (by omega))) (ownFrom_pure _ _)) (OwnFrom.and (OwnFrom.and (fun _ _ _ _ hs hg hr => hs.grown hg hr) (ownFrom_below h1w (by omega))) (ownFrom_pure _ _)) ⟨⟨hBx.held hbb, next hb1 hbb⟩, fun _ h => by cases h⟩
    (fun x a' W => a' = { tmps := #[.pointer (some ⟨R, 0, none⟩), undef, .pointer (some ⟨w.heap.size, 0, none⟩), undef, .bool x.val, .pointer (some ⟨R, 0, none⟩), .pointer (some ⟨R, 0, none⟩), .func (.func 97) #[] #[.pointer (some ⟨B3, 0, none⟩)], .agg #[.int .u32 x.key.a, .int .i64 x.key.n], .bool x.val, undef], defers := [] })
    ?_ ?assign ?body ?done ?stop
  · rintro x a' s W W' row rfl hg hr
    rfl
  case assign =>
    rintro l pre ⟨⟨xa, xn⟩, y, hok, hfit, hhas⟩ W K hL hK
    simp only [arO, clP]
    gi_wp2
    exact hK _ _ (KeepsFrom.refl _ _) ⟨⟨Keep.refl _ _, Nat.le_refl _⟩, fun _ _ h => h⟩ hL rfl
  case body =>
    rintro l pre ⟨⟨xa, xn⟩, y, hok, hfit, hhas⟩ a' W ⟨⟨hL, hbw⟩, hall⟩ rfl hlt
    have p0 := hL.at_ 0
    have f0 := hL.free 0
    have X := Lib.hid (And.intro hL (And.intro hbw hall))
    clear hL hbw hall
    cases y with
    | true =>
      gi_wp2
      exact ⟨(KeepsOthers.setCell _ _ _).from _, ⟨X.out.1.store 0 (.bool true), X.out.2.1.setCell (Nat.le_refl _) _⟩, ⟨⟨xa, xn⟩, hok, hhas⟩⟩
    | false =>
      gi_wp2
      refine ⟨KeepsFrom.refl _ _, ⟨⟨Keep.refl _ _, Nat.le_refl _⟩, fun _ _ h => h⟩, ⟨X.out.1, X.out.2.1⟩, fun x hx => ?_⟩
      rcases hx with h | h
      · exact X.out.2.2 x h
      · rw [h]
  case done =>
    rintro D es' W hD rfl ⟨⟨hL, hbw⟩, hall⟩ hK
    have p0 := hL.at_ 0
    have f0 := hL.free 0
    have hnone : ¬ ∃ p : Pk, p.ok ∧ M.sm.own p = some true := by
      rintro ⟨p, hp, ho⟩
      have hm := (hI.mem p).2 ⟨hp, by show (M.sm.own p).isSome = true; rw [ho]; rfl⟩
      rw [← show es'.map (·.key) = xs from hE] at hm
      obtain ⟨x, hx, rfl⟩ := List.mem_map.1 hm
      have h1 := hall x hx
      have h2 := x.has
      rw [h1] at h2
      rw [ho] at h2
      cases h2
    gi_wp2
    have hDne : D ≠ w.heap.size := by omega
    have hK2 := (Below.heap_setCell W ⟨w.heap.size, 0, none⟩ (.bool false) D hDne).trans hK
    have hL3 : Blk 4 ((W.setCell ⟨w.heap.size, 0, none⟩ (.bool false)).putObj D (.deferred none)) w.heap.size #[.bool false] := (World.putObj_heap_other (by omega)).trans (hL.store 0 (.bool false))
    have q0 := hL3.at_ 0
    refine ⟨by simp, .inl ⟨_, _, rfl, run_takeDeferred hK2, .bool false, ?_, false, rfl, ⟨fun h => (by cases h), fun h => absurd h hnone⟩, ?_⟩⟩
    · simp [results, Tryz.results127, go_sem, q0]
    · exact (hbw.setCell (Nat.le_refl _) _).grown (grownBy_putObj' _ _ _) (Nat.le_trans hbw.size (by simp [World.setCell])) (fun k e => by cases e; omega)
  case stop =>
    rintro D pre W hD ⟨⟨hL, hbw⟩, hex⟩ hK
    have p0 := hL.at_ 0
    have f0 := hL.free 0
    gi_wp2
    have hL3 : Blk 4 (W.putObj D (.deferred none)) w.heap.size #[.bool true] := (World.putObj_heap_other (by omega)).trans hL
    have q0 := hL3.at_ 0
    refine ⟨by simp, .inl ⟨_, _, rfl, run_takeDeferred hK, .bool true, ?_, true, rfl, ⟨fun _ => hex, fun _ => rfl⟩, ?_⟩⟩
    · simp [results, Tryz.results127, go_sem, q0]
    · exact hbw.grown (grownBy_putObj' _ _ _) hbw.size (fun k e => by cases e; omega)
end Go.Proofs.YtkchckeecfalhaaGreat

