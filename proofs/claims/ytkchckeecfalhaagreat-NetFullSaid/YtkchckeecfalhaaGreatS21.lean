/-
  The contract of package tlv's Encode.
  Package router: what a router tells, as mathematics.
-/
import Derived.Test.YtkchckeecfalhaaGreatS20
import Derived.Deep.CutRange
import Derived.Deep.DeepCutAuto
import Derived.Test.YtkchckeecfalhaaGreatS18
import Derived.Test.YtkchckeecfalhaaGreatS19
import Derived.Test.YtkchckeecfalhaaGreatS10
set_option maxRecDepth 20000
namespace Go.Proofs.YtkchckeecfalhaaGreat.T
open Go.RowKit Tm

/-! ### lists of what is told that were there -/
structure Ul (w : World) (A : Option Addr) (n cap : Nat) (us : List Up) : Prop where
  len : us.length = n
  max : n ≤ 100000
  cap : n ≤ cap
  plain : 0 < n → ∃ b off, A = some ⟨b, off, none⟩
  cells : ∀ b off, A = some ⟨b, off, none⟩ → ∀ i (_ : i < us.length), ∀ j, j < 5 → w.cell? ⟨b, off + (5 * i + j), none⟩ = (us[i].cs)[j]?
  fits : ∀ u ∈ us, u.Fits
theorem Ul.held {w w' : World} {A : Option Addr} {n cap : Nat} {us : List Up} (h : Ul w A n cap us) (hb : Below w.heap.size w w') : Ul w' A n cap us := by
  refine ⟨h.len, h.max, h.cap, h.plain, fun b off e i hi j hj => ?_, h.fits⟩
  have h1 := h.cells b off e i hi j hj
  have hj' : j < (us[i].cs).size := hj
  rw [Array.getElem?_eq_getElem hj'] at h1 ⊢
  exact Go.Proofs.YtkchckeecfalhaaGreat.held hb h1
theorem Ul.at_ {w : World} {b off n cap : Nat} {us : List Up} (h : Ul w (some ⟨b, off, none⟩) n cap us) {k : Nat} (hk : k < us.length) {a : Nat} {len : Int} {id seq met : Nat} (e : us[k] = ⟨a, len, id, seq, met⟩) :
    w.cell? ⟨b, off + k * 5, none⟩ = some (.int .u32 a) ∧ w.cell? ⟨b, off + k * 5 + 1, none⟩ = some (.int .i64 len) ∧ w.cell? ⟨b, off + k * 5 + 2, none⟩ = some (.int .u32 id) ∧ w.cell? ⟨b, off + k * 5 + 3, none⟩ = some (.int .u32 seq) ∧ w.cell? ⟨b, off + k * 5 + 4, none⟩ = some (.int .u16 met) := by
  have H := h.cells b off rfl k hk
  rw [e] at H
  exact ⟨(by rw [show off + k * 5 = off + (5 * k + 0) by omega, H 0 (by omega)]; rfl), (by rw [show off + k * 5 + 1 = off + (5 * k + 1) by omega, H 1 (by omega)]; rfl), (by rw [show off + k * 5 + 2 = off + (5 * k + 2) by omega, H 2 (by omega)]; rfl), (by rw [show off + k * 5 + 3 = off + (5 * k + 3) by omega, H 3 (by omega)]; rfl), (by rw [show off + k * 5 + 4 = off + (5 * k + 4) by omega, H 4 (by omega)]; rfl)⟩
theorem Lu.ul {B : Nat} {v : Value} {us : List Up} {w : World} (h : Lu B v us w) (hf : ∀ u ∈ us, u.Fits) (hm : us.length ≤ 100000) : ∃ A cap, v = .slice A us.length cap ∧ Ul w A us.length cap us := by
  rcases h.1.2 with ⟨rfl, h0⟩ | ⟨g, cap, cur, rfl, h4, h5, h6, h7, h8, h9⟩
  · rw [h0]
    exact ⟨none, 0, rfl, h0, by omega, by omega, fun h => by omega, fun _ _ e => (by cases e), hf⟩
  · refine ⟨some ⟨g, 0, none⟩, cap, rfl, rfl, hm, h6, fun _ => ⟨_, _, rfl⟩, fun b off e i hi j hj => ?_, hf⟩
    cases e
    have h5' : Blk 123 w g cur := h5
    rw [Nat.zero_add, h5'.at_]
    have e2 := flat_get (us := us) hi hj
    rw [← h9, List.getElem?_take, if_pos (by omega)] at e2
    rw [← e2]
    simp

/-! ### the pages, step by step -/
theorem pages_skip {cur : List Nat} {id : Nat} {u : Up} {r : List Up} (h : right u = false) : pages cur id (u :: r) = pages cur id r := by rw [pages, if_pos h]
theorem pages_on {cur : List Nat} {id : Nat} {u : Up} {r : List Up} (h : right u = true) (hc : cur.length + (parts u id).length + 4 ≤ 1024) : pages cur id (u :: r) = pages (cur ++ parts u id) u.id r := by
  rw [pages, if_neg (by rw [h]; decide), if_neg (by omega)]
theorem pages_new {cur : List Nat} {id : Nat} {u : Up} {r : List Up} (h : right u = true) (hc : 1024 < cur.length + (parts u id).length + 4) : pages cur id (u :: r) = cur :: pages (parts u 0) u.id r := by
  rw [pages, if_neg (by rw [h]; decide), if_pos hc]
def z4 (b : List Nat) : List Nat := 0 :: 0 :: 0 :: 0 :: b
def rowsOf (D : List (List Nat)) (cur : List Nat) : List (List Nat) := if cur = [] then [] else (D ++ [cur]).map z4

/-- while what is told is gone through -/
structure EncS (w : World) (us : List Up) (i : Nat) (D : List (List Nat)) (cur : List Nat) (id : Nat) (v : Value) (W : World) : Prop where
  le : i ≤ us.length
  idlt : id < 4294967296
  las : Las w.heap.size v (rowsOf D cur) W
  below : Below w.heap.size w W
  eq : pages [] 0 us = D ++ pages cur id (us.drop i)
  nil : cur = [] → D = [] ∧ id = 0
  room : cur.length + 4 ≤ 1024
  few : (rowsOf D cur).length ≤ i
def EncR (w : World) (us : List Up) (v l d k : Value) (W : World) : Prop :=
  ∃ (i : Nat) (D : List (List Nat)) (cur : List Nat) (id : Nat), k = .int .i64 i ∧ l = .int .i64 (((rowsOf D cur).length : Int) - 1) ∧ d = .int .u32 id ∧ EncS w us i D cur id v W
/-- where the room for what is told has been made -/
structure EncT (w : World) (us : List Up) (i : Nat) (u : Up) (D : List (List Nat)) (cur : List Nat) (P : List Nat) (gp cp : Nat) (v : Value) (W : World) : Prop where
  las : Las w.heap.size v ((D ++ [cur]).map z4) W
  below : Below w.heap.size w W
  eq : pages [] 0 us = D ++ pages (cur ++ P) u.id (us.drop (i + 1))
  ob : Ob W gp cp P
  ne : P ≠ []
  lt : ∀ c ∈ P, c < 256
  room : cur.length + P.length + 4 ≤ 1024
  few : D.length ≤ i

theorem EncT.step {w : World} {us : List Up} {i : Nat} {u : Up} {D : List (List Nat)} {cur P : List Nat} {gp cp : Nat} {v : Value} {W : World} (T : EncT w us i u D cur P gp cp v W) (hu : u.Fits) (hi : i < us.length) (L : Nat) (hL : L = P.length) :
    ∃ gb N capv gi ci g' cap' W1 q, v = .slice (some ⟨gb, 0, none⟩) N capv ∧ D.length < N ∧ q = cur.length + 4 ∧ W.cell? ⟨gb, D.length, none⟩ = some (.slice (some ⟨gi, 0, none⟩) q ci) ∧
      (Builtin.append_ #[79, 79] 79 #[.slice (some ⟨gi, 0, none⟩) q ci, .slice (some ⟨gp, 0, none⟩) L cp]).run Tryz.prog W = .ok (.slice (some ⟨g', 0, none⟩) (q + L) cap') W1 ∧
      W1.cell? ⟨gb, D.length, none⟩ = some (.slice (some ⟨gi, 0, none⟩) q ci) ∧ W1.frozen? ⟨gb, D.length, none⟩ = false ∧
      EncR w us v (.int .i64 (D.length : Nat)) (.int .u32 u.id) (.int .i64 ((i + 1 : Nat) : Int)) (W1.setCell ⟨gb, D.length, none⟩ (.slice (some ⟨g', 0, none⟩) (q + L) cap')) ∧
      ∀ x t C, Blk t W x C → t ≠ 5 → t ≠ 79 → Blk t (W1.setCell ⟨gb, D.length, none⟩ (.slice (some ⟨g', 0, none⟩) (q + L) cap')) x C := by
  subst hL
  obtain ⟨gb, capv, hv⟩ : ∃ gb capv, v = .slice (some ⟨gb, 0, none⟩) ((D ++ [cur]).map z4).length capv := by
    obtain ⟨g, cap, h⟩ := T.las
    obtain ⟨gb, cp', _, hv, _⟩ := h.block (by simp)
    exact ⟨gb, cp', hv⟩
  have hlen : ((D ++ [cur]).map z4).length = D.length + 1 := by simp
  have hget : ((D ++ [cur]).map z4).getD D.length [] = z4 cur := by simp [List.getD]
  have hrm := T.room
  have hl := T.las
  rw [hv] at hl
  obtain ⟨gi, ci, g', cap', W1, h1, h2, h3, h4, h5, h6, h7⟩ := hl.app (i := D.length) (by rw [hlen]; omega) T.below.size (T.ob.bytes T.lt (by omega)) (by rw [hget]; simp [z4]; omega) cp 79
  rw [hget] at h1 h2 h3 h5 h6 h7
  refine ⟨gb, _, capv, gi, ci, g', cap', W1, (z4 cur).length, hv, by rw [hlen]; omega, by simp [z4], h1, h2, h3, h4, ?_, h7⟩
  have hne : cur ++ P ≠ [] := by simp [T.ne]
  have hrows : rowsOf D (cur ++ P) = ((D ++ [cur]).map z4).set D.length (z4 cur ++ P) := by
    unfold rowsOf
    rw [if_neg hne, List.map_append, List.map_append, List.set_append_right _ _ (by simp)]
    simp [z4]
  have hrl : (rowsOf D (cur ++ P)).length = D.length + 1 := by rw [hrows, List.length_set, hlen]
  refine ⟨i + 1, D, cur ++ P, u.id, rfl, by rw [hrl]; congr 1; omega, rfl, ⟨by omega, hu.id, ?_, T.below.trans h6, T.eq, fun e => absurd e hne, by simp; omega, by rw [hrl]; have := T.few; omega⟩⟩
  rw [hrows, hv]
  exact h5

theorem Las.row_at {B : Nat} {v : Value} {rows : List (List Nat)} {W : World} (h : Las B v rows W) {i : Nat} (hi : i < rows.length) :
    ∃ gb cp gi ci, v = .slice (some ⟨gb, 0, none⟩) rows.length cp ∧ W.cell? ⟨gb, i, none⟩ = some (.slice (some ⟨gi, 0, none⟩) (rows.getD i []).length ci) := by
  obtain ⟨g, cap, h⟩ := h
  obtain ⟨gb, cp, cur, hv, hB, hblk, hle, hmx, hsz, htk⟩ := h.block (by omega)
  exact ⟨gb, cp, g i, cap i, hv, by rw [hblk.at_ i, take_at htk hi, rvs_get hi]; rfl⟩
/-- a new row of four noughts -/
theorem Las.fresh {B : Nat} {v : Value} {rows : List (List Nat)} {W : World} (h : Las B v rows W) (hB : B ≤ W.heap.size) (hl : rows.length ≤ 100000) :
    ∃ g' cap' W2, (Builtin.append_ #[220, 220] 220 #[v, .slice (some ⟨W.heap.size + 1, 0, none⟩) 1 1]).run Tryz.prog ((W.alloc (.cells #[.int .u8 0, .int .u8 0, .int .u8 0, .int .u8 0] 5)).alloc (.cells #[.slice (some ⟨W.heap.size, 0, none⟩) 4 4] 79)) = .ok (.slice (some ⟨g', 0, none⟩) (rows.length + 1) cap') W2 ∧
      Las B (.slice (some ⟨g', 0, none⟩) (rows.length + 1) cap') (rows ++ [z4 []]) W2 ∧ Below B W W2 ∧ ∀ x t C, Blk t W x C → t ≠ 79 → Blk t W2 x C := by
  have hZ := Blk.new W 5 (cls [0, 0, 0, 0])
  have hb := below_new W (.cells (cls [0, 0, 0, 0]) 5)
  have hs := size_new W (.cells (cls [0, 0, 0, 0]) 5)
  have hN := Blk.new (W.alloc (.cells (cls [0, 0, 0, 0]) 5)) 79 #[.slice (some ⟨W.heap.size, 0, none⟩) 4 4]
  have hb2 := below_new (W.alloc (.cells (cls [0, 0, 0, 0]) 5)) (.cells #[.slice (some ⟨W.heap.size, 0, none⟩) 4 4] 79)
  have hZ2 := hZ.held hb2
  rw [hs] at hN
  obtain ⟨g', cap', W2, h1, h2, h3, h4⟩ := h.push (next hb hb2) hB (new := z4 []) (ad := ⟨W.heap.size + 1, 0, none⟩) (c := 1) (hN.at_ 0) (Ob.of_blk (bs := [0, 0, 0, 0]) hZ2 (by simp)) (Nat.le_refl _) hl 220
  exact ⟨g', cap', W2, h1, h2, h3, fun x t C hx ht => h4 x t C ((hx.held hb).held hb2) ht⟩

theorem Ob.cell {u : World} {g cap : Nat} {bs : List Nat} (h : Ob u g cap bs) {k : Nat} (hk : k < bs.length) : u.cell? ⟨g, k, none⟩ = some (Go.Proofs.YtkchckeecfalhaaGreat.T.cell (bs.getD k 0)) := by
  obtain ⟨cur, h1, h2, h3, h4, h5⟩ := h
  rw [h1.at_ k]
  have e : (cur.toList.take bs.length)[k]? = some (Go.Proofs.YtkchckeecfalhaaGreat.T.cell (bs.getD k 0)) := by rw [h5]; simp [hk]
  rw [List.getElem?_take, if_pos hk] at e
  simpa using e
theorem Ob.free {u : World} {g cap : Nat} {bs : List Nat} (h : Ob u g cap bs) (k : Nat) : u.frozen? ⟨g, k, none⟩ = false := by
  obtain ⟨cur, h1, _⟩ := h
  exact h1.free k
/-- a row written in place -/
theorem Las.inplace {B : Nat} {v : Value} {rows : List (List Nat)} {W : World} (h : Las B v rows W) {i : Nat} (hi : i < rows.length) :
    ∃ gb cp gi ci, v = .slice (some ⟨gb, 0, none⟩) rows.length cp ∧ W.cell? ⟨gb, i, none⟩ = some (.slice (some ⟨gi, 0, none⟩) (rows.getD i []).length ci) ∧ Ob W gi ci (rows.getD i []) ∧ B ≤ gi ∧
      ∀ W' new, Turn [gi] W W' → Ob W' gi ci new → new.length = (rows.getD i []).length → Las B v (rows.set i new) W' := by
  obtain ⟨g, cap, h⟩ := h
  obtain ⟨gb, cp, cur, hv, hB, hblk, hle, hmx, hsz, htk⟩ := h.block (by omega)
  refine ⟨gb, cp, g i, cap i, hv, by rw [hblk.at_ i, take_at htk hi, rvs_get hi]; rfl, h.ob i hi, h.ge i hi, fun W' new hT hO hl => ⟨g, cap, ?_⟩⟩
  have hgb : gb ≠ g i := fun e => h.out i hi (by rw [hv, e]; rfl)
  have hblk1 := hblk.turn hT (by simpa using hgb)
  have e : rvs g cap (rows.set i new) = rvs g cap rows := by
    unfold rvs
    rw [List.length_set]
    refine List.map_congr_left fun j hj => ?_
    have hj' : j < rows.length := by simpa using hj
    by_cases e : i = j
    · subst e
      simp [rv, List.getD, hi] at hl ⊢
      exact hl
    · simp [rv, List.getD, e]
  refine ⟨?_, fun j hj => ?_, fun j hj => h.ge j (by simpa using hj), fun j k hj hk => h.inj j k (by simpa using hj) (by simpa using hk), fun j hj => h.out j (by simpa using hj)⟩
  · rw [e, List.length_set]
    refine ⟨by rw [rvs_length, Nat.mul_one], .inr ⟨gb, cp, cur, hv, hB, hblk1, hle, hmx, by omega, by rw [Nat.mul_one]; exact htk⟩⟩
  · rw [List.length_set] at hj
    by_cases e : i = j
    · subst e
      rw [show (rows.set i new).getD i [] = new by simp [List.getD, hj]]
      exact hO
    · rw [show (rows.set i new).getD j [] = rows.getD j [] by simp [List.getD, e]]
      exact (h.ob j hj).of_block (hT.block _ (h.ob j hj).lt (by simp; exact fun e2 => e (h.inj i j hi hj e2.symm)))

/-- while the heads are written -/
def HeadR (w : World) (PG : List (List Nat)) (v k : Value) (W : World) : Prop :=
  ∃ m : Nat, k = .int .i64 m ∧ m ≤ PG.length ∧ Las w.heap.size v ((PG.take m).map page ++ (PG.drop m).map z4) W ∧ Below w.heap.size w W
theorem head_rows {PG : List (List Nat)} {m : Nat} (hm : m < PG.length) :
    ((PG.take m).map page ++ (PG.drop m).map z4).getD m [] = z4 PG[m] ∧ ((PG.take m).map page ++ (PG.drop m).map z4).length = PG.length ∧
      ((PG.take m).map page ++ (PG.drop m).map z4).set m (page PG[m]) = (PG.take (m + 1)).map page ++ (PG.drop (m + 1)).map z4 := by
  have hl : ((PG.take m).map page).length = m := by simp; omega
  have hd : PG.drop m = PG[m] :: PG.drop (m + 1) := List.drop_eq_getElem_cons hm
  refine ⟨?_, by simp; omega, ?_⟩
  · rw [hd, List.map_cons, List.getD, List.getElem?_append_right (by omega), hl, Nat.sub_self]
    rfl
  · rw [hd, List.map_cons, List.set_append_right _ _ (by omega), hl, Nat.sub_self, List.set_cons_zero, List.take_succ_eq_append_getElem hm, List.map_append, List.append_assoc]
    rfl

set_option maxRecDepth 100000 in
set_option maxHeartbeats 8000000 in
theorem encode_any {A : Option Addr} {n cap : Nat} {us : List Up} {w : World} (h : Ul w A n cap us) :
    Calls Tryz.prog 113 #[.slice A n cap] w fun e w' => ∃ v, e = .returned v ∧ Las w.heap.size v (Tm.encode us) w' ∧ Below w.heap.size w w' := by
  have hn := h.len
  have hmx := h.max
  have hcap := h.cap
  have H := Lib.hid h
  obtain ⟨ee, hee⟩ : ∃ ee, ee = Tm.encode us := ⟨_, rfl⟩
  rw [← hee]
  have EE := Lib.hid hee
  clear h hee
  go_enter Tryz.func113, Tryz.ntmps113
  go_wp2_with fail
  go_loopw [3, 4, 5, 13] (fun v l d k wr => EncR w us v l d k wr) (fun _ _ _ k _ => n - (intOf k).toNat)
  case atStart => exact ⟨0, [], [], 0, rfl, rfl, rfl, ⟨by omega, by omega, Las.nil _ _, Below.refl _ _, by simp, fun _ => ⟨rfl, rfl⟩, by simp, by simp [rowsOf]⟩⟩
  case round =>
    obtain ⟨i, D, cur, id, rfl, rfl, rfl, E⟩ := hrel
    have hi := E.le
    rw [hn] at hi
    by_cases hlt : i < n
    · obtain ⟨b, off, rfl⟩ := H.out.plain (by omega)
      have hk : i < us.length := by omega
      have hfit := H.out.fits us[i] (List.getElem_mem hk)
      have hdrop : us.drop i = us[i] :: us.drop (i + 1) := List.drop_eq_getElem_cons hk
      generalize hu : us[i] = u at *
      obtain ⟨c0, c1, c2, c3, c4⟩ := (H.out.held E.below).at_ hk (a := u.a) (len := u.len) (id := u.id) (seq := u.seq) (met := u.met) hu
      have R := tright_any u.a u.len u.id u.seq u.met hfit.a (wr.alloc (.cells #[.int .u32 u.a, .int .i64 u.len, .int .u32 u.id, .int .u32 u.seq, .int .u16 u.met] 123))
      have X := Lib.hid (And.intro E (And.intro hu (And.intro hdrop hfit)))
      clear hfit hdrop hu E
      have q1 : IntKind.i64.wrap ((i : Int) + 1) = ((i + 1 : Nat) : Int) := by rw [IntKind.wrap_i64]; omega
      have q2 : IntKind.i64.wrap (((rowsOf D cur).length : Int) - 1 + 1) = ((rowsOf D cur).length : Int) := by have := X.out.1.few; rw [IntKind.wrap_i64]; omega
      go_upto_region 6 with (fail)
      clear c0 c1 c2 c3 c4
      have hA := Blk.new wr 123 #[.int .u32 u.a, .int .i64 u.len, .int .u32 u.id, .int .u32 u.seq, .int .u16 u.met]
      have hb1 := below_new wr (.cells #[.int .u32 u.a, .int .i64 u.len, .int .u32 u.id, .int .u32 u.seq, .int .u16 u.met] 123)
      generalize wr.alloc _ = W1 at *
      obtain ⟨gu, hgu⟩ : ∃ gu, gu = wr.heap.size := ⟨_, rfl⟩
      rw [← hgu] at hA ⊢
      have hguB : w.heap.size ≤ gu := by rw [hgu]; exact X.out.1.below.size
      have c0 : W1.cell? ⟨gu, 0, none⟩ = some (.int .u32 u.a) := hA.at_ 0
      have c1 : W1.cell? ⟨gu, 0 + 1, none⟩ = some (.int .i64 u.len) := hA.at_ 1
      have c2 : W1.cell? ⟨gu, 0 + 2, none⟩ = some (.int .u32 u.id) := hA.at_ 2
      have c3 : W1.cell? ⟨gu, 0 + 3, none⟩ = some (.int .u32 u.seq) := hA.at_ 3
      have c4 : W1.cell? ⟨gu, 0 + 4, none⟩ = some (.int .u16 u.met) := hA.at_ 4
      have Y := Lib.hid (And.intro hA (And.intro hb1 hguB))
      clear hA hb1 hguB hgu
      go_wp2_with fail
      refine R.mono ?_
      rintro e W2 ⟨rfl, hb2⟩
      clear R c0 c1 c2 c3 c4
      have hr' : right ⟨u.a, u.len, u.id, u.seq, u.met⟩ = right u := rfl
      rw [hr']
      clear hr'
      cases hr : right u
      · obtain ⟨E, hu, hdrop, hfit⟩ := X.out
        obtain ⟨hA, hb1, hguB⟩ := Y.out
        have hb3 := next hb1 hb2
        have Z := Lib.hid (show EncR w us u3 (.int .i64 (((rowsOf D cur).length : Int) - 1)) (.int .u32 id) (.int .i64 ((i + 1 : Nat) : Int)) W2 from ⟨i + 1, D, cur, id, rfl, rfl, rfl, ⟨by omega, E.idlt, E.las.held hb3, E.below.trans (hb3.mono E.below.size), by rw [E.eq, hdrop, pages_skip hr], E.nil, E.room, by have := E.few; omega⟩⟩)
        clear X Y hr hb2 E hu hdrop hfit hA hb1 hguB hb3
        go_wp2_with fail
        go_roundw
        case rel => exact Z.out
        case measure => simp only [intOf]; omega
      · obtain ⟨E, hu, hdrop, hfit⟩ := X.out
        obtain ⟨hA, hb1, hguB⟩ := Y.out
        have hb3 := next hb1 hb2
        have hA2 := hA.held hb2
        have c0 : W2.cell? ⟨gu, 0, none⟩ = some (.int .u32 u.a) := hA2.at_ 0
        have c1 : W2.cell? ⟨gu, 0 + 1, none⟩ = some (.int .i64 u.len) := hA2.at_ 1
        have c2 : W2.cell? ⟨gu, 0 + 2, none⟩ = some (.int .u32 u.id) := hA2.at_ 2
        have c3 : W2.cell? ⟨gu, 0 + 3, none⟩ = some (.int .u32 u.seq) := hA2.at_ 3
        have c4 : W2.cell? ⟨gu, 0 + 4, none⟩ = some (.int .u16 u.met) := hA2.at_ 4
        have P1 := parts_any hr hfit E.idlt W2
        have hB2 := E.below.trans (hb3.mono E.below.size)
        have X2 := Lib.hid (And.intro E (And.intro hu (And.intro hdrop (And.intro hfit (And.intro hr (And.intro hb3 (And.intro hB2 (And.intro hA2 hguB))))))))
        clear X Y hr hb2 E hu hdrop hfit hA hb1 hguB hb3 hA2 hB2
        unfold ucs at P1
        go_wp2_with fail
        refine P1.mono ?_
        rintro e W3 ⟨gp, cp, L, rfl, hL, hgp, hO, hb4⟩
        clear P1 c0 c1 c2 c3 c4
        obtain ⟨E, hu, hdrop, hfit, hr, hb3, hB2, hA2, hguB⟩ := X2.out
        have hL5 : L ≤ 19 := hL ▸ parts_le hr id
        have hPlt := parts_lt hr id
        have hPlt0 := parts_lt hr 0
        have hPle0 := parts_le hr 0
        have hPne := parts_ne u id
        have hPne0 := parts_ne u 0
        have hA3 := hA2.held hb4
        have hB3 := hB2.trans (hb4.mono hB2.size)
        have hLas := (E.las.held hb3).held hb4
        by_cases hcur : cur = []
        · obtain ⟨hD0, hid0⟩ := E.nil hcur
          obtain ⟨D', hD'⟩ : ∃ D' : List (List Nat), D' = [] := ⟨_, rfl⟩
          have hDl : D'.length = (rowsOf D cur).length := by rw [hD', hcur]; rfl
          have hrows : rowsOf D cur ++ [z4 []] = (D' ++ [[]]).map z4 := by rw [hD', hcur]; rfl
          have heq : pages [] 0 us = D' ++ pages ([] ++ parts u 0) u.id (us.drop (i + 1)) := by rw [E.eq, hdrop, hcur, hid0, pages_on hr (by simp; omega), hD0, hD']
          have hneg : decide (((D'.length : Nat) : Int) - 1 < 0) = true := by rw [hD']; rfl
          clear hD0 hid0
          obtain ⟨g9, cap9, W5, hrun9, hLas5, hb5, hk5⟩ := hLas.fresh hB3.size (by have := E.few; omega)
          have hA5 := hk5 gu _ _ hA3 (by decide)
          have hB5 := hB3.trans hb5
          rw [hrows] at hLas5
          have c0 : W5.cell? ⟨gu, 0, none⟩ = some (.int .u32 u.a) := hA5.at_ 0
          have c1 : W5.cell? ⟨gu, 0 + 1, none⟩ = some (.int .i64 u.len) := hA5.at_ 1
          have c2 : W5.cell? ⟨gu, 0 + 2, none⟩ = some (.int .u32 u.id) := hA5.at_ 2
          have c3 : W5.cell? ⟨gu, 0 + 3, none⟩ = some (.int .u32 u.seq) := hA5.at_ 3
          have c4 : W5.cell? ⟨gu, 0 + 4, none⟩ = some (.int .u16 u.met) := hA5.at_ 4
          have P2 := parts_any hr hfit (id := 0) (by omega) W5
          unfold ucs at P2
          have hDf : D'.length ≤ i := by rw [hDl]; exact E.few
          have hDf2 : D'.length ≤ 100000 := by omega
          have q2b : IntKind.i64.wrap ((D'.length : Nat) : Int) = (D'.length : Nat) := by rw [IntKind.wrap_i64]; omega
          rw [← hDl] at q2 hrun9 hLas5 ⊢
          obtain ⟨N9, hN9⟩ : ∃ N9, N9 = D'.length + 1 := ⟨_, rfl⟩
          rw [← hN9] at hrun9 hLas5
          have mk : ∀ W : World, (Instr.makeSlice 79 (.int .i64 4) (.int .i64 4)).run Tryz.prog W = .ok (.slice (some ⟨W.heap.size, 0, none⟩) 4 4) (W.alloc (.cells #[.int .u8 0, .int .u8 0, .int .u8 0, .int .u8 0] 5)) := fun W => make_any 4 (by omega) W
          have Z := Lib.hid (And.intro hfit (And.intro heq (And.intro hLas5 (And.intro hB5 (And.intro hA5 (And.intro hPlt0 (And.intro hPle0 (And.intro hPne0 (And.intro hDf hN9)))))))))
          clear X2 E hu hdrop hfit hr hb3 hB2 hA2 hguB hL hPlt hPlt0 hPle0 hPne hPne0 hA3 hB3 hLas hO hb4 hgp hk5 hA5 hB5 hLas5 hrows hDl heq hb5 hN9 hDf
          clear hD'
          go_wp2_with (first | (at_builtin; refine Lib.wpList_append_run _ rfl (.tmp 36) (.tmp 38) 220 220 rfl _ _ rfl rfl _ _ hrun9 ?_) | fail)
          refine P2.mono ?_
          rintro e W6 ⟨gp2, cp2, L2, rfl, hL2, hgp2, hO2, hb6⟩
          clear P2 c0 c1 c2 c3 c4 hrun9 mk
          obtain ⟨hfit, heq, hLas5, hB5, hA5, hPlt0, hPle0, hPne0, hDf, hN9⟩ := Z.out
          clear Z
          have hA6 := hA5.held hb6
          have T : EncT w us i u D' [] (parts u 0) gp2 cp2 (.slice (some ⟨g9, 0, none⟩) N9 cap9) W6 := ⟨hLas5.held hb6, hB5.trans (hb6.mono hB5.size), heq, hO2, hPne0, hPlt0, by simp; omega, hDf⟩
          obtain ⟨gb, N, capv, gi, ci, g', cap', W7, q, hvv, hDN, hq2, h1, h2, h3, h4, h5, h6⟩ := T.step hfit hk L2 hL2
          have hA8 := h6 gu _ _ hA6 (by decide) (by decide)
          have c2 : (W7.setCell ⟨gb, D'.length, none⟩ (.slice (some ⟨g', 0, none⟩) (q + L2) cap')).cell? ⟨gu, 0 + 2, none⟩ = some (.int .u32 u.id) := hA8.at_ 2
          have R5 := Lib.hid h5
          have hq3 : q + L2 ≤ 1024 := by simp at hq2; omega
          clear hq2
          cases hvv
          clear hfit heq hLas5 hB5 hA5 hPlt0 hPle0 hPne0 hDf hA6 T h5 h6 hA8 hO2 hb6 hgp2 hL2 hN9
          go_wp2_with (first | (at_builtin; refine Lib.wpList_append_run _ rfl (.tmp 49) (.tmp 50) 79 79 rfl _ _ rfl rfl _ _ h2 ?_) | fail)
          go_roundw
          case rel => exact R5.out
          case measure => simp only [intOf]; omega
        · have hro : rowsOf D cur = (D ++ [cur]).map z4 := by unfold rowsOf; rw [if_neg hcur]
          have hrl : (rowsOf D cur).length = D.length + 1 := by rw [hro]; simp
          by_cases hfits : cur.length + L + 4 ≤ 1024
          · have T : EncT w us i u D cur (parts u id) gp cp u3 W3 := ⟨hro ▸ hLas, hB3, by rw [E.eq, hdrop, pages_on hr (by omega)], hO, hPne, hPlt, by omega, by have := E.few; omega⟩
            obtain ⟨gb, N, capv, gi, ci, g', cap', W7, q, rfl, hDN, hq2, h1, h2, h3, h4, h5, h6⟩ := T.step hfit hk L hL
            have hA8 := h6 gu _ _ hA3 (by decide) (by decide)
            have c2 : (W7.setCell ⟨gb, D.length, none⟩ (.slice (some ⟨g', 0, none⟩) (q + L) cap')).cell? ⟨gu, 0 + 2, none⟩ = some (.int .u32 u.id) := hA8.at_ 2
            have R5 := Lib.hid h5
            have hq3 : q + L ≤ 1024 := by omega
            clear hq2
            rw [hrl] at q2 ⊢
            have e1 : ((D.length + 1 : Nat) : Int) - 1 = (D.length : Nat) := by omega
            rw [e1]
            clear X2 E hu hdrop hfit hr hb3 hB2 hA2 hguB hL hPlt hPlt0 hPle0 hPne hPne0 hA3 hB3 hLas hro hrl hfits T h5 h6 hA8 hO hb4 hgp q2 e1
            go_wp2_with (first | (at_builtin; refine Lib.wpList_append_run _ rfl (.tmp 49) (.tmp 50) 79 79 rfl _ _ rfl rfl _ _ h2 ?_) | fail)
            go_roundw
            case rel => exact R5.out
            case measure => simp only [intOf]; omega
          · obtain ⟨D', hD'⟩ : ∃ D' : List (List Nat), D' = D ++ [cur] := ⟨_, rfl⟩
            have hDl : D'.length = (rowsOf D cur).length := by rw [hD', hrl]; simp
            have hrows : rowsOf D cur ++ [z4 []] = (D' ++ [[]]).map z4 := by rw [hD', hro]; simp
            have heq : pages [] 0 us = D' ++ pages ([] ++ parts u 0) u.id (us.drop (i + 1)) := by rw [E.eq, hdrop, pages_new hr (by omega), hD']; simp
            obtain ⟨gb0, cp0, gi0, ci0, hv0, k0⟩ := hLas.row_at (i := D.length) (by omega)
            have hq0 : ((rowsOf D cur).getD D.length []).length = cur.length + 4 := by rw [hro]; simp [List.getD, z4]
            rw [hq0] at k0
            obtain ⟨q0, hq0'⟩ : ∃ q0, q0 = cur.length + 4 := ⟨_, rfl⟩
            rw [← hq0'] at k0
            have hq1 : 1024 < q0 + L := by omega
            have hq1b : q0 ≤ 1024 := by have := E.room; omega
            have hDD : D'.length = D.length + 1 := by rw [hDl, hrl]
            rw [← hDl] at hv0
            obtain ⟨d0, hd0⟩ : ∃ d0, d0 = D.length := ⟨_, rfl⟩
            rw [← hd0] at k0 hDD
            have hm1 : (((D'.length : Nat) : Int) - 1) = (d0 : Int) := by omega
            have hd1 : d0 < D'.length := by omega
            clear hq0 hq0' hro hfits hd0
            obtain ⟨g9, cap9, W5, hrun9, hLas5, hb5, hk5⟩ := hLas.fresh hB3.size (by have := E.few; omega)
            have hA5 := hk5 gu _ _ hA3 (by decide)
            have hB5 := hB3.trans hb5
            rw [hrows] at hLas5
            have c0 : W5.cell? ⟨gu, 0, none⟩ = some (.int .u32 u.a) := hA5.at_ 0
            have c1 : W5.cell? ⟨gu, 0 + 1, none⟩ = some (.int .i64 u.len) := hA5.at_ 1
            have c2 : W5.cell? ⟨gu, 0 + 2, none⟩ = some (.int .u32 u.id) := hA5.at_ 2
            have c3 : W5.cell? ⟨gu, 0 + 3, none⟩ = some (.int .u32 u.seq) := hA5.at_ 3
            have c4 : W5.cell? ⟨gu, 0 + 4, none⟩ = some (.int .u16 u.met) := hA5.at_ 4
            have P2 := parts_any hr hfit (id := 0) (by omega) W5
            unfold ucs at P2
            have hDf : D'.length ≤ i := by rw [hDl]; exact E.few
            have hDf2 : D'.length ≤ 100000 := by omega
            have q2b : IntKind.i64.wrap ((D'.length : Nat) : Int) = (D'.length : Nat) := by rw [IntKind.wrap_i64]; omega
            rw [← hDl] at q2 hrun9 hLas5 ⊢
            obtain ⟨N9, hN9⟩ : ∃ N9, N9 = D'.length + 1 := ⟨_, rfl⟩
            rw [← hN9] at hrun9 hLas5
            have mk : ∀ W : World, (Instr.makeSlice 79 (.int .i64 4) (.int .i64 4)).run Tryz.prog W = .ok (.slice (some ⟨W.heap.size, 0, none⟩) 4 4) (W.alloc (.cells #[.int .u8 0, .int .u8 0, .int .u8 0, .int .u8 0] 5)) := fun W => make_any 4 (by omega) W
            have Z := Lib.hid (And.intro hfit (And.intro heq (And.intro hLas5 (And.intro hB5 (And.intro hA5 (And.intro hPlt0 (And.intro hPle0 (And.intro hPne0 (And.intro hDf hN9)))))))))
            clear X2 E hu hdrop hfit hr hb3 hB2 hA2 hguB hL hPlt hPlt0 hPle0 hPne hPne0 hA3 hB3 hLas hO hb4 hgp hk5 hA5 hB5 hLas5 hrows hDl heq hb5 hN9 hDf
            subst hv0
            have q2' : IntKind.i64.wrap ((d0 : Int) + 1) = (D'.length : Nat) := by rw [← hm1]; exact q2
            rw [hm1]
            clear hm1 q2 hD' hrl hDD
            go_wp2_with (first | (at_builtin; refine Lib.wpList_append_run _ rfl (.tmp 36) (.tmp 38) 220 220 rfl _ _ rfl rfl _ _ hrun9 ?_) | fail)
            refine P2.mono ?_
            rintro e W6 ⟨gp2, cp2, L2, rfl, hL2, hgp2, hO2, hb6⟩
            clear P2 c0 c1 c2 c3 c4 hrun9 mk
            obtain ⟨hfit, heq, hLas5, hB5, hA5, hPlt0, hPle0, hPne0, hDf, hN9⟩ := Z.out
            clear Z
            have hA6 := hA5.held hb6
            have T : EncT w us i u D' [] (parts u 0) gp2 cp2 (.slice (some ⟨g9, 0, none⟩) N9 cap9) W6 := ⟨hLas5.held hb6, hB5.trans (hb6.mono hB5.size), heq, hO2, hPne0, hPlt0, by simp; omega, hDf⟩
            obtain ⟨gb, N, capv, gi, ci, g', cap', W7, q, hvv, hDN, hq2, h1, h2, h3, h4, h5, h6⟩ := T.step hfit hk L2 hL2
            have hA8 := h6 gu _ _ hA6 (by decide) (by decide)
            have c2 : (W7.setCell ⟨gb, D'.length, none⟩ (.slice (some ⟨g', 0, none⟩) (q + L2) cap')).cell? ⟨gu, 0 + 2, none⟩ = some (.int .u32 u.id) := hA8.at_ 2
            have R5 := Lib.hid h5
            have hq3 : q + L2 ≤ 1024 := by simp at hq2; omega
            clear hq2
            cases hvv
            clear hfit heq hLas5 hB5 hA5 hPlt0 hPle0 hPne0 hDf hA6 T h5 h6 hA8 hO2 hb6 hgp2 hL2 hN9
            go_wp2_with (first | (at_builtin; refine Lib.wpList_append_run _ rfl (.tmp 49) (.tmp 50) 79 79 rfl _ _ rfl rfl _ _ h2 ?_) | fail)
            go_roundw
            case rel => exact R5.out
            case measure => simp only [intOf]; omega
    · have hin : i = n := by omega
      have hPG : rowsOf D cur = (pages [] 0 us).map z4 := by
        rw [E.eq, List.drop_of_length_le (by omega)]
        unfold rowsOf
        rw [pages]
        by_cases hc : cur = []
        · rw [if_pos hc, if_pos hc, (E.nil hc).1]; rfl
        · rw [if_neg hc, if_neg hc]
      have hlas := E.las
      have hB := E.below
      rw [hPG] at hlas ⊢
      have hfine := pages_fine us [] 0 (by simp) (by simp)
      have hen : ee = (pages [] 0 us).map page := EE.out
      have hPn : (pages [] 0 us).length ≤ 100000 := by have := E.few; rw [hPG, List.length_map] at this; omega
      clear EE
      generalize pages [] 0 us = PG at *
      obtain ⟨p, cp, rfl, hcp⟩ := hlas.form
      rw [List.length_map] at hcp ⊢
      have h0 : HeadR w PG (.slice p PG.length cp) (.int .i64 (0 : Nat)) wr := ⟨0, rfl, by omega, by simpa using hlas, hB⟩
      have Z := Lib.hid (And.intro h0 (And.intro hfine hen))
      clear hlas hB hfine h0 hPG E H hcap hn hen hi hcp hin
      obtain ⟨np, hnp⟩ : ∃ np, np = PG.length := ⟨_, rfl⟩
      rw [← hnp] at hPn ⊢
      have NP := Lib.hid hnp
      clear hnp
      go_wp2_with fail
      go_loopw [58] (fun k wr => HeadR w PG (.slice p np cp) k wr) (fun k _ => np - (intOf k).toNat)
      case atStart => exact NP.out ▸ Z.out.1
      case round =>
        obtain ⟨m, rfl, hm, hL, hB⟩ := hrel
        have hnp := NP.out
        by_cases hlt : m < np
        · obtain ⟨hR1, hR2, hR3⟩ := head_rows (PG := PG) (m := m) (by omega)
          obtain ⟨gb, cp2, gi, ci, hv, k0, hO, hBg, hup⟩ := hL.inplace (i := m) (by omega)
          obtain ⟨-, hf1, hf2⟩ := Z.out.2.1 PG[m] (List.getElem_mem _)
          rw [hR1] at k0 hO hup
          generalize PG[m] = b at *
          rw [hR2, ← hnp] at hv
          cases hv
          obtain ⟨q, hq⟩ : ∃ q, q = (z4 b).length := ⟨_, rfl⟩
          rw [← hq] at k0 hup
          have hqb : q = b.length + 4 := by rw [hq]; simp [z4]
          have c0 := hO.cell (k := 0) (by omega)
          have c1 := hO.cell (k := 1) (by omega)
          have f0 := hO.free 0
          have f1 := hO.free 1
          have hO1 := (hO.setCell 0 87).setCell 1 1
          have hT1 : Turn [gi] wr ((wr.setCell ⟨gi, 0, none⟩ (cell 87)).setCell ⟨gi, 1, none⟩ (cell 1)) := (Turn.setCell wr (by simp) _).trans (Turn.setCell _ (by simp) _)
          have l0 : (0 : Int) < (q : Int) := by omega
          have l1 : (1 : Int) < (q : Int) := by omega
          have hci : q ≤ ci := by obtain ⟨_, _, _, h, _⟩ := hO; omega
          obtain ⟨bl, hbl⟩ : ∃ bl, bl = b.length := ⟨_, rfl⟩
          rw [← hbl] at hqb
          have e1 : IntKind.i64.wrap ((q : Int) - 4) = (bl : Int) := by rw [IntKind.wrap_i64]; omega
          have e2 : IntKind.u32.wrap (bl : Int) = (bl : Int) := by simp [IntKind.wrap, IntKind.bits, IntKind.signed]; omega
          have e3 : IntKind.i64.wrap ((m : Int) + 1) = ((m + 1 : Nat) : Int) := by rw [IntKind.wrap_i64]; omega
          obtain ⟨c4, hc4⟩ : ∃ c4, c4 = ci - 2 := ⟨_, rfl⟩
          have s24 : ∀ W : World, (Instr.slice 79 (.slice (some ⟨gi, 0, none⟩) q ci) (some (.int .i64 2)) (some (.int .i64 4)) none).run Tryz.prog W = .ok (.slice (some ⟨gi, 2, none⟩) 2 c4) W := fun W => cut_both_run gi 0 q ci 2 4 (by omega) (by omega) W rfl rfl rfl rfl hc4
          have P := put_ob2 hO1 (off := 2) (v := bl) (by omega) (by simp [z4]) c4
          have hnew : set2 (((z4 b).set 0 87).set 1 1) 2 bl = page b := by rw [hbl]; rfl
          rw [hnew] at P
          have Y := Lib.hid (And.intro hT1 (And.intro hup (And.intro hR3 (And.intro hB hBg))))
          have hm2 : ((m : Nat) : Int) < (np : Int) := by omega
          have hlen : (page b).length = q := by rw [page_length]; omega
          have Y2 := Lib.hid hlen
          clear hL hR1 hR2 hR3 hup hO hO1 hT1 hq hbl hf1 hf2 hci hc4 hnew hB hBg hlen hqb hm hnp
          change Calls _ _ _ ((wr.setCell ⟨gi, 0, none⟩ (.int .u8 87)).setCell ⟨gi, 1, none⟩ (.int .u8 1)) _ at P
          go_wp2_with fail
          refine P.mono ?_
          rintro e W2 ⟨rfl, hO2, hT2⟩
          obtain ⟨hT1, hup, hR3, hB, hBg⟩ := Y.out
          have hT3 := hT1.trans hT2
          have hL2 := hup W2 _ hT3 hO2 Y2.out
          rw [hR3] at hL2
          have R5 := Lib.hid (show HeadR w PG (.slice (some ⟨gb, 0, none⟩) np cp) (.int .i64 ((m + 1 : Nat) : Int)) W2 from ⟨m + 1, rfl, by have := NP.out; omega, hL2, hB.trans (hT3.below (B := w.heap.size) (by simpa using hBg) hB.size)⟩)
          clear hT1 hup hR3 hB hBg hT3 hL2 hO2 hT2 Y Y2 P s24 c0 c1 f0 f1
          go_wp2_with fail
          go_roundw
          case rel => exact R5.out
          case measure => simp only [intOf]; omega
        · have hme : m = np := by omega
          have V := Lib.hid (And.intro hL (And.intro hB Z.out.2.2))
          clear hL hB Z hnp hm
          go_wp2_with fail
          go_ret
          have hnp := NP.out
          obtain ⟨hL, hB, hen⟩ := V.out
          refine ⟨_, rfl, ?_, hB⟩
          rw [hen]
          rw [List.take_of_length_le (by omega), List.drop_of_length_le (by omega), List.map_nil, List.append_nil] at hL
          exact hL
end Go.Proofs.YtkchckeecfalhaaGreat.T

namespace Go.Proofs.YtkchckeecfalhaaGreat
open Go.RowKit Go.Maps Rm Fm Sb

/-- ways that a datagram may have told: none is lost -/
def Mr.Good (M : Mr) : Prop := ∀ k r, M.f k = some r → r.fr = k.fr ∧ Am.right k.a k.n = true ∧ r.id ≠ 0 ∧ r.seq ≤ 1073741824
/-- how far a way is, as a number -/
def Mr.farN (M : Mr) (r : Rt) : Nat := (far r.met (cAt M.c r.fr)).toNat
theorem Mr.farN_eq (M : Mr) (r : Rt) : far r.met (cAt M.c r.fr) = (M.farN r : Int) := by
  have := far_range (m := r.met) (c := cAt M.c r.fr) (by omega)
  unfold Mr.farN
  omega
theorem Mr.farN_lt (M : Mr) (r : Rt) : M.farN r < 65536 := by
  have := far_range (m := r.met) (c := cAt M.c r.fr) (by omega)
  unfold Mr.farN
  omega
/-- what is told of a subject, and what is noted ahead of that -/
def Mr.tell1 (M : Mr) (e : En) : List T.Tm.Up × Mr :=
  if M.owns ⟨e.a, e.n⟩ = true then (if M.seq = 0 then [] else [⟨e.a, e.n, M.id, M.seq, 0⟩], M)
  else match M.pick e.a e.n with
    | some r => ([⟨e.a, e.n, r.id, r.seq, M.farN r⟩], M.covered e.a e.n r.id r.seq (M.farN r))
    | none => (if e.on = true then [⟨e.a, e.n, 0, 0, 65535⟩] else [], M)
/-- how many records that may take -/
def Mr.need (M : Mr) (e : En) : Nat := if M.owns ⟨e.a, e.n⟩ = true then 0 else if (M.pick e.a e.n).isSome = true then 1 else 0
theorem Mr.need_own {M : Mr} {e : En} (h : M.owns ⟨e.a, e.n⟩ = true) : M.need e = 0 := by unfold Mr.need; rw [if_pos h]
theorem Mr.need_way {M : Mr} {e : En} {r : Rt} (h : M.owns ⟨e.a, e.n⟩ = false) (hp : M.pick e.a e.n = some r) : M.need e = 1 := by unfold Mr.need; rw [if_neg (by rw [h]; decide), hp]; rfl
theorem Mr.need_none {M : Mr} {e : En} (h : M.owns ⟨e.a, e.n⟩ = false) (hp : M.pick e.a e.n = none) : M.need e = 0 := by unfold Mr.need; rw [if_neg (by rw [h]; decide), hp]; rfl
theorem Mr.need_le (M : Mr) (e : En) : M.need e ≤ 1 := by unfold Mr.need; (repeat' split) <;> omega
def Mr.needS (M : Mr) : List En → Nat
  | [] => 0
  | e :: r => M.need e + (M.tell1 e).2.needS r
theorem Mr.needS_le (l : List En) : ∀ M : Mr, M.needS l ≤ l.length := by
  induction l with
  | nil => intro M; exact Nat.le_refl _
  | cons e r ih => intro M; have h1 := M.need_le e; have h2 := ih (M.tell1 e).2; simp only [Mr.needS, List.length_cons]; omega
/-- .. of several, one behind the other -/
def Mr.tellS (M : Mr) : List En → List T.Tm.Up × Mr
  | [] => ([], M)
  | e :: r => ((M.tell1 e).1 ++ ((M.tell1 e).2.tellS r).1, ((M.tell1 e).2.tellS r).2)
theorem Mr.tellS_snoc (M : Mr) (l : List En) (e : En) : M.tellS (l ++ [e]) = ((M.tellS l).1 ++ ((M.tellS l).2.tell1 e).1, ((M.tellS l).2.tell1 e).2) := by
  induction l generalizing M with
  | nil => simp [Mr.tellS]
  | cons x r ih => simp [Mr.tellS, ih, List.append_assoc]
theorem Mr.tell1_own {M : Mr} {e : En} (h : M.owns ⟨e.a, e.n⟩ = true) : M.tell1 e = (if M.seq = 0 then [] else [⟨e.a, e.n, M.id, M.seq, 0⟩], M) := by unfold Mr.tell1; rw [if_pos h]
theorem Mr.tell1_way {M : Mr} {e : En} {r : Rt} (h : M.owns ⟨e.a, e.n⟩ = false) (hp : M.pick e.a e.n = some r) : M.tell1 e = ([⟨e.a, e.n, r.id, r.seq, M.farN r⟩], M.covered e.a e.n r.id r.seq (M.farN r)) := by unfold Mr.tell1; rw [if_neg (by rw [h]; decide), hp]
theorem Mr.tell1_none {M : Mr} {e : En} (h : M.owns ⟨e.a, e.n⟩ = false) (hp : M.pick e.a e.n = none) : M.tell1 e = (if e.on = true then [⟨e.a, e.n, 0, 0, 65535⟩] else [], M) := by unfold Mr.tell1; rw [if_neg (by rw [h]; decide), hp]
theorem Mr.covered_same (M : Mr) (a : Nat) (n : Int) (i s m : Nat) : (M.covered a n i s m).id = M.id ∧ (M.covered a n i s m).f = M.f ∧ (M.covered a n i s m).c = M.c ∧ (M.covered a n i s m).now = M.now ∧ (M.covered a n i s m).seq = M.seq ∧ (M.covered a n i s m).since = M.since := by unfold Mr.covered; split <;> exact ⟨rfl, rfl, rfl, rfl, rfl, rfl⟩
theorem Mr.tell1_f (M : Mr) (e : En) : (M.tell1 e).2.f = M.f := by
  unfold Mr.tell1
  split
  · rfl
  · split
    · exact (M.covered_same _ _ _ _ _).2.1
    · rfl
theorem Mr.tellS_f (l : List En) : ∀ M : Mr, (M.tellS l).2.f = M.f := by
  induction l with
  | nil => intro M; rfl
  | cons e r ih => intro M; show ((M.tell1 e).2.tellS r).2.f = M.f; rw [ih, Mr.tell1_f]
theorem Mr.Good.of_f {M M' : Mr} (h : M.Good) (e : M'.f = M.f) : M'.Good := fun k r hk => h k r (by rw [← e]; exact hk)
theorem Mr.tell1_len (M : Mr) (e : En) : (M.tell1 e).1.length ≤ 1 := by
  unfold Mr.tell1
  split
  · split <;> simp
  · split
    · simp
    · split <;> simp
theorem Mr.tellS_len (l : List En) : ∀ M : Mr, (M.tellS l).1.length ≤ l.length := by
  induction l with
  | nil => intro M; simp [Mr.tellS]
  | cons e r ih =>
    intro M
    have h1 := M.tell1_len e
    have h2 := ih (M.tell1 e).2
    simp only [Mr.tellS, List.length_append, List.length_cons]
    omega
/-- a way that is picked may be noted -/
theorem Mr.Good.right {M : Mr} (h : M.Good) {a : Nat} {n : Int} {r : Rt} (hp : M.pick a n = some r) : Rm.right ⟨4, 0, 0, r.id, a, n, false, r.seq, M.farN r⟩ = true ∧ M.farN r ≠ 65535 := by
  obtain ⟨k, hk, hf, hc, hfe, hfar⟩ := Mr.pick_some hp
  obtain ⟨h0, h1, h2, h3⟩ := h _ _ hf
  have h1' : Am.right a n = true := h1
  have h0' : r.fr = (k : Int) := h0
  have hne : M.farN r ≠ 65535 := fun e => hfar (by
    have := M.farN_eq r
    rw [h0', e] at this
    exact this)
  refine ⟨?_, hne⟩
  rw [← right_two]
  unfold right2
  simp only [h1', Bool.not_true, Bool.false_or, Bool.or_eq_true, decide_eq_true_eq, beq_iff_eq]
  rw [if_neg (by omega), if_neg (by decide), if_neg (by decide), if_neg (by decide)]
  simp
  omega
end Go.Proofs.YtkchckeecfalhaaGreat

