/-
  Package router's law: one prefix, as mathematics.
  Package router's law: a router that a statement makes, in memory; what calls make of it.
  Package router's law: the document's example.
  RouterPeriod: how long a number is told.
-/
import Derived.Test.YtmhcjhbmeohjdaaGreatS26
namespace Go.Proofs.YtmhcjhbmeohjdaaGreat
open Go.RowKit Go.Maps Rm Fm Sb

/-- the prefix of the statements -/
def tenP : Pk := ⟨167772160, 8⟩
theorem ten_ok : Pk.ok ⟨167772160, 8⟩ := ⟨by decide, by decide, by decide⟩
/-- a router that owns just the one prefix, has no ways, and never noted anything else -/
def Mown (id : Nat) (c : Nat → Int) (now : Int) (seq : Nat) (since : Int) (lease : Nat) : Mr := ⟨id, ⟨lease, fun p => if p = tenP then some true else none, fun _ => none⟩, fun _ => none, c, now, seq, since⟩
/-- one that noted nothing -/
def Mnone (id : Nat) (c : Nat → Int) (f : Ways) (now : Int) : Mr := ⟨id, sm0, f, c, now, 0, 0⟩
theorem lessF_none (dead : Rk → Bool) : lessF (fun _ => none) dead = fun _ => none := by
  funext k
  unfold lessF
  split <;> rfl
theorem cutR_none (k : Rk) : cutR (fun _ => none) k = fun _ => none := by
  funext z
  unfold cutR
  split <;> rfl
section
variable {id : Nat} {c : Nat → Int} {now : Int} {seq : Nat} {since : Int} {lease : Nat}
theorem Mown.owns_ten : (Mown id c now seq since lease).owns ⟨167772160, 8⟩ = true := by unfold Mr.owns Mown tenP; simp
theorem Mown.good : (Mown id c now seq since lease).Good := fun k r h => by cases h
theorem Mown.few : Few (Mown id c now seq since lease) 1 0 := ⟨[tenP], [], [], by simp, by simp, fun p h => by
  by_cases e : p = tenP
  · simp [e]
  · simp [Mown, e] at h, fun k h => by simp [Mown] at h, fun k h => by simp [Mown] at h⟩
theorem Mown.any : (Mown id c now seq since lease).ownsAny := ⟨tenP, ten_ok, by simp [Mown]⟩
theorem Mown.aged : (Mown id c now seq since lease).aged = Mown id c (now + 1) seq since lease := by
  unfold Mr.aged Mown
  simp only [lessF_none]
theorem Mown.subj {rs : List En} (h : Subj (Mown id c now seq since lease) rs) : rs = [⟨167772160, 8, true⟩] := by
  refine h.one (fun p => ⟨fun ha => ?_, fun e => ?_⟩) (fun p ⟨fr, _, hw⟩ => by cases hw)
  · rcases ha with ⟨_, h⟩ | ⟨_, _, h⟩
    · by_cases e : p = tenP
      · exact e
      · simp [Mown, e] at h
    · cases h
  · subst e
    exact .inl ⟨ten_ok, by simp [Mown, tenP]⟩
theorem Mown.tell (hs : seq ≠ 0) : (Mown id c now seq since lease).tellS [⟨167772160, 8, true⟩] = ([⟨167772160, 8, id, seq, 0⟩], Mown id c now seq since lease) := by
  have h1 := Mr.tell1_own (M := Mown id c now seq since lease) (e := ⟨167772160, 8, true⟩) Mown.owns_ten
  simp only [Mr.tellS, h1, List.append_nil]
  rw [if_neg (show ¬ (Mown id c now seq since lease).seq = 0 from hs)]
  rfl
theorem Mown.need : (Mown id c now seq since lease).needS [⟨167772160, 8, true⟩] = 0 := by
  simp only [Mr.needS, Nat.add_zero]
  exact Mr.need_own Mown.owns_ten
theorem Mown.entry : [(⟨167772160, 8, true⟩ : En)].flatMap (Mown id c now seq since lease).entry = [⟨167772160, 8, 1, 0⟩] := by
  simp only [List.flatMap_cons, List.flatMap_nil, List.append_nil]
  exact Mr.entry_own Mown.owns_ten
/-- the number that is told behind a tick, since when, and the lease -/
theorem Mown.next_big (h : seq ≠ 0 ∧ now - since < 12) : (Mown id c now seq since lease).advance = Mown id c now seq since lease := by unfold Mr.advance; rw [if_pos (show ((Mown id c now seq since lease).seq ≠ 0 ∧ (Mown id c now seq since lease).now - (Mown id c now seq since lease).since < 12) from h)]
theorem Mown.advance_to {nx : Nat} (h : ¬ (seq ≠ 0 ∧ now - since < 12)) (hn : (if seq = 0 then lease + 1 else seq + 1) = nx) (hb : nx + 7 ≤ 1073741824) : (Mown id c now seq since lease).advance = Mown id c now nx now (if nx ≤ lease then lease else max lease (nx + 7)) := by
  have e : (Mown id c now seq since lease).next = nx := hn
  unfold Mr.advance
  rw [if_neg (show ¬ ((Mown id c now seq since lease).seq ≠ 0 ∧ (Mown id c now seq since lease).now - (Mown id c now seq since lease).since < 12) from h), e, if_pos (by omega)]
  unfold Mr.leased
  by_cases hl : nx ≤ lease
  · rw [if_pos (show nx ≤ (Mown id c now seq since lease).sm.lease from hl), if_pos hl]
    rfl
  · rw [if_neg (show ¬ nx ≤ (Mown id c now seq since lease).sm.lease from hl), if_neg hl, show min (nx + 7) 1073741824 = nx + 7 by omega]
    rfl
theorem Mown.advN_zero (h : seq ≠ 0 ∧ now - since < 12) : (Mown id c now seq since lease).advN = 0 := by unfold Mr.advN; rw [if_pos (show ((Mown id c now seq since lease).seq ≠ 0 ∧ (Mown id c now seq since lease).now - (Mown id c now seq since lease).since < 12) from h)]
theorem Mown.advN_le (h : ¬ (seq ≠ 0 ∧ now - since < 12)) {nx : Nat} (hn : (if seq = 0 then lease + 1 else seq + 1) = nx) : (Mown id c now seq since lease).advN ≤ if nx ≤ lease then 0 else 1 := by
  have e : (Mown id c now seq since lease).next = nx := hn
  unfold Mr.advN
  rw [if_neg (show ¬ ((Mown id c now seq since lease).seq ≠ 0 ∧ (Mown id c now seq since lease).now - (Mown id c now seq since lease).since < 12) from h), e]
  show (if nx ≤ 1073741824 then (if nx ≤ lease then 0 else 1) else 0) ≤ _
  split
  · exact Nat.le_refl _
  · omega
end
/-- a link and a prefix of its own, of a new router -/
theorem link_none (id : Nat) (c : Nat → Int) (now : Int) (k : Nat) (z : Int) : (Mnone id c (fun _ => none) now).link k z = Mnone id (fun i => if i = k then z else c i) (fun _ => none) now := by
  unfold Mr.link
  split
  · unfold Mnone Mr.setCost
    simp only [lessF_none]
  · rfl
theorem link_own (id : Nat) (c : Nat → Int) (now : Int) (seq : Nat) (since : Int) (lease : Nat) (k : Nat) (z : Int) : (Mown id c now seq since lease).link k z = Mown id (fun i => if i = k then z else c i) now seq since lease := by
  unfold Mr.link
  split
  · unfold Mown Mr.setCost
    simp only [lessF_none]
  · rfl
theorem own_none (id : Nat) (c : Nat → Int) (now : Int) : ({ Mnone id c (fun _ => none) now with sm := app (Mnone id c (fun _ => none) now).sm ⟨2, 0, 0, 0, 167772160, 8, true, 0, 0⟩ } : Mr) = Mown id c now 0 0 0 := by
  unfold Mnone Mown
  congr 1
theorem mr0_none (id : Nat) : mr0 id = Mnone id (fun _ => 0) (fun _ => none) 0 := rfl
theorem Mnone.subj {id : Nat} {c : Nat → Int} {now : Int} {rs : List En} (h : Subj (Mnone id c (fun _ => none) now) rs) : rs = [] :=
  h.none (fun p ha => by
    rcases ha with ⟨_, h⟩ | ⟨_, _, h⟩
    · cases h
    · cases h) (fun p ⟨_, _, h⟩ => by cases h)
theorem Mnone.few {id : Nat} {c : Nat → Int} {now : Int} : Few (Mnone id c (fun _ => none) now) 0 0 := ⟨[], [], [], by simp, by simp, (fun p h => by simp [Mnone, sm0] at h), (fun k h => by simp [Mnone, sm0] at h), (fun k h => by simp [Mnone] at h)⟩
end Go.Proofs.YtmhcjhbmeohjdaaGreat

namespace Go.Proofs.YtmhcjhbmeohjdaaGreat
open Go.RowKit Go.Maps Rm Fm Sb

/-- a router that was made since w0 -/
structure Rl (w0 : World) (w : World) (R room sp : Nat) (M : Mr) : Prop where
  ex : ∃ F, Rz F w R room sp M ∧ (∀ y, y ∈ F → w0.heap.size ≤ y) ∧ Below w0.heap.size w0 w
section
variable {w0 w w' : World} {R room sp : Nat} {M M' : Mr}
theorem Rl.below (h : Rl w0 w R room sp M) : Below w0.heap.size w0 w := by obtain ⟨F, -, -, hB⟩ := h.ex; exact hB
theorem Rl.held (h : Rl w0 w R room sp M) (hb : Below w.heap.size w w') : Rl w0 w' R room sp M := by
  obtain ⟨F, hz, hF, hB⟩ := h.ex
  exact ⟨F, hz.held hb, hF, hB.trans (hb.mono hB.size)⟩
theorem Rl.goes {F : List Nat} {room' sp' : Nat} (hF : ∀ y, y ∈ F → w0.heap.size ≤ y) (hB : Below w0.heap.size w0 w) (k : Goes F w R room' sp' M' w') : Rl w0 w' R room' sp' M' := by
  obtain ⟨F', hz, hT, hn⟩ := k
  exact ⟨F', hz, fun y hy => (hn y hy).elim (hF y) (fun h => Nat.le_trans hB.size h), hB.trans (hT.below hF hB.size)⟩
theorem Rl.lt (h : Rl w0 w R room sp M) : R < w.heap.size := by
  obtain ⟨F, hz, hF, hB⟩ := h.ex
  obtain ⟨o, fl, tb, j, N, n, hR⟩ := hz.rr
  exact hR.head.lt
theorem disk_new {n : Nat} (h1 : 1 ≤ n) (h2 : n ≤ 512) {z : Int} (hz : z = n) (w : World) : Calls Tryz.prog 9 #[.int .i64 z] w fun e w' => e = .returned (.pointer (some ⟨w.heap.size + 2, 0, none⟩)) ∧ Dk w' (w.heap.size + 2) w.heap.size (w.heap.size + 1) n (fun _ => List.replicate 48 0) (fun _ => none) (-1) ∧ Below w.heap.size w w' := by
  subst hz
  exact new_in n h1 h2 w
theorem rl_new {d S Mp n : Nat} (hB : Below w0.heap.size w0 w) (hd : w0.heap.size ≤ d ∧ w0.heap.size ≤ S ∧ w0.heap.size ≤ Mp) (h : Dk w d S Mp n (fun _ => List.replicate 48 0) (fun _ => none) (-1)) {id : Nat} (h0 : 0 < id) (h1 : id < 4294967296) (hn : 4 ≤ n) (hn2 : n ≤ 512) {z : Int} (hz : z = id) :
    Calls Tryz.prog 8 #[.pointer (some ⟨d, 0, none⟩), .int .u32 z] w fun e w' => ∃ R, e = .returned (.tuple #[.pointer (some ⟨R, 0, none⟩), .int .i64 0]) ∧ Rl w0 w' R (n / 2 - 1) 90000 (mr0 id) := by
  subst hz
  refine (rz_new h (fun i _ => ?_) h0 h1 hn hn2).mono ?_
  · show recAt (synced _ _ i) = none
    unfold synced
    exact recAt_zero
  rintro e w' ⟨R, rfl, hR, hz, hT⟩
  have hL : ∀ y, y ∈ [d, S, Mp] → w0.heap.size ≤ y := fun y hy => by
    simp only [List.mem_cons, List.not_mem_nil, or_false] at hy
    rcases hy with rfl | rfl | rfl
    · exact hd.1
    · exact hd.2.1
    · exact hd.2.2
  refine ⟨R, rfl, ⟨_, hz, fun y hy => ?_, hB.trans (hT.below hL hB.size)⟩⟩
  rcases List.mem_append.1 hy with h | h
  · exact hL y h
  · rcases mem_rp.1 h with rfl | e | e | e
    · exact Nat.le_trans hB.size hR
    · cases e
    · cases e
    · cases e
theorem rl_link (h : Rl w0 w R room sp M) {k : Nat} (hk : k < 8) {c : Int} (h0 : 0 ≤ c) (h1 : c ≤ 1000) {z : Int} (hz : z = k) :
    Calls Tryz.prog 10 #[.pointer (some ⟨R, 0, none⟩), .int .i64 z, .int .i64 c] w fun e w' => e = .returned (.int .i64 0) ∧ Rl w0 w' R room sp (M.link k c) := by
  subst hz
  obtain ⟨F, hz, hF, hB⟩ := h.ex
  refine (rz_link hz hk h0 h1).mono ?_
  rintro e w' ⟨rfl, hG⟩
  exact ⟨rfl, .goes hF hB hG⟩
theorem rl_own (h : Rl w0 w R (room + 1) sp M) (hM : ∃ id c now, M = Mnone id c (fun _ => none) now) :
    Calls Tryz.prog 17 #[.pointer (some ⟨R, 0, none⟩), .agg #[.int .u32 167772160, .int .i64 8], .bool true] w fun e w' => e = .returned (.int .i64 0) ∧ Rl w0 w' R room sp (Mown M.id M.c M.now 0 0 0) := by
  obtain ⟨id, c, now, rfl⟩ := hM
  obtain ⟨F, hz, hF, hB⟩ := h.ex
  have hk := rz_own hz ten_ok (by decide +kernel) (by decide +kernel) rfl (fun xs _ hx => by
    rcases xs with _ | ⟨x, r⟩
    · simp
    · have := ((hx x).1 (List.mem_cons_self)).2
      simp [Mnone, sm0] at this)
  refine Calls.mono (show Calls Tryz.prog 17 #[.pointer (some ⟨R, 0, none⟩), .agg #[.int .u32 167772160, .int .i64 8], .bool true] w _ from hk) ?_
  rintro e w' ⟨rfl, hG⟩
  rw [own_none] at hG
  exact ⟨rfl, .goes hF hB hG⟩
theorem rl_seq (h : Rl w0 w R room sp M) : Calls Tryz.prog 18 #[.pointer (some ⟨R, 0, none⟩)] w fun e w' => e = .returned (.int .u32 M.seq) ∧ w = w' := by
  obtain ⟨F, hz, hF, hB⟩ := h.ex
  obtain ⟨o, fl, tb, j, N, n, hR⟩ := hz.rr
  exact rr_seq hR
theorem rl_now (h : Rl w0 w R room sp M) : Calls Tryz.prog 22 #[.pointer (some ⟨R, 0, none⟩)] w fun e w' => e = .returned (.int .i64 M.now) ∧ w = w' := by
  obtain ⟨F, hz, hF, hB⟩ := h.ex
  obtain ⟨o, fl, tb, j, N, n, hR⟩ := hz.rr
  exact rr_now hR
theorem rl_state (h : Rl w0 w R room sp M) : Calls Tryz.prog 19 #[.pointer (some ⟨R, 0, none⟩)] w fun e w' => e = .returned (.pointer (some ⟨R, 0, none⟩)) ∧ Below w.heap.size w w' := by
  obtain ⟨F, hz, hF, hB⟩ := h.ex
  obtain ⟨o, fl, tb, j, N, n, hR⟩ := hz.rr
  exact rr_state hR
theorem rl_fib (h : Rl w0 w R room sp M) {N n : Nat} (hf : Few M N n) (hn : 2 * N + n < 20) :
    Calls Tryz.prog 15 #[.pointer (some ⟨R, 0, none⟩)] w fun e w' => ∃ v rs, e = .returned v ∧ Subj M rs ∧ Lf w.heap.size v (rs.flatMap M.entry) w' ∧ Below w.heap.size w w' := by
  obtain ⟨F, hz, hF, hB⟩ := h.ex
  exact rz_fib hz hf hn
theorem rl_dist (h : Rl w0 w R room sp M) {z : Int} {ok : Bool} (hz : M.dist 167772160 8 = (z, ok)) :
    Calls Tryz.prog 16 #[.pointer (some ⟨R, 0, none⟩), .agg #[.int .u32 167772160, .int .i64 8]] w fun e w' => e = .returned (.tuple #[.int .i64 z, .bool ok]) ∧ Below w.heap.size w w' := by
  obtain ⟨F, hzz, hF, hB⟩ := h.ex
  obtain ⟨o, fl, tb, j, N, n, hR⟩ := hzz.rr
  exact rr_dist hR ten_ok hz
theorem rl_tick {N n m1 m2 : Nat} (h : Rl w0 w R (room + m2 + m1) sp M) (hG : M.Good) (hnow : M.now < 1000000) (hl : M.sm.lease ≤ 1073741824) (hf : ∀ M2, Ticks M M2 → Few M2 N n) (hn : 2 * N + n < 20) (hm1 : M.aged.advN ≤ m1) (hm2 : ∀ M2 rs, Ticks M M2 → Subj M2 rs → M2.needS rs ≤ m2) :
    Calls Tryz.prog 14 #[.pointer (some ⟨R, 0, none⟩)] w fun e w' => ∃ v B M2 rs xs, e = .returned v ∧ Ticks M M2 ∧ Subj M2 rs ∧ Rl w0 w' R room sp (M2.tellS rs).2 ∧ Ot B v (sends M.c (T.Tm.encode (M2.tellS rs).1) 8) xs w' := by
  obtain ⟨F, hz, hF, hB⟩ := h.ex
  refine (rz_tick hz hG hnow hl hf hn hm1 hm2).mono ?_
  rintro e w' ⟨v, rfl, ⟨F', B, M2, rs, xs, h1, h2, h3, h4, h5, h6, h7⟩⟩
  exact ⟨v, B, M2, rs, xs, rfl, h1, h2, .goes hF hB ⟨F', h3, h4, fun y hy => (h5 y hy).1⟩, h7⟩
/-- a tick of a router with just that prefix: which number is told then -/
theorem rl_tick_own {id : Nat} {c : Nat → Int} {now : Int} {seq : Nat} {since : Int} {lease s' : Nat} {t' : Int} {l' m : Nat} (h : Rl w0 w R (room + m) sp (Mown id c now seq since lease)) (hnow : now < 1000000) (hl : lease ≤ 1073741824)
    (hadv : (Mown id c (now + 1) seq since lease).advance = Mown id c (now + 1) s' t' l') (hs : s' ≠ 0) (hm : (Mown id c (now + 1) seq since lease).advN ≤ m) :
    Calls Tryz.prog 14 #[.pointer (some ⟨R, 0, none⟩)] w fun e w' => ∃ v B xs, e = .returned v ∧ Rl w0 w' R room sp (Mown id c (now + 1) s' t' l') ∧ Ot B v (sends c (T.Tm.encode [⟨167772160, 8, id, s', 0⟩]) 8) xs w' := by
  have hT : ∀ M2, Ticks (Mown id c now seq since lease) M2 → M2 = Mown id c (now + 1) s' t' l' := fun M2 h => by
    rcases h with ⟨-, e⟩ | ⟨e, -⟩
    · rw [e, Mown.aged, hadv]
    · rw [Mown.aged] at e
      exact absurd Mown.any e
  refine (rl_tick (N := 1) (n := 0) (m2 := 0) (m1 := m) h Mown.good hnow hl (fun M2 h => by rw [hT M2 h]; exact Mown.few) (by omega) (by rw [Mown.aged]; exact hm) (fun M2 rs h1 h2 => by
    rw [hT M2 h1] at h2 ⊢
    rw [Mown.subj h2, Mown.need]
    exact Nat.le_refl _)).mono ?_
  rintro e w' ⟨v, B, M2, rs, xs, rfl, h1, h2, h3, h4⟩
  rw [hT M2 h1] at h2 h3 h4
  rw [Mown.subj h2, Mown.tell hs] at h3 h4
  exact ⟨v, B, xs, rfl, h3, h4⟩
end

/-! ### one thing told -/
theorem encode_one {u : T.Tm.Up} (h : T.Tm.right u = true) : T.Tm.encode [u] = [T.Tm.page (T.Tm.parts u 0)] := by
  have hl := T.Tm.parts_le h 0
  unfold T.Tm.encode
  rw [T.pages_on h (by simp; omega)]
  rw [T.Tm.pages]
  have := T.Tm.parts_ne u 0
  simp [this]
theorem decode_one {u : T.Tm.Up} (h : T.Tm.right u = true) (hf : u.Fits) : T.Tm.decode (T.Tm.page (T.Tm.parts u 0)) = some [u] := by
  have hl := T.Tm.parts_le h 0
  rw [T.Tm.decode_page (by omega)]
  have := T.Tm.walk_parts h hf 0 []
  rw [List.append_nil] at this
  rw [this, T.Tm.walk_nil]
  rfl
theorem one_right {i s : Nat} (hi : i ≠ 0) (hs : s ≤ 1073741824) : T.Tm.right ⟨167772160, 8, i, s, 0⟩ = true := by
  unfold T.Tm.right
  rw [show Am.right 167772160 8 = true by decide +kernel]
  simp [hi, hs]
theorem one_fits {i s : Nat} (hi : i < 4294967296) (hs : s ≤ 1073741824) : T.Tm.Up.Fits ⟨167772160, 8, i, s, 0⟩ := ⟨by show 167772160 < 4294967296; decide, by show (-9223372036854775808 : Int) ≤ 8; decide, by show (8 : Int) ≤ 9223372036854775807; decide, hi, by show s < 4294967296; omega, by show 0 < 65536; omega⟩
end Go.Proofs.YtmhcjhbmeohjdaaGreat

namespace Go.Proofs.YtmhcjhbmeohjdaaGreat
open Go.RowKit Go.Maps Rm Fm Sb
attribute [local go_sem] Oper.semAt_some

theorem ten_any (w : World) : Calls Tryz.prog 12 #[] w fun e w' => e = .returned (.agg #[.int .u32 167772160, .int .i64 8]) ∧ Below w.heap.size w w' := by
  have hb := below_new w (.cells #[.int .u32 167772160, .int .i64 8] 36)
  have PB := Blk.new w 36 #[.int .u32 167772160, .int .i64 8]
  have q0 := PB.at_ 0
  have q1 := PB.at_ 1
  have HB := Lib.hid hb
  clear hb PB
  go_enter Tryz.func12, Tryz.ntmps12
  go_wp2
  refine bodyPost_ret (v := .agg #[.int .u32 167772160, .int .i64 8]) ?_ rfl ⟨rfl, HB.out⟩
  simp [results, Tryz.results12, go_sem, q0, q1]

theorem decode_some {w : World} {A : Option Addr} {n cap : Nat} {bs : List Nat} (h : T.Sl w A n cap bs) {us : List T.Tm.Up} (hd : T.Tm.decode bs = some us) (hf : ∀ u ∈ us, u.Fits) (hl : us.length ≤ 100000) :
    Calls Tryz.prog 21 #[.slice A n cap] w fun e w' => ∃ A' cap', e = .returned (.tuple #[.slice A' us.length cap', .bool true]) ∧ T.Ul w' A' us.length cap' us ∧ Below w.heap.size w w' := by
  refine (T.decode_any h hd).mono ?_
  rintro e w' ⟨hb, ⟨e1, -⟩ | ⟨us', v, e1, rfl, hL⟩⟩
  · cases e1
  · cases e1
    obtain ⟨A', cap', rfl, hU⟩ := hL.ul hf hl
    exact ⟨A', cap', rfl, hU, hb⟩
theorem sends_three (d : List Nat) : sends (fun i => if i = 3 then 2 else 0) [d] 8 = [(3, d)] := by
  simp [sends, List.range_succ]
theorem head_adv : (Mown 7 (fun i => if i = 3 then 2 else 0) 1 0 0 0).advance = Mown 7 (fun i => if i = 3 then 2 else 0) 1 1 1 8 := Mown.advance_to (nx := 1) (by simp) rfl (by omega)
theorem head_advN : (Mown 7 (fun i => if i = 3 then 2 else 0) 1 0 0 0).advN ≤ 1 := Mown.advN_le (nx := 1) (by simp) rfl
set_option maxRecDepth 100000 in
set_option maxHeartbeats 4000000 in
theorem router_head (w : World) : Calls Tryz.prog 7 #[] w fun e w' => e = .returned (.bool true) ∧ Below w.heap.size w w' := by
  have HD := disk_new (n := 64) (by omega) (by omega) (z := 64) rfl w
  go_enter Tryz.func7, Tryz.ntmps7
  go_upto_region 2 with (first | (go_at_call 9; refine HD.mono ?_; rintro e w1 ⟨rfl, hD1, hb1⟩; have HN := rl_new (w0 := w) hb1 ⟨by omega, by omega, by omega⟩ hD1 (id := 7) (by omega) (by omega) (by omega) (by omega) (z := 7) rfl; clear HD hD1 hb1) | (go_at_call 8; refine HN.mono ?_; rintro e w2 ⟨R, rfl, h2⟩; clear HN) | fail)
  rw [mr0_none] at h2
  have HL := rl_link h2 (k := 3) (by omega) (c := 2) (by omega) (by omega) (z := 3) rfl
  rw [link_none] at HL
  clear h2
  go_upto_region 4 with (first | (go_at_call 10; refine HL.mono ?_; rintro e w3 ⟨rfl, h3⟩; clear HL) | (go_at_call 12; refine (ten_any _).mono ?_; rintro e w4 ⟨rfl, hb4⟩; have h4 := h3.held hb4; have HO := rl_own h4 ⟨_, _, _, rfl⟩; clear h3 hb4 h4) | (go_at_call 17; refine HO.mono ?_; rintro e w5 ⟨rfl, h5⟩; clear HO) | fail)
  have HT := rl_tick_own (room := 29) (m := 1) (id := 7) (c := fun i => if i = 3 then 2 else 0) (now := 0) (seq := 0) (since := 0) (lease := 0) h5 (by omega) (by omega) head_adv (by omega) head_advN
  clear h5
  go_upto_region 5 with (first | (go_at_call 14; refine HT.mono ?_; rintro e w6 ⟨v, B, xs, rfl, h6, hOt⟩; clear HT) | fail)
  have hu := one_right (i := 7) (s := 1) (by decide) (by decide)
  have huf := one_fits (i := 7) (s := 1) (by decide) (by decide)
  rw [encode_one hu, sends_three] at hOt
  obtain ⟨d, hd⟩ : ∃ d, T.Tm.page (T.Tm.parts ⟨167772160, 8, 7, 1, 0⟩ 0) = d := ⟨_, rfl⟩
  have hdec := decode_one hu huf
  have hfine := T.Tm.encode_fine [⟨167772160, 8, 7, 1, 0⟩] d (by rw [encode_one hu, hd]; simp)
  rw [hd] at hOt hdec
  obtain ⟨xs, x0, rfl⟩ : ∃ xs' x0, xs = x0 :: xs' := by
    have := hOt.len
    match xs, this with
    | x :: r, _ => exact ⟨r, x, rfl⟩
  obtain rfl : xs = [] := by
    have := hOt.len
    simpa using this
  obtain ⟨xd, xg, xn, xc⟩ := x0
  obtain ⟨r1, r2, r3, r4, r5⟩ := hOt.row 0 (by simp) (by simp)
  simp only [List.getElem_cons_zero] at r1 r2 r3 r4 r5
  subst r1 r2
  obtain ⟨g', cp, rfl, h1c, h2c, hc⟩ := hOt.own.at_ elemO.len (i := 0) (by simp)
  have c0 := hc 0 (by omega)
  have c1 := hc 1 (by omega)
  simp only [List.getElem_cons_zero, Nat.zero_mul, Nat.zero_add] at c0 c1
  replace c0 : w6.cell? ⟨g', 0, none⟩ = some (.int .i64 3) := c0
  replace c1 : w6.cell? ⟨g', 1, none⟩ = some (.slice (some ⟨xg, 0, none⟩) d.length xc) := c1
  have hS : T.Sl w6 (some ⟨xg, 0, none⟩) d.length xc d := ⟨r3.bytes hfine.2.2.1 (by omega), by obtain ⟨cur, q1, q2, q3, q4, q5⟩ := r3; exact q3, fun _ => ⟨_, _, rfl⟩⟩
  have HDc := decode_some hS hdec (by simpa using huf) (by simp)
  obtain ⟨dl, hdl⟩ : ∃ dl, d.length = dl := ⟨_, rfl⟩
  rw [hdl] at c1 HDc
  have X := Lib.hid h6
  simp only [List.length_cons, List.length_nil, Nat.zero_add] at HDc ⊢
  clear h6 hOt hc h1c h2c r3 r4 r5 hS hdec hfine hd hu huf hdl
  go_upto_region 7 with fail
  go_upto_region 8 with (go_at_call 21; refine HDc.mono ?_; rintro e w7 ⟨A2, cap2, rfl, hUl, hb7⟩)
  obtain ⟨ub, uo, rfl⟩ := hUl.plain (by omega)
  obtain ⟨k0, k1, k2, k3, k4⟩ := hUl.at_ (k := 0) (by simp) rfl
  simp only [Nat.zero_mul, Nat.add_zero] at k0 k1 k2 k3 k4
  replace k0 : w7.cell? ⟨ub, uo, none⟩ = some (.int .u32 167772160) := k0
  replace k2 : w7.cell? ⟨ub, uo + 2, none⟩ = some (.int .u32 7) := k2
  replace k3 : w7.cell? ⟨ub, uo + 3, none⟩ = some (.int .u32 1) := k3
  replace k4 : w7.cell? ⟨ub, uo + 4, none⟩ = some (.int .u16 0) := k4
  have h7 := X.out.held hb7
  clear HDc hb7 hUl c0 c1 X
  have hTn : ∀ (d : Nat) (os : Array Obj), Calls Tryz.prog 12 #[] (Sort.grow (redrawn w7 d) os) fun e w' => e = .returned (.agg #[.int .u32 167772160, .int .i64 8]) ∧ Below (Sort.grow (redrawn w7 d) os).heap.size (Sort.grow (redrawn w7 d) os) w' := fun d os => ten_any _
  have hSq : ∀ (d : Nat) (os : Array Obj), Calls Tryz.prog 18 #[.pointer (some ⟨R, 0, none⟩)] (Sort.grow (redrawn w7 d) os) fun e w' => e = .returned (.int .u32 1) ∧ Below (Sort.grow (redrawn w7 d) os).heap.size (Sort.grow (redrawn w7 d) os) w' := fun d os => (rl_seq (h7.held (below_regrown w7 d os))).mono fun e w' ⟨h1, h2⟩ => ⟨h1, h2 ▸ .refl _ _⟩
  have u0 := fun d os => cell_regrown k0 d os
  have u1 := fun d os => cell_regrown k1 d os
  have u2 := fun d os => cell_regrown k2 d os
  have u3 := fun d os => cell_regrown k3 d os
  have u4 := fun d os => cell_regrown k4 d os
  have Y := Lib.hid h7
  clear k0 k1 k2 k3 k4 h7
  refine wp_region_quiet_below (by kernel_rfl) (by kernel_rfl) ?_
  repeat (go_big_quiet_step (first | (go_at_call 12; exact Calls.regrown_of (hTn _ _)) | (go_at_call 18; exact Calls.regrown_of (hSq _ _))))
  refine wpQuiet_nil ?_
  intro _ hw'
  obtain ⟨⟨dq, osq⟩, hw''⟩ := hw'
  subst hw''
  have hbr := Y.out.below.trans ((below_regrown w7 dq osq).mono Y.out.below.size)
  clear hTn hSq u0 u1 u2 u3 u4
  go_wp2_with fail
  go_ret
  exact ⟨rfl, hbr⟩
end Go.Proofs.YtmhcjhbmeohjdaaGreat

namespace Go.Proofs.YtmhcjhbmeohjdaaGreat
open Go.RowKit Go.Maps Rm Fm Sb

theorem mask255 (z : Int) : ∃ c : Nat, c ≤ 255 ∧ bits .and .i64 z 255 = (c : Int) := by
  have h1 : (BitVec.ofInt 64 z &&& BitVec.ofInt 64 255).toNat ≤ 255 := by
    rw [BitVec.toNat_and]
    exact Nat.le_trans Nat.and_le_right (by decide)
  refine ⟨(BitVec.ofInt 64 z &&& BitVec.ofInt 64 255).toNat, h1, ?_⟩
  have e : bits .and .i64 z 255 = IntKind.i64.wrap ((BitVec.ofInt 64 z &&& BitVec.ofInt 64 255).toNat : Int) := rfl
  rw [e]
  generalize (BitVec.ofInt 64 z &&& BitVec.ofInt 64 255).toNat = n at *
  simp only [IntKind.wrap, IntKind.bits, IntKind.signed]
  simp
  omega
/-- behind i ticks: the number, since when, the lease -/
def pSq (i : Nat) : Nat := (i + 11) / 12
def pSi (i : Nat) : Int := if i = 0 then 0 else 12 * (((i - 1) / 12 : Nat) : Int) + 1
def pLs (i : Nat) : Nat := (pSq i + 7) / 8 * 8
def pC : Nat → Int := fun i => if i = 0 then 1 else 0
theorem period_step {i : Nat} (hi : i < 255) : ∃ m, (Mown 7 pC ((i : Int) + 1) (pSq i) (pSi i) (pLs i)).advance = Mown 7 pC ((i : Int) + 1) (pSq (i + 1)) (pSi (i + 1)) (pLs (i + 1)) ∧ (Mown 7 pC ((i : Int) + 1) (pSq i) (pSi i) (pLs i)).advN ≤ m ∧ 62 - pLs i / 8 = (62 - pLs (i + 1) / 8) + m := by
  by_cases hstay : i ≠ 0 ∧ i % 12 ≠ 0
  · have e1 : pSq (i + 1) = pSq i := by unfold pSq; omega
    have e2 : pSi (i + 1) = pSi i := by unfold pSi; rw [if_neg (by omega), if_neg hstay.1]; omega
    have e3 : pLs (i + 1) = pLs i := by unfold pLs; rw [e1]
    have hc : pSq i ≠ 0 ∧ (i : Int) + 1 - pSi i < 12 := by
      refine ⟨by unfold pSq; omega, ?_⟩
      unfold pSi
      rw [if_neg hstay.1]
      omega
    refine ⟨0, ?_, ?_, by rw [e3]; omega⟩
    · rw [e1, e2, e3]
      exact Mown.next_big hc
    · rw [Mown.advN_zero hc]
      exact Nat.le_refl _
  · have hk : ∃ k, i = 12 * k := ⟨i / 12, by omega⟩
    obtain ⟨k, rfl⟩ := hk
    have q1 : pSq (12 * k) = k := by unfold pSq; omega
    have q2 : pSq (12 * k + 1) = k + 1 := by unfold pSq; omega
    have q3 : pSi (12 * k + 1) = ((12 * k : Nat) : Int) + 1 := by unfold pSi; rw [if_neg (by omega)]; omega
    have q4 : pLs (12 * k) = (k + 7) / 8 * 8 := by unfold pLs; rw [q1]
    have q5 : pLs (12 * k + 1) = (k + 8) / 8 * 8 := by unfold pLs; rw [q2]
    have hc : ¬ (pSq (12 * k) ≠ 0 ∧ ((12 * k : Nat) : Int) + 1 - pSi (12 * k) < 12) := by
      rintro ⟨h1, h2⟩
      rw [q1] at h1
      unfold pSi at h2
      rw [if_neg (by omega)] at h2
      omega
    have hn : (if pSq (12 * k) = 0 then pLs (12 * k) + 1 else pSq (12 * k) + 1) = k + 1 := by
      rw [q1, q4]
      split
      · omega
      · rfl
    refine ⟨if k + 1 ≤ pLs (12 * k) then 0 else 1, ?_, Mown.advN_le hc hn, ?_⟩
    · rw [Mown.advance_to hc hn (by omega), q2, q3]
      congr 1
      rw [q4, q5]
      split
      · omega
      · omega
    · rw [q4, q5]
      split
      · omega
      · omega
theorem sends_zero (d : List Nat) : sends pC [d] 8 = [(0, d)] := by
  simp [sends, pC, List.range_succ]

theorem rl_lease {w0 w : World} {R room sp : Nat} {M : Mr} (h : Rl w0 w R room sp M) : Calls Tryz.prog 20 #[.pointer (some ⟨R, 0, none⟩)] w fun e w' => e = .returned (.int .u32 M.sm.lease) ∧ w = w' := by
  obtain ⟨F, hz, hF, hB⟩ := h.ex
  obtain ⟨o, fl, tb, j, N, n, hR⟩ := hz.rr
  obtain ⟨cn, cm, hnm, hS⟩ := hR.nt
  exact lease_any hS
/-- a list of one datagram, opened -/
theorem ot_one {B : Nat} {v : Value} {k : Nat} {d : List Nat} {xs : List Oe} {w : World} (h : Ot B v [(k, d)] xs w) (h256 : ∀ c ∈ d, c < 256) (hl : d.length ≤ 5000) : ∃ g cp xg xc, v = .slice (some ⟨g, 0, none⟩) 1 cp ∧ w.cell? ⟨g, 0, none⟩ = some (.int .i64 k) ∧ w.cell? ⟨g, 1, none⟩ = some (.slice (some ⟨xg, 0, none⟩) d.length xc) ∧ T.Sl w (some ⟨xg, 0, none⟩) d.length xc d := by
  obtain ⟨xs, x0, rfl⟩ : ∃ xs' x0, xs = x0 :: xs' := by
    have := h.len
    match xs, this with
    | x :: r, _ => exact ⟨r, x, rfl⟩
  obtain rfl : xs = [] := by
    have := h.len
    simpa using this
  obtain ⟨xd, xg, xn, xc⟩ := x0
  obtain ⟨r1, r2, r3, r4, r5⟩ := h.row 0 (by simp) (by simp)
  simp only [List.getElem_cons_zero] at r1 r2 r3 r4 r5
  subst r1 r2
  obtain ⟨g', cp, rfl, h1c, h2c, hc⟩ := h.own.at_ elemO.len (i := 0) (by simp)
  have c0 := hc 0 (by omega)
  have c1 := hc 1 (by omega)
  simp only [List.getElem_cons_zero, Nat.zero_mul, Nat.zero_add] at c0 c1
  exact ⟨g', cp, xg, xc, rfl, c0, c1, ⟨r3.bytes h256 hl, by obtain ⟨cur, q1, q2, q3, q4, q5⟩ := r3; exact q3, fun _ => ⟨_, _, rfl⟩⟩⟩

set_option maxRecDepth 100000 in
set_option maxHeartbeats 4000000 in
theorem period_walk (ticks : Int) (w : World) : Calls Tryz.prog 4 #[.int .i64 ticks] w fun e w' => e = .returned (.bool true) ∧ Below w.heap.size w w' := by
  obtain ⟨tk, htk, hmask⟩ := mask255 ticks
  go_enter Tryz.func4, Tryz.ntmps4
  go_upto_region 4 with (go_at_call 7; refine (router_head w).mono ?_; rintro e w1 ⟨rfl, hb1⟩)
  try rw [hmask]
  clear hmask
  have HD := disk_new (n := 128) (by omega) (by omega) (z := 128) rfl w1
  have hs1 := hb1.size
  go_upto_region 5 with (first | (go_at_call 9; refine HD.mono ?_; rintro e w2 ⟨rfl, hD1, hb2⟩; have HN := rl_new (w0 := w) (hb1.trans (hb2.mono hs1)) ⟨by omega, by omega, by omega⟩ hD1 (id := 7) (by omega) (by omega) (by omega) (by omega) (z := 7) rfl; clear HD hD1 hb2) | (go_at_call 8; refine HN.mono ?_; rintro e w3 ⟨R, rfl, h2⟩; clear HN) | fail)
  rw [mr0_none] at h2
  clear hb1
  go_upto_region 7 with (first | (go_at_call 10; refine HL.mono ?_; rintro e w6 ⟨rfl, h6⟩; clear HL) | (go_at_call 12; refine (ten_any _).mono ?_; rintro e w4 ⟨rfl, hb4⟩; have h4 := h2.held hb4; have HO := rl_own h4 ⟨_, _, _, rfl⟩; clear h2 hb4 h4) | (go_at_call 17; refine HO.mono ?_; rintro e w5 ⟨rfl, h5⟩; have HL := rl_link h5 (k := 0) (by omega) (c := 1) (by omega) (by omega) (z := 0) rfl; rw [link_own] at HL; clear HO h5) | fail)
  have h0 : Hid (Rl w w6 R (62 - pLs 0 / 8) 90000 (Mown 7 pC ((0 : Nat) : Int) (pSq 0) (pSi 0) (pLs 0))) := Lib.hid h6
  clear h6
  go_wp2_with fail
  go_loopw [5] (fun i wr => ∃ k : Nat, i = .int .i64 k ∧ k ≤ tk ∧ Hid (Rl w wr R (62 - pLs k / 8) 90000 (Mown 7 pC (k : Int) (pSq k) (pSi k) (pLs k)))) (fun i _ => tk - (intOf i).toNat)
  case atStart => exact ⟨0, rfl, Nat.zero_le _, h0.out⟩
  case round =>
    clear h0
    obtain ⟨k, rfl, hk, S⟩ := hrel
    by_cases hkt : k < tk
    · have hkz : (k : Int) < (tk : Int) := by omega
      obtain ⟨m, hadv, hN, hroom⟩ := period_step (i := k) (by omega)
      have h1 := S.out
      rw [hroom] at h1
      have hpl : pLs k ≤ 1073741824 := by unfold pLs pSq; omega
      have hps : pSq (k + 1) = k / 12 + 1 := by unfold pSq; omega
      have HT := rl_tick_own h1 (by omega) hpl hadv (by omega) hN
      have hu := one_right (i := 7) (s := pSq (k + 1)) (by decide) (by omega)
      have huf := one_fits (i := 7) (s := pSq (k + 1)) (by decide) (by omega)
      rw [encode_one hu, sends_zero] at HT
      obtain ⟨d, hd⟩ : ∃ d, T.Tm.page (T.Tm.parts ⟨167772160, 8, 7, pSq (k + 1), 0⟩ 0) = d := ⟨_, rfl⟩
      have hdec := decode_one hu huf
      have hfine := T.Tm.encode_fine [⟨167772160, 8, 7, pSq (k + 1), 0⟩] d (by rw [encode_one hu, hd]; simp)
      rw [hd] at HT hdec
      clear h1 S hadv hN hroom hpl hd hu
      obtain ⟨s, hs⟩ : ∃ s, pSq (k + 1) = s := ⟨_, rfl⟩
      obtain ⟨L, hL⟩ : ∃ L, pLs (k + 1) = L := ⟨_, rfl⟩
      have hsz : (k : Int) / 12 + 1 = (s : Int) := by omega
      have hLz : ((s : Int) + 7) / 8 * 8 = (L : Int) := by unfold pLs at hL; omega
      have hs22 : s ≤ 22 := by omega
      have hL24 : L ≤ 24 := by unfold pLs at hL; omega
      rw [hs, hL] at HT
      rw [hs] at huf hdec
      have SL := Lib.hid (And.intro hs hL)
      clear hs hL hps
      go_upto_region 12 with (go_at_call 14; refine HT.mono ?_; rintro e w7 ⟨v, B, xs, rfl, h7, hOt⟩; clear HT)
      try rw [hsz]
      clear hsz
      obtain ⟨g, cp, xg, xc, rfl, c0, c1, hSl⟩ := ot_one hOt hfine.2.2.1 (by omega)
      obtain ⟨dl, hdl⟩ : ∃ dl, d.length = dl := ⟨_, rfl⟩
      rw [hdl] at c1 hSl
      have HSq : Calls Tryz.prog 18 #[.pointer (some ⟨R, 0, none⟩)] w7 fun e w' => e = .returned (.int .u32 (s : Int)) ∧ w7 = w' := rl_seq h7
      have HSt := rl_state h7
      have X := Lib.hid h7
      have Q := Lib.hid (And.intro hSl (And.intro hdec huf))
      clear hOt hSl hdec hfine huf hdl h7
      go_upto_region 14 with (first | (go_at_call 18; refine HSq.mono ?_; rintro e w8 ⟨rfl, rfl⟩) | (go_at_call 19; refine HSt.mono ?_; rintro e w8 ⟨rfl, hb8⟩; have HLe : Calls Tryz.prog 20 #[.pointer (some ⟨R, 0, none⟩)] _ fun e w' => e = .returned (.int .u32 (L : Int)) ∧ _ = w' := rl_lease (X.out.held hb8)) | (go_at_call 20; refine HLe.mono ?_; rintro e w9 ⟨rfl, rfl⟩) | fail)
      have HDc := decode_some (Q.out.1.held hb8) Q.out.2.1 (by simpa using Q.out.2.2) (by simp)
      simp only [List.length_cons, List.length_nil, Nat.zero_add] at HDc
      replace c1 := held hb8 c1
      have h8 := Lib.hid (X.out.held hb8)
      clear HSq HSt HLe hb8 c0 X
      go_upto_region 15 with (go_at_call 21; refine HDc.mono ?_; rintro e w9 ⟨A2, cap2, rfl, hUl, hb9⟩)
      obtain ⟨ub, uo, rfl⟩ := hUl.plain (by omega)
      obtain ⟨k0, k1, k2, k3, k4⟩ := hUl.at_ (k := 0) (by simp) rfl
      simp only [Nat.zero_mul, Nat.add_zero] at k0 k1 k2 k3 k4
      replace k4 : w9.cell? ⟨ub, uo + 4, none⟩ = some (.int .u16 0) := k4
      have S2 := Lib.hid (show Rl w w9 R (62 - pLs (k + 1) / 8) 90000 (Mown 7 pC ((k + 1 : Nat) : Int) (pSq (k + 1)) (pSi (k + 1)) (pLs (k + 1))) from by
        rw [SL.out.1, SL.out.2]
        have := h8.out.held hb9
        exact this)
      clear HDc hb9 hUl c1 k0 k1 k2 h8 Q
      go_wp2_with fail
      go_roundw
      case rel => exact ⟨k + 1, by go_num, by omega, S2⟩
      case measure => simp [intOf]; omega
    · obtain rfl : k = tk := by omega
      have HW : Calls Tryz.prog 22 #[.pointer (some ⟨R, 0, none⟩)] _ fun e w' => e = .returned (.int .i64 (k : Int)) ∧ _ = w' := rl_now S.out
      have hB := Lib.hid S.out.below
      clear S
      go_wp2_with (go_at_call 22; refine HW.mono ?_; rintro e w7 ⟨rfl, rfl⟩)
      go_ret
      exact ⟨rfl, hB.out⟩
end Go.Proofs.YtmhcjhbmeohjdaaGreat

