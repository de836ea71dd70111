/-
  The contracts of package rec's put and get, of bytes.Equal, and of the statement's four.
  Slices of bytes that a call owns, and what is appended to them: bytes, and noughts.
  The contracts of package addr's Right and Has, and of the statement's own.
  The contracts of package rec's pared, named and Right, and of the statement's own Right.
  The contracts of package rec's named and Right, and of the statement's own Right.
-/
import Derived.Test.YtpgcnjoodoabhaaGreatS04
import Derived.Test.YtpgcnjoodoabhaaGreatS01
import Derived.Test.YtpgcnjoodoabhaaGreatS02
import Derived.Laws.BytesArg
import Derived.Maps.AppendAt
import Derived.Lib.AppendZeros
import Derived.Test.YtpgcnjoodoabhaaGreatProg
import Derived.Laws.BitsAllLaws
import Derived.Lib.QuietBelow
import Derived.BigRegion
import Derived.Maps.RangeWalk
set_option maxRecDepth 20000
namespace Go.Proofs.YtpgcnjoodoabhaaGreat
open Go.RowKit Rm

/-- bytes as cells -/
def cell (c : Nat) : Value := .int .u8 (c : Int)
def cls (b : List Nat) : Array Value := (b.map cell).toArray
/-- bytes as a string's -/
def toU (b : List Nat) : List UInt8 := b.map UInt8.ofNat
theorem toU_length (b : List Nat) : (toU b).length = b.length := by simp [toU]
theorem toU_at {b : List Nat} (hb : ∀ c ∈ b, c < 256) {j : Nat} (hj : j < (toU b).length) : ((toU b)[j].toNat : Int) = ((b.getD j 0 : Nat) : Int) := by
  have hj' : j < b.length := by rw [toU_length] at hj; exact hj
  have h1 : b[j] < 256 := hb _ (List.getElem_mem hj')
  simp [toU, hj', Nat.mod_eq_of_lt h1]
theorem toU_inj {b c : List Nat} (hb : ∀ x ∈ b, x < 256) (hc : ∀ x ∈ c, x < 256) (h : toU b = toU c) : b = c := by
  induction b generalizing c with
  | nil => cases c <;> simp [toU] at h ⊢
  | cons x r ih =>
    cases c with
    | nil => simp [toU] at h
    | cons y r' =>
      simp only [toU, List.map_cons, List.cons.injEq] at h
      have e : x = y := by
        have := congrArg UInt8.toNat h.1
        simpa [Nat.mod_eq_of_lt (hb x (by simp)), Nat.mod_eq_of_lt (hc y (by simp))] using this
      rw [e, ih (fun z hz => hb z (by simp [hz])) (fun z hz => hc z (by simp [hz])) h.2]
theorem BytesAt.held {w w' : World} {A : Option Addr} {n : Nat} {bs : List Nat} (h : BytesAt w A n bs) (hb : Below w.heap.size w w') : BytesAt w' A n bs :=
  ⟨h.1, h.2.1, h.2.2.1, fun k hk => by
    obtain ⟨ad, e, hc⟩ := h.2.2.2 k hk
    exact ⟨ad, e, Go.Proofs.YtpgcnjoodoabhaaGreat.held hb hc⟩⟩
theorem BytesAt.of_blk {w : World} {g : Nat} {t : TypeId} {C : Array Value} (h : Blk t w g C) (bs : List Nat) (o n : Nat) (hn : n ≤ maxLen) (hl : bs.length = n) (hb : ∀ c ∈ bs, c < 256) (hC : ∀ k, k < n → C[o + k]? = some (cell (bs.getD k 0))) : BytesAt w (some ⟨g, o, none⟩) n bs :=
  ⟨hl, hn, hb, fun k hk => ⟨_, rfl, by rw [Addr.add_mid, h.at_ (o + k)]; exact hC k hk⟩⟩
theorem maxLen_small {n : Nat} (h : n ≤ 1000) : n ≤ maxLen := by unfold maxLen; omega
theorem cls_at (b : List Nat) (k : Nat) (hk : k < b.length) : (cls b)[k]? = some (cell (b.getD k 0)) := by simp [cls, hk]
theorem BytesAt.cls {w : World} {g : Nat} {t : TypeId} {b : List Nat} (h : Blk t w g (Go.Proofs.YtpgcnjoodoabhaaGreat.cls b)) (hb : ∀ c ∈ b, c < 256) (hl : b.length ≤ 1000) : BytesAt w (some ⟨g, 0, none⟩) b.length b :=
  .of_blk h b 0 b.length (maxLen_small hl) rfl hb (fun k hk => by rw [Nat.zero_add]; exact cls_at b k hk)

theorem conv_str {w : World} {A : Option Addr} {n cap : Nat} {bs : List Nat} (h : BytesAt w A n bs) : (convert 51 9 (.slice A n cap)).run Tryz.prog w = .ok (.string ⟨(toU bs).toArray⟩) w := by
  obtain ⟨hl, hm, hb, hc⟩ := h
  rcases Nat.eq_zero_or_pos n with rfl | h0
  · obtain rfl := List.length_eq_zero_iff.1 hl
    rw [run_convert_bytes_string w 51 9 5 A 0 cap (by kernel_rfl) (by kernel_rfl) (by kernel_rfl)]
    cases A <;> rfl
  · obtain ⟨ad, rfl, -⟩ := hc 0 h0
    have e : n = (toU bs).length := by rw [toU_length, hl]
    rw [e]
    refine run_convert_bytes_back (P := Tryz.prog) w 51 9 5 ad cap (toU bs) (by kernel_rfl) (by kernel_rfl) (by kernel_rfl) (fun j hj => ?_)
    obtain ⟨ad', e', h'⟩ := hc j (by omega)
    cases e'
    rw [h', toU_at hb hj]

theorem equal_any {w : World} {A A' : Option Addr} {n cap n' cap' : Nat} {x y : List Nat} (hx : BytesAt w A n x) (hy : BytesAt w A' n' y) :
    Calls Tryz.prog 86 #[.slice A n cap, .slice A' n' cap'] w fun e w' => e = .returned (.bool (decide (x = y))) ∧ w = w' := by
  have k1 := conv_str (cap := cap) hx
  have k2 := conv_str (cap := cap') hy
  have E : Hid (decide (toU x = toU y) = decide (x = y)) := Lib.hid (by rw [decide_eq_decide]; exact ⟨toU_inj hx.2.2.1 hy.2.2.1, fun h => by rw [h]⟩)
  clear hx hy
  go_enter Tryz.func86, Tryz.ntmps86
  go_wp2
  go_ret
  refine ⟨ret_bool ?_, rfl⟩
  rw [← E.out, Bool.eq_iff_iff]
  simp

theorem four_any (n : Nat) (hn : n < 4294967296) (w : World) :
    Calls Tryz.prog 47 #[.int .u32 n] w fun e w' => e = .returned (.slice (some ⟨w.heap.size, 0, none⟩) 4 4) ∧ w' = w.alloc (.cells (cls (four n)) 5) := by
  go_enter Tryz.func47, Tryz.ntmps47
  have E : Hid (cls (four n) = #[.int .u8 ((n : Int) / 16777216), .int .u8 ((n : Int) / 65536 % 256), .int .u8 ((n : Int) / 256 % 256), .int .u8 ((n : Int) % 256)]) := Lib.hid (by
    show #[cell (n / 16777216 % 256), cell (n / 65536 % 256), cell (n / 256 % 256), cell (n % 256)] = _
    unfold cell
    rw [show ((n / 16777216 % 256 : Nat) : Int) = (n : Int) / 16777216 by omega, show ((n / 65536 % 256 : Nat) : Int) = (n : Int) / 65536 % 256 by omega, show ((n / 256 % 256 : Nat) : Int) = (n : Int) / 256 % 256 by omega, show ((n % 256 : Nat) : Int) = (n : Int) % 256 by omega])
  go_wp2
  go_ret
  exact ⟨rfl, by rw [E.out]⟩

set_option maxHeartbeats 1000000 in
theorem put_four (g off cap : Nat) (v : Nat) (hv : v < 4294967296) (C : Array Value) (w : World) (h : Blk 5 w g C) (hs : off + 4 ≤ C.size) :
    Calls Tryz.prog 94 #[.slice (some ⟨g, off, none⟩) 4 cap, .int .u32 v] w fun e w' => e = .returned (.tuple #[]) ∧
      w' = (((w.setCell ⟨g, off, none⟩ (cell (v / 16777216 % 256))).setCell ⟨g, off + 1, none⟩ (cell (v / 65536 % 256))).setCell ⟨g, off + 2, none⟩ (cell (v / 256 % 256))).setCell ⟨g, off + 3, none⟩ (cell (v % 256)) := by
  have c0 : w.cell? ⟨g, off, none⟩ = some C[off] := (h.at_ off).trans (by simp)
  have c1 : w.cell? ⟨g, off + 1, none⟩ = some C[off + 1] := (h.at_ _).trans (by simp)
  have c2 : w.cell? ⟨g, off + 2, none⟩ = some C[off + 2] := (h.at_ _).trans (by simp)
  have c3 : w.cell? ⟨g, off + 3, none⟩ = some C[off + 3] := (h.at_ _).trans (by simp)
  have f0 := h.free off
  have f1 := h.free (off + 1)
  have f2 := h.free (off + 2)
  have f3 := h.free (off + 3)
  clear h
  generalize C[off] = v0 at *
  generalize C[off + 1] = v1 at *
  generalize C[off + 2] = v2 at *
  generalize C[off + 3] = v3 at *
  clear hs
  go_enter Tryz.func94, Tryz.ntmps94
  go_wp2
  refine wp_loop_rounds 5 ?_
  iterate 5
    rw [rounds_succ]
    go_wp2
  go_end0
  refine ⟨rfl, ?_⟩
  unfold cell
  rw [show ((v / 16777216 % 256 : Nat) : Int) = (v : Int) / 16777216 by omega, show ((v / 65536 % 256 : Nat) : Int) = (v : Int) / 65536 % 256 by omega, show ((v / 256 % 256 : Nat) : Int) = (v : Int) / 256 % 256 by omega, show ((v % 256 : Nat) : Int) = (v : Int) % 256 by omega]

set_option maxHeartbeats 1000000 in
theorem put_two (g off cap : Nat) (v : Nat) (hv : v < 65536) (C : Array Value) (w : World) (h : Blk 5 w g C) (hs : off + 2 ≤ C.size) :
    Calls Tryz.prog 94 #[.slice (some ⟨g, off, none⟩) 2 cap, .int .u32 v] w fun e w' => e = .returned (.tuple #[]) ∧
      w' = (w.setCell ⟨g, off, none⟩ (cell (v / 256 % 256))).setCell ⟨g, off + 1, none⟩ (cell (v % 256)) := by
  have c0 : w.cell? ⟨g, off, none⟩ = some C[off] := (h.at_ off).trans (by simp)
  have c1 : w.cell? ⟨g, off + 1, none⟩ = some C[off + 1] := (h.at_ _).trans (by simp)
  have f0 := h.free off
  have f1 := h.free (off + 1)
  clear h
  generalize C[off] = v0 at *
  generalize C[off + 1] = v1 at *
  clear hs
  go_enter Tryz.func94, Tryz.ntmps94
  go_wp2
  refine wp_loop_rounds 3 ?_
  iterate 3
    rw [rounds_succ]
    go_wp2
  go_end0
  refine ⟨rfl, ?_⟩
  unfold cell
  try rw [show ((v / 256 % 256 : Nat) : Int) = (v : Int) / 256 by omega, show ((v % 256 : Nat) : Int) = (v : Int) % 256 by omega]

/-! ### get -/
def val (b : List Nat) : Nat := b.foldl (fun s c => s * 256 + c) 0
theorem val_snoc (b : List Nat) (c : Nat) : val (b ++ [c]) = val b * 256 + c := by simp [val]
theorem val_lt : ∀ (k : Nat) (b : List Nat), b.length = k → (∀ c ∈ b, c < 256) → val b < 256 ^ k
  | 0, b, h, _ => by rw [List.length_eq_zero_iff.1 h]; simp [val]
  | k + 1, b, h, hb => by
    have hne : b ≠ [] := fun e => by rw [e] at h; simp at h
    have e := (List.dropLast_concat_getLast hne).symm
    have ih := val_lt k b.dropLast (by simp [h]) (fun c hc => hb c ((List.dropLast_sublist b).mem hc))
    have hc := hb _ (List.getLast_mem hne)
    rw [e, val_snoc, Nat.pow_succ]
    omega
theorem or_in (s c : Nat) (hs : s < 16777216) (hc : c < 256) : bits .or .u32 ((s : Int) * 256) (c : Int) = ((s * 256 + c : Nat) : Int) := by
  rw [show ((s : Int) * 256) = ((s * 256 : Nat) : Int) from by omega, u32_or_nat (s * 256) c (by omega) (by omega)]
  congr 1
  have h := Nat.two_pow_add_eq_or_of_lt (i := 8) (b := c) (by omega) s
  rw [show 2 ^ 8 * s = s * 256 by omega] at h
  exact h.symm
theorem pow_small {k : Nat} (hk : k ≤ 3) : 256 ^ k ≤ 16777216 := by
  have : k = 0 ∨ k = 1 ∨ k = 2 ∨ k = 3 := by omega
  rcases this with rfl | rfl | rfl | rfl <;> decide
set_option maxHeartbeats 400000 in
theorem get_any (A : Option Addr) (n cap : Nat) (bs : List Nat) (w : World) (h : BytesAt w A n bs) (hn : n ≤ 4) :
    Calls Tryz.prog 85 #[.slice A n cap] w fun e w' => e = .returned (.int .u32 (val bs : Nat)) ∧ w = w' := by
  have H := Lib.hid h
  clear h
  go_enter Tryz.func85, Tryz.ntmps85
  go_wp2
  go_loop [3, 8] (fun s i => ∃ k : Nat, k ≤ n ∧ i = .int .i64 k ∧ s = .int .u32 (val (bs.take k) : Nat)) (fun _ i => n - (intOf i).toNat)
  case atStart => exact ⟨0, by omega, rfl, rfl⟩
  case round =>
    obtain ⟨k, hk, rfl, rfl⟩ := hrel
    by_cases hlt : k < n
    · obtain ⟨ad, ha, hcell⟩ := H.out.2.2.2 k hlt
      have hc := H.out.lt k
      have hm : val (bs.take k) < 16777216 := Nat.lt_of_lt_of_le (val_lt k _ (by rw [List.length_take, H.out.1]; omega) (H.out.take_lt k)) (pow_small (by omega))
      have E : Hid (val (bs.take (k + 1)) = val (bs.take k) * 256 + bs.getD k 0) := Lib.hid (by rw [H.out.take_succ hlt, val_snoc])
      generalize val (bs.take k) = s at hm E ⊢
      generalize bs.getD k 0 = c at hc E hcell
      subst ha
      go_wp2
      go_round
      case rel => exact ⟨k + 1, by omega, by go_num, by rw [E.out, or_in s c hm hc]⟩
      case measure => simp [intOf]; omega
    · go_wp2
      go_ret
      obtain rfl : k = n := by omega
      exact ⟨ret_int (by rw [H.out.takeAll]), rfl⟩
end Go.Proofs.YtpgcnjoodoabhaaGreat

set_option maxRecDepth 20000
namespace Go.Proofs.YtpgcnjoodoabhaaGreat
open Go.RowKit Rm

/-- block g holds these bytes, and has room for cap -/
def Ob (u : World) (g cap : Nat) (bs : List Nat) : Prop := ∃ cur, Blk 5 u g cur ∧ cur.size = cap ∧ bs.length ≤ cap ∧ cap ≤ maxLen ∧ cur.toList.take bs.length = bs.map cell
section
variable {u u' : World} {g cap : Nat} {bs : List Nat}
theorem Ob.lt (h : Ob u g cap bs) : g < u.heap.size := by obtain ⟨cur, h1, _⟩ := h; exact h1.lt
theorem Ob.of_block (h : Ob u g cap bs) (hb : u'.heap[g]? = u.heap[g]?) : Ob u' g cap bs := by obtain ⟨cur, h1, h2⟩ := h; exact ⟨cur, hb.trans h1, h2⟩
theorem Ob.held (h : Ob u g cap bs) (hb : Below u.heap.size u u') : Ob u' g cap bs := h.of_block (hb.block _ h.lt)
theorem Ob.turn {L : List Nat} (h : Ob u g cap bs) (t : Turn L u u') (hg : g ∉ L) : Ob u' g cap bs := h.of_block (t.block _ h.lt hg)
theorem Ob.drew (h : Ob u g cap bs) : Ob u.drew g cap bs := h
theorem Ob.of_blk (h : Blk 5 u g (cls bs)) (hl : bs.length ≤ 1000) : Ob u g bs.length bs :=
  ⟨cls bs, h, by simp [cls], Nat.le_refl _, maxLen_small hl, List.take_of_length_le (by simp [cls])⟩
theorem Ob.bytes (h : Ob u g cap bs) (hb : ∀ c ∈ bs, c < 256) (hl : bs.length ≤ 1000) : BytesAt u (some ⟨g, 0, none⟩) bs.length bs := by
  obtain ⟨cur, h1, h2, h3, h4, h5⟩ := h
  refine .of_blk h1 bs 0 _ (maxLen_small hl) rfl hb (fun k hk => ?_)
  have e : (cur.toList.take bs.length)[k]? = some (cell (bs.getD k 0)) := by rw [h5]; simp [hk]
  rw [List.getElem?_take, if_pos hk] at e
  simpa using e
theorem Ob.owns (h : Ob u g cap bs) : u.ownsRow 0 5 1 (.slice (some ⟨g, 0, none⟩) bs.length cap) bs.length (bs.map cell) := by
  obtain ⟨cur, h1, h2, h3, h4, h5⟩ := h
  exact ⟨by simp, .inr ⟨g, cap, cur, rfl, Nat.zero_le _, h1, h3, h4, by omega, by rw [Nat.mul_one]; exact h5⟩⟩
end
theorem byte_parts : (Tryz.prog.info? 5).map (fun i => (i.zero, i.size, i.bytes)) = some (some (.int .u8 0), 1, 1) := by kernel_rfl
theorem cell_one (b : List Nat) : ∀ v ∈ b.map cell, v.oneCell' = true := by
  intro v hv
  obtain ⟨c, _, rfl⟩ := List.mem_map.1 hv
  rfl

/-- 'append(b, x...)' -/
theorem run_app {u : World} {g cap : Nat} {bs : List Nat} (h : Ob u g cap bs) {ad : Addr} {m : Nat} {news : List Nat} (hx : BytesAt u (some ad) m news) (hm : bs.length + m ≤ 1000) (c : Nat) (ty : TypeId) :
    ∃ g' cap' u', (Builtin.append_ #[51, 51] ty #[.slice (some ⟨g, 0, none⟩) bs.length cap, .slice (some ad) m c]).run Tryz.prog u = .ok (.slice (some ⟨g', 0, none⟩) (bs.length + m) cap') u' ∧ Ob u' g' cap' (bs ++ news) ∧ Turn [g] u u' ∧ (g' = g ∨ u.heap.size ≤ g') := by
  obtain ⟨i0, hi, hz0, hz1, hz2⟩ := info_parts byte_parts
  obtain ⟨v', u', hr, hown, hgr, hnil, hat⟩ := run_append_own_at (P := Tryz.prog) u 0 51 ty 5 i0 (.int .u8 0) 1 1 (by kernel_rfl) hi hz0 hz1 hz2 rfl (by decide) _ _ _ h.owns ad m c (news.map cell) (by simp [hx.1]) (fun j v hv => by
      obtain ⟨hl, -, -, hc⟩ := hx
      have hj : j < m := by
        have := (List.getElem?_eq_some_iff.1 hv).1
        simp at this; omega
      obtain ⟨ad', e, h'⟩ := hc j hj
      cases e
      rw [h', ← hv]
      have hj' : j < news.length := by omega
      simp [hj', cell]) (cell_one _) (maxLen_small hm) (by omega) (Nat.zero_le _)
  rcases hown.2 with ⟨rfl, h0⟩ | ⟨g', cap', cur, rfl, -, hg, h1, h2, h3, h4⟩
  · have := (hnil.1 rfl).1
    cases this
  · refine ⟨g', cap', u', hr, ⟨cur, hg, by omega, by simp [hx.1]; omega, h2, ?_⟩, ⟨hgr.os, hgr.tape, hgr.output, hgr.size, fun i hi hn => hgr.block i hi (fun e => hn (by simpa [Value.ownBlock] using e))⟩, ?_⟩
    · rw [List.length_append, hx.1, List.map_append, ← h4, Nat.mul_one]
    · rcases hat with h | h
      · simp only [Value.ownBlock, Option.some.injEq] at h
        exact .inl h
      · simp only [Value.ownBlock, Option.some.injEq] at h
        exact .inr (by omega)

theorem zero_cells (m : Nat) : Builtin.zeroCells (Value.int .u8 0).cells m = ((List.replicate m 0).map cell).toArray := by
  apply Array.ext
  · simp [Builtin.zeroCells, Value.cells]
  · intro i h1 h2
    simp [Builtin.zeroCells, Value.cells, cell, Nat.mod_one]
/-- 'append(b, make([]byte, m)...)' -/
theorem run_app_zeros {u : World} {g cap : Nat} {bs : List Nat} (h : Ob u g cap bs) {m : Nat} (hm0 : 0 < m) (hm : bs.length + m ≤ 1000) (ty : TypeId) :
    ∃ g' cap' u', (Builtin.append_ #[51, 3] ty #[.slice (some ⟨g, 0, none⟩) bs.length cap, .int .i64 (m : Int)]).run Tryz.prog u = .ok (.slice (some ⟨g', 0, none⟩) (bs.length + m) cap') u' ∧ Ob u' g' cap' (bs ++ List.replicate m 0) ∧ Turn [g] u u' ∧ (g' = g ∨ u.heap.size ≤ g') := by
  obtain ⟨i0, hi, hz0, hz1, hz2⟩ := info_parts byte_parts
  obtain ⟨cur, h1, h2, h3, h4, h5⟩ := h
  have hw : IntKind.i64.wrap (m : Int) = m := by rw [IntKind.wrap_i64]; omega
  have hneg : ¬ ((m : Int) < 0) := by omega
  have ht : Tryz.prog.underlying 51 = some (.slice 5) := by kernel_rfl
  have htn : Tryz.prog.underlying 3 = some (.int .i64) := by kernel_rfl
  have h48i : ¬ (281474976710656 < (m : Int)) := by omega
  have hm' : ¬ (m = 0) := by omega
  by_cases hroom : bs.length + m ≤ cap
  · have hst := run_storeCells_at Tryz.prog g bs.length 5 ((List.replicate m 0).map cell) 0 cur u h1 (by simp; omega) (cell_one _)
    refine ⟨g, cap, u.setRow g (cur.toList.take bs.length ++ (List.replicate m 0).map cell ++ cur.toList.drop (bs.length + m)).toArray, ?_, ⟨_, setRow_heap u g cur _ 5 _ h1, ?_, by simp; omega, h4, ?_⟩, ⟨rfl, rfl, rfl, by simp, fun k _ hk => setRow_other u g k _ (fun e => hk (by simp [e]))⟩, .inl rfl⟩
    · simp only [Nat.add_zero, List.length_replicate, List.map_replicate] at hst
      simp [Builtin.append_, run_underlying ht, run_underlying htn, sizeOf, typeInfo, zeroValue, hi, hz0, hz1, hz2, asInt, asIntOf, hw, hneg, h48i, hm', hroom, zero_cells, Addr.add_lit, hst]
    · simp only [List.size_toArray, List.length_append, List.length_take, List.length_drop, Array.length_toList, List.length_map, List.length_replicate]
      omega
    · rw [h5, List.length_append, List.length_replicate, ← List.map_append]
      have e : (bs ++ List.replicate m 0).map cell = ((bs ++ List.replicate m 0).map cell ++ cur.toList.drop (bs.length + m)).take (bs.length + m) := by
        rw [show bs.length + m = ((bs ++ List.replicate m 0).map cell).length by simp, List.take_left]
      exact e.symm
  · have hfit := growslice_fits (need := bs.length + m) (old := cap) (bytes := 1) (by omega) (by omega)
    have h63' : ¬ (9223372036854775807 < ((bs.length : Int) + (m : Int))) := by omega
    have h48' : ¬ (281474976710656 < Builtin.nextslicecap (bs.length + m) cap) := by omega
    have holds : ∀ j v, (bs.map cell)[j]? = some v → u.drew.cell? ((⟨g, 0, none⟩ : Addr).add j) = some v := fun j v hv => by
      rw [Addr.add_mid, Nat.zero_add]
      have := Blk.at_ h1 j
      have e : (cur.toList.take bs.length)[j]? = some v := by rw [h5]; exact hv
      rw [List.getElem?_take] at e
      split at e
      · rw [show u.drew.cell? ⟨g, j, none⟩ = u.cell? ⟨g, j, none⟩ from rfl, this]; simpa using e
      · cases e
    have hfo := run_firstCells_some (P := Tryz.prog) u.drew 1 bs.length ⟨g, 0, none⟩ bs.length cap (bs.map cell) (by simp) holds
    have hge := grownCap_ge u (bs.length + m) cap 5
    have hcm := grownCap_le_maxLen u (bs.length + m) cap 5 (maxLen_small hm)
    refine ⟨u.heap.size, grownCap u (bs.length + m) cap 5, u.drew.alloc (.cells ((bs.map cell).toArray ++ ((List.replicate m 0).map cell).toArray ++ ((List.replicate (grownCap u (bs.length + m) cap 5 - (bs.length + m)) 0).map cell).toArray) 5), ?_, ⟨_, heap_alloc_new u.drew _, ?_, by simp; omega, hcm, ?_⟩, (Turn.refl [g] u).drew.alloc _, .inr (Nat.le_refl _)⟩
    · simp [Builtin.append_, run_underlying ht, run_underlying htn, sizeOf, typeInfo, zeroValue, hi, hz0, hz1, hz2, asInt, asIntOf, hw, hneg, h48i, hm', hroom, h63', h48', Question.forced, zero_cells, hfo, newRow, grownCap]
    · simp; omega
    · simp only [Array.toList_append, List.length_append, List.length_replicate]
      have e : (bs ++ List.replicate m 0).map cell = ((bs ++ List.replicate m 0).map cell ++ (List.replicate (grownCap u (bs.length + m) cap 5 - (bs.length + m)) 0).map cell).take (bs.length + m) := by
        rw [show bs.length + m = ((bs ++ List.replicate m 0).map cell).length by simp, List.take_left]
      rw [← List.map_append]
      exact e.symm
end Go.Proofs.YtpgcnjoodoabhaaGreat

set_option maxRecDepth 20000
namespace Go.Proofs.YtpgcnjoodoabhaaGreat
open Go.RowKit

theorem behind_any (n : Nat) (hn : n ≤ 32) (w : World) : Calls Tryz.prog 80 #[.int .i64 n] w fun e w' => e = .returned (.int .u32 (4294967295 / 2 ^ n : Nat)) ∧ w = w' := by
  go_enter Tryz.func80, Tryz.ntmps80
  go_wp2
  go_ret
  exact ⟨ret_int (by simp [Int.natCast_ediv]), rfl⟩
theorem behind_left (n : Nat) (hn : n ≤ 32) (w : World) : Calls Tryz.prog 80 #[.int .i64 n] w fun e w' => e = .returned (.int .u32 (4294967295 / 2 ^ n : Nat)) ∧ w' = w := (behind_any n hn w).mono fun _ _ h => ⟨h.1, h.2.symm⟩
theorem bit_valR (x : Nat) (hx : x < 4294967296) : (bits .and .u32 (x : Int) 1 == 1) = (x % 2 == 1) := by
  rw [show (1 : Int) = ((1 : Nat) : Int) from rfl, u32_and_nat x 1 hx (by omega), nat_mask1]
  rw [Bool.eq_iff_iff]; simp only [beq_iff_eq]; omega
theorem bit_anyR (a i : Nat) (ha : a < 4294967296) (hi : i < 32) (w : World) : Calls Tryz.prog 52 #[.int .u32 a, .int .i64 i] w fun e w' => e = .returned (.bool (Am.bit a i)) ∧ w = w' := by
  go_enter Tryz.func52, Tryz.ntmps52
  go_wp2
  go_ret
  refine ⟨ret_bool ?_, rfl⟩
  have e : ((a : Int) / 2 ^ (31 - i)) = ((a / 2 ^ (31 - i) : Nat) : Int) := by simp [Int.natCast_ediv]
  show (bits BinOp.and IntKind.u32 ((a : Int) / 2 ^ (31 - i)) 1 == 1) = _
  rw [e, bit_valR _ (Nat.lt_of_le_of_lt (Nat.div_le_self _ _) ha)]
  rfl

theorem behind_lt (n : Nat) : 4294967295 / 2 ^ n < 4294967296 := Nat.lt_of_le_of_lt (Nat.div_le_self _ _) (by omega)
theorem behind_int (n : Nat) : (4294967295 : Int) / 2 ^ n = ((4294967295 / 2 ^ n : Nat) : Int) := by simp [Int.natCast_ediv]
theorem and_test (a n : Nat) (ha : a < 4294967296) (hn : n ≤ 32) : (bits .and .u32 (a : Int) (4294967295 / 2 ^ n) == 0) = decide (a % 2 ^ (32 - n) = 0) := by
  rw [behind_int, u32_and_nat a _ ha (behind_lt n), Am.and_behind a n hn, Bool.eq_iff_iff]
  simp only [beq_iff_eq, decide_eq_true_eq]
  omega

/-- a prefix's two numbers lie in block g -/
def PreR (w : World) (g : Nat) (a : Int) (len : Int) : Prop := w.cell? ⟨g, 0, none⟩ = some (.int .u32 a) ∧ w.cell? ⟨g, 1, none⟩ = some (.int .i64 len)
theorem pre_newR (w : World) (t : TypeId) (a len : Int) : PreR (w.alloc (.cells #[.int .u32 a, .int .i64 len] t)) w.heap.size a len := ⟨(new_cell w _ t 0).trans rfl, (new_cell w _ t 1).trans rfl⟩
theorem PreR.held {w w' : World} {g : Nat} {a len : Int} (h : PreR w g a len) (hb : Below w.heap.size w w') : PreR w' g a len := ⟨Go.Proofs.YtpgcnjoodoabhaaGreat.held hb h.1, Go.Proofs.YtpgcnjoodoabhaaGreat.held hb h.2⟩

set_option maxHeartbeats 400000 in
theorem right_any (a : Nat) (len : Int) (ha : a < 4294967296) (w : World) :
    Calls Tryz.prog 60 #[.agg #[.int .u32 a, .int .i64 len]] w fun e w' => e = .returned (.bool (Am.right a len)) ∧ Below w.heap.size w w' := by
  by_cases h1 : len < 0
  · have R := Lib.hid (Am.right_neg (a := a) h1)
    have d1 : decide (0 ≤ len) = false := decide_eq_false (by omega)
    go_enter Tryz.func60, Tryz.ntmps60
    go_wp2_with fail
    obtain ⟨c0, c1⟩ := pre_newR w 36 a len
    have hb := below_new w (.cells #[.int .u32 a, .int .i64 len] 36)
    generalize w.alloc (.cells #[.int .u32 a, .int .i64 len] 36) = w2 at *
    have HB := Lib.hid hb
    clear hb
    go_quiet ((go_at_call 80; exact Calls.quiet_of_same (behind_left _ (by omega) _)))
    go_wp2
    go_ret
    exact ⟨ret_bool R.out.symm, drewN_below HB.out _⟩
  · by_cases h2 : 32 < len
    · have R := Lib.hid (Am.right_big (a := a) h2)
      have d1 : decide (0 ≤ len) = true := decide_eq_true (by omega)
      have d2 : decide (len ≤ 32) = false := decide_eq_false (by omega)
      go_enter Tryz.func60, Tryz.ntmps60
      go_wp2_with fail
      obtain ⟨c0, c1⟩ := pre_newR w 36 a len
      have hb := below_new w (.cells #[.int .u32 a, .int .i64 len] 36)
      generalize w.alloc (.cells #[.int .u32 a, .int .i64 len] 36) = w2 at *
      have HB := Lib.hid hb
      clear hb
      go_quiet ((go_at_call 80; exact Calls.quiet_of_same (behind_left _ (by omega) _)))
      go_wp2
      go_ret
      exact ⟨ret_bool R.out.symm, drewN_below HB.out _⟩
    · obtain ⟨n, rfl⟩ := Int.eq_ofNat_of_zero_le (by omega : 0 ≤ len)
      have hn : n ≤ 32 := by omega
      have d1 : decide (0 ≤ (n : Int)) = true := decide_eq_true (by omega)
      have d2 : decide ((n : Int) ≤ 32) = true := decide_eq_true (by omega)
      clear h1 h2
      have R := Lib.hid (Am.right_in (a := a) hn)
      go_enter Tryz.func60, Tryz.ntmps60
      go_wp2_with fail
      obtain ⟨c0, c1⟩ := pre_newR w 36 a (n : Int)
      have hb := below_new w (.cells #[.int .u32 a, .int .i64 (n : Int)] 36)
      generalize w.alloc (.cells #[.int .u32 a, .int .i64 (n : Int)] 36) = w2 at *
      have HB := Lib.hid hb
      clear hb
      go_region_held3 (fun w' => w'.cell? ⟨w.heap.size, 0, none⟩ = some (.int .u32 a) ∧ w'.cell? ⟨w.heap.size, 1, none⟩ = some (.int .i64 (n : Int))) (go_keep)
        (first | (go_at_call 80; refine (behind_any _ (by omega) _).mono ?_; rintro e w' ⟨rfl, rfl⟩))
      go_wp2
      go_ret
      exact ⟨ret_bool ((and_test a n ha hn).trans R.out.symm), HB.out.drew⟩

/-! ### the statement's own Right -/
set_option maxHeartbeats 400000 in
theorem refRight_anyR (a : Nat) (len : Int) (ha : a < 4294967296) (w : World) :
    Calls Tryz.prog 29 #[.agg #[.int .u32 a, .int .i64 len]] w fun e w' => e = .returned (.bool (Am.right a len)) ∧ Below w.heap.size w w' := by
  by_cases h1 : len < 0
  · have R := Lib.hid (Am.right_neg (a := a) h1)
    go_enter Tryz.func29, Tryz.ntmps29
    go_wp2
    go_ret
    exact ⟨ret_bool R.out.symm, below_new _ _⟩
  · by_cases h2 : 32 < len
    · have R := Lib.hid (Am.right_big (a := a) h2)
      go_enter Tryz.func29, Tryz.ntmps29
      go_wp2
      go_ret
      exact ⟨ret_bool R.out.symm, below_new _ _⟩
    · obtain ⟨n, rfl⟩ := Int.eq_ofNat_of_zero_le (by omega : 0 ≤ len)
      have hn : n ≤ 32 := by omega
      clear h1 h2
      have R := Lib.hid (Am.right_in (a := a) hn)
      go_enter Tryz.func29, Tryz.ntmps29
      go_wp2
      obtain ⟨c0, c1⟩ := pre_newR w 36 a n
      have hb := below_new w (.cells #[.int .u32 a, .int .i64 n] 36)
      generalize w.alloc (.cells #[.int .u32 a, .int .i64 n] 36) = w2 at *
      have HB := Lib.hid hb
      clear hb
      go_loop [3] (fun i => ∃ k : Nat, k ≤ 32 ∧ i = .int .i64 k ∧ (a % 2 ^ (32 - n) = 0 ↔ a % 2 ^ (32 - k) = 0)) (fun i => 32 - (intOf i).toNat)
      case atStart => exact ⟨n, hn, rfl, Iff.rfl⟩
      case round =>
        obtain ⟨k, hk, rfl, hz⟩ := hrel
        have Z := Lib.hid hz
        clear hz
        by_cases hlt : k < 32
        · have E := Lib.hid (Am.zero_from a k hlt)
          go_wp2_with fail
          refine (bit_anyR a k ha hlt _).mono ?_
          rintro e w' ⟨rfl, rfl⟩
          cases hbit : Am.bit a k
          · have B := Lib.hid hbit
            clear hbit
            go_wp2
            go_round
            case rel => exact ⟨k + 1, by omega, by go_num, by rw [Z.out, E.out, B.out]; simp⟩
            case measure => simp [intOf]; omega
          · have B := Lib.hid hbit
            clear hbit
            go_wp2
            go_ret
            exact ⟨ret_bool (by rw [R.out]; symm; rw [decide_eq_false_iff_not, Z.out, E.out, B.out]; simp), HB.out⟩
        · obtain rfl : k = 32 := by omega
          go_wp2
          go_ret
          exact ⟨ret_bool (by rw [R.out]; symm; rw [decide_eq_true_eq, Z.out]; simp [Nat.mod_one]), HB.out⟩
end Go.Proofs.YtpgcnjoodoabhaaGreat

set_option maxRecDepth 20000
namespace Go.Proofs.YtpgcnjoodoabhaaGreat
open Go.RowKit Rm

/-- a record as a value -/
def Rm.Rc.val (r : Rc) : Value := .agg #[.int .i64 r.kind, .int .u32 r.gen, .int .u32 r.lsn, .int .u32 r.id, .int .u32 r.a, .int .i64 r.len, .bool r.on, .int .u32 r.seq, .int .u16 r.met]

set_option maxHeartbeats 1000000 in
theorem pared_any (k : Int) (g l i a : Nat) (n : Int) (o : Bool) (s m : Nat) (w : World) :
    Calls Tryz.prog 58 #[.agg #[.int .i64 k, .int .u32 g, .int .u32 l, .int .u32 i, .int .u32 a, .int .i64 n, .bool o, .int .u32 s, .int .u16 m]] w fun e w' => e = .returned (pared ⟨k, g, l, i, a, n, o, s, m⟩).val ∧ Below w.heap.size w w' := by
  have B3 : ∀ A B C : Obj, Below w.heap.size w (((w.alloc A).alloc B).alloc C) := fun A B C => next (next (below_new _ _) (below_new _ _)) (below_new _ _)
  by_cases h1 : k = 1
  · subst h1
    go_enter Tryz.func58, Tryz.ntmps58
    go_wp2
    refine bodyPost_ret (v := (pared ⟨1, g, l, i, a, n, o, s, m⟩).val) ?_ rfl ⟨rfl, B3 _ _ _⟩
    simp [results, Tryz.results58, go_sem]
    rfl
  by_cases h2 : k = 2
  · subst h2
    go_enter Tryz.func58, Tryz.ntmps58
    go_wp2
    go_region
    go_wp2
    refine bodyPost_ret (v := (pared ⟨2, g, l, i, a, n, o, s, m⟩).val) ?_ rfl ⟨rfl, (B3 _ _ _).drew⟩
    simp [results, Tryz.results58, go_sem]
    rfl
  by_cases h3 : k = 3
  · subst h3
    go_enter Tryz.func58, Tryz.ntmps58
    go_wp2
    refine bodyPost_ret (v := (pared ⟨3, g, l, i, a, n, o, s, m⟩).val) ?_ rfl ⟨rfl, B3 _ _ _⟩
    simp [results, Tryz.results58, go_sem]
    rfl
  by_cases h4 : k = 4
  · subst h4
    go_enter Tryz.func58, Tryz.ntmps58
    go_wp2
    go_region
    go_wp2
    refine bodyPost_ret (v := (pared ⟨4, g, l, i, a, n, o, s, m⟩).val) ?_ rfl ⟨rfl, (B3 _ _ _).drew⟩
    simp [results, Tryz.results58, go_sem]
    rfl
  · have E : Hid ((pared ⟨k, g, l, i, a, n, o, s, m⟩).val = .agg #[.int .i64 k, .int .u32 g, .int .u32 l, .int .u32 0, .int .u32 0, .int .i64 0, .bool false, .int .u32 0, .int .u16 0]) := Lib.hid (by unfold pared; rw [if_neg h1, if_neg h2, if_neg h3, if_neg h4]; rfl)
    have d1 : (k == 1) = false := beq_eq_false_iff_ne.2 h1
    have d2 : (k == 2) = false := beq_eq_false_iff_ne.2 h2
    have d3 : (k == 3) = false := beq_eq_false_iff_ne.2 h3
    have d4 : (k == 4) = false := beq_eq_false_iff_ne.2 h4
    clear h1 h2 h3 h4
    go_enter Tryz.func58, Tryz.ntmps58
    go_wp2
    refine bodyPost_ret (v := (pared ⟨k, g, l, i, a, n, o, s, m⟩).val) ?_ rfl ⟨rfl, B3 _ _ _⟩
    rw [E.out]
    simp [results, Tryz.results58, go_sem]
end Go.Proofs.YtpgcnjoodoabhaaGreat

set_option maxRecDepth 20000
namespace Go.Proofs.YtpgcnjoodoabhaaGreat
open Go.RowKit Rm

theorem refRight_eqR {a : Nat} {len : Int} {r : Bool} (ha : a < 4294967296) (h : Am.right a len = r) (w : World) :
    Calls Tryz.prog 29 #[.agg #[.int .u32 a, .int .i64 len]] w fun e w' => e = .returned (.bool r) ∧ Below w.heap.size w w' := h ▸ refRight_anyR a len ha w

set_option maxHeartbeats 1000000 in
theorem rright_anyR (k : Int) (g l i a : Nat) (n : Int) (o : Bool) (s m : Nat) (ha : a < 4294967296) (w : World) :
    Calls Tryz.prog 9 #[.agg #[.int .i64 k, .int .u32 g, .int .u32 l, .int .u32 i, .int .u32 a, .int .i64 n, .bool o, .int .u32 s, .int .u16 m]] w fun e w' => e = .returned (.bool (right2 ⟨k, g, l, i, a, n, o, s, m⟩)) ∧ Below w.heap.size w w' := by
  cases hr : Am.right a n
  · have R := Lib.hid hr
    have E : Hid (right2 ⟨k, g, l, i, a, n, o, s, m⟩ = false) := Lib.hid (by unfold right2; simp [hr])
    clear hr
    go_enter Tryz.func9, Tryz.ntmps9
    go_wp2_with fail
    have hb0 := below_new w (.cells #[.int .i64 k, .int .u32 g, .int .u32 l, .int .u32 i, .int .u32 a, .int .i64 n, .bool o, .int .u32 s, .int .u16 m] 41)
    refine (refRight_eqR ha R.out _).mono ?_
    rintro e w1 ⟨rfl, hb⟩
    have HB := Lib.hid (next hb0 hb)
    clear hb hb0
    go_wp2_with fail
    go_ret
    exact ⟨ret_bool E.out.symm, HB.out⟩
  · have R := Lib.hid hr
    clear hr
    go_enter Tryz.func9, Tryz.ntmps9
    go_wp2_with fail
    refine (refRight_eqR ha R.out _).mono ?_
    rintro e w1 ⟨rfl, hb⟩
    have hb0 := below_new w (.cells #[.int .i64 k, .int .u32 g, .int .u32 l, .int .u32 i, .int .u32 a, .int .i64 n, .bool o, .int .u32 s, .int .u16 m] 41)
    have C := (Blk.new w 41 #[.int .i64 k, .int .u32 g, .int .u32 l, .int .u32 i, .int .u32 a, .int .i64 n, .bool o, .int .u32 s, .int .u16 m]).held hb
    have HB := Lib.hid (next hb0 hb)
    clear hb hb0
    have c0 := C.at_ 0
    have c3 := C.at_ 3
    have c4 := C.at_ 4
    have c5 := C.at_ 5
    have c6 := C.at_ 6
    have c7 := C.at_ 7
    have c8 := C.at_ 8
    clear C
    simp at c0 c3 c4 c5 c6 c7 c8
    go_wp2_with fail
    all_goals
      clear c0 c3 c4 c5 c6 c7 c8
      have R' := R.out
      go_ret
      refine ⟨ret_bool ?_, HB.out⟩
      clear HB R
      simp_all [right2]
    all_goals first | (intros; omega) | (rw [Bool.eq_iff_iff]; simp; omega)

theorem named_any (k : Int) (w : World) : Calls Tryz.prog 59 #[.int .i64 k] w fun e w' => e = .returned (.bool (named k)) ∧ w = w' := by
  go_enter Tryz.func59, Tryz.ntmps59
  go_wp2
  all_goals
    go_ret
    exact ⟨ret_bool (by simp_all [named]), rfl⟩
theorem named_eq {k : Int} {r : Bool} (h : named k = r) (w : World) : Calls Tryz.prog 59 #[.int .i64 k] w fun e w' => e = .returned (.bool r) ∧ Below w.heap.size w w' :=
  (named_any k w).mono fun _ _ h' => ⟨h ▸ h'.1, h'.2 ▸ Below.refl _ _⟩
theorem right_eq {a : Nat} {len : Int} {r : Bool} (ha : a < 4294967296) (h : Am.right a len = r) (w : World) :
    Calls Tryz.prog 60 #[.agg #[.int .u32 a, .int .i64 len]] w fun e w' => e = .returned (.bool r) ∧ Below w.heap.size w w' := h ▸ right_any a len ha w
theorem lost_anyR (s m : Int) (w : World) : Calls Tryz.prog 61 #[.agg #[.int .u32 s, .int .u16 m]] w fun e w' => e = .returned (.bool (m == 65535)) ∧ Below w.heap.size w w' := by
  go_enter Tryz.func61, Tryz.ntmps61
  go_wp2
  go_ret
  exact ⟨rfl, (Below.refl _ _).alloc (Nat.le_refl _) _⟩
theorem lost_eqR {s m : Int} {r : Bool} (h : (m == 65535) = r) (w : World) :
    Calls Tryz.prog 61 #[.agg #[.int .u32 s, .int .u16 m]] w fun e w' => e = .returned (.bool r) ∧ Below w.heap.size w w' := h ▸ lost_anyR s m w

set_option maxHeartbeats 1000000 in
theorem eql_rec (k k' : Int) (g l i a g' l' i' a' : Nat) (n n' : Int) (o o' : Bool) (s m s' m' : Nat) (w : World) :
    (binOp .eql 41 (.agg #[.int .i64 k, .int .u32 g, .int .u32 l, .int .u32 i, .int .u32 a, .int .i64 n, .bool o, .int .u32 s, .int .u16 m]) (.agg #[.int .i64 k', .int .u32 g', .int .u32 l', .int .u32 i', .int .u32 a', .int .i64 n', .bool o', .int .u32 s', .int .u16 m'])).run Tryz.prog w =
      .ok (.bool (decide ((⟨k, g, l, i, a, n, o, s, m⟩ : Rc) = ⟨k', g', l', i', a', n', o', s', m'⟩))) w := by
  go_simp
  by_cases h1 : k = k'
  case neg => simp [h1]
  by_cases h2 : g = g'
  case neg => simp [h2, show ¬ (g : Int) = g' by omega]
  by_cases h3 : l = l'
  case neg => simp [h3, show ¬ (l : Int) = l' by omega]
  by_cases h4 : i = i'
  case neg => simp [h4, show ¬ (i : Int) = i' by omega]
  by_cases h5 : a = a'
  case neg => simp [h5, show ¬ (a : Int) = a' by omega]
  by_cases h6 : n = n'
  case neg => simp [h6]
  by_cases h7 : o = o'
  case neg => simp [h7]
  by_cases h8 : s = s'
  case neg => simp [h8, show ¬ (s : Int) = s' by omega]
  by_cases h9 : m = m'
  case neg => simp [h9, show ¬ (m : Int) = m' by omega]
  simp [h1, h2, h3, h4, h5, h6, h7, h8, h9]

theorem eq_op {P : Program} {C : World → Prop} {K : Act → Prop} {a : Act} {o : Oper} {t : TypeId} {x y : Operand} {z : TypeId} {xs ys : Array Value} {b : Bool} (ho : o.op = .binOp .eql t x y z) (ha : a.eval x = .agg xs) (hb : a.eval y = .agg ys)
    (hm : P.eqGuardType P.depth t = false) (hq : ∀ w, (binOp .eql t (.agg xs) (.agg ys)).run P w = .ok (.bool b) w) (hk : K (a.put o.dst (.bool b))) : o.quiet P a C K :=
  ⟨_, fun w _ => by
    unfold Oper.quietAt execOp
    simp [ho, ha, hb, run_eqGuard_agg _ _ _ _ _ _ _ hm, hq, Oper.quietUpon], hk⟩

end Go.Proofs.YtpgcnjoodoabhaaGreat

