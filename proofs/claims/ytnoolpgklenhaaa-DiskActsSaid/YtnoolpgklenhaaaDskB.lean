/-
  Package disk: what a disk's blocks hold, and the contracts of its small calls.
-/
import Derived.Test.YtnoolpgklenhaaaProg
import Derived.Test.YtnoolpgklenhaaaMp
import Derived.Deep.MidRow
namespace Go.Proofs.Ytnoolpgklenhaaa
open Go.RowKit

theorem int_wf {i : Int} (h1 : -9223372036854775808 ≤ i) (h2 : i ≤ 9223372036854775807) : (Lit.int .i64 i).wf = true := by
  have e1 : IntKind.i64.min = -9223372036854775808 := rfl
  have e2 : IntKind.i64.max = 9223372036854775807 := rfl
  simp only [Lit.wf, Bool.and_eq_true, decide_eq_true_eq]
  omega

/-! ### worlds that differ in few blocks -/
/-- w' is w but for the blocks in L, and for new ones. -/
structure Turn (L : List Nat) (w w' : World) : Prop where
  os : w'.os = w.os
  tape : w'.tape = w.tape
  output : w'.output = w.output
  size : w.heap.size ≤ w'.heap.size
  block : ∀ i, i < w.heap.size → i ∉ L → w'.heap[i]? = w.heap[i]?
section
variable {L : List Nat} {w w' w2 : World}
theorem Turn.refl (L : List Nat) (w : World) : Turn L w w := ⟨rfl, rfl, rfl, Nat.le_refl _, fun _ _ _ => rfl⟩
theorem Turn.trans (h : Turn L w w') (k : Turn L w' w2) : Turn L w w2 :=
  ⟨k.os.trans h.os, k.tape.trans h.tape, k.output.trans h.output, Nat.le_trans h.size k.size, fun i hi hn => (k.block i (Nat.lt_of_lt_of_le hi h.size) hn).trans (h.block i hi hn)⟩
theorem Turn.of_below (L : List Nat) (h : Below w.heap.size w w') : Turn L w w' := ⟨h.os, h.tape, h.output, h.size, fun i hi _ => h.block i hi⟩
theorem Turn.and_below (h : Turn L w w') (k : Below w'.heap.size w' w2) : Turn L w w2 := h.trans (.of_below L k)
theorem Turn.of_grown {b : Nat} (h : w.grownBy w' (some b)) (hb : b ∈ L) : Turn L w w' := ⟨h.os, h.tape, h.output, h.size, fun i hi hn => h.block i hi (fun e => hn (by cases e; exact hb))⟩
theorem Turn.below {B : Nat} (h : Turn L w w') (hL : ∀ i, i ∈ L → B ≤ i) (hB : B ≤ w.heap.size) : Below B w w' :=
  ⟨h.os, h.tape, h.output, h.size, fun i hi => h.block i (by omega) (fun hm => by have := hL i hm; omega)⟩
theorem Turn.mono {L' : List Nat} (h : Turn L w w') (hL : ∀ i, i ∈ L → i ∈ L') : Turn L' w w' := ⟨h.os, h.tape, h.output, h.size, fun i hi hn => h.block i hi (fun hm => hn (hL i hm))⟩
theorem Turn.setCell (w : World) {p : Addr} (hp : p.block ∈ L) (u : Value) : Turn L w (w.setCell p u) :=
  ⟨rfl, rfl, rfl, by simp [World.setCell], fun i _ hn => Below.heap_setCell _ _ _ _ (fun e => hn (e ▸ hp))⟩
theorem Turn.alloc (h : Turn L w w') (o : Obj) : Turn L w (w'.alloc o) := h.and_below (below_new _ _)
theorem Turn.drew (h : Turn L w w') : Turn L w w'.drew := ⟨h.os, h.tape, h.output, h.size, h.block⟩
theorem Turn.fresh {g : Nat} (h : Turn L w w') (k : Turn [g] w' w2) (hg : w.heap.size ≤ g) : Turn L w w2 :=
  ⟨k.os.trans h.os, k.tape.trans h.tape, k.output.trans h.output, Nat.le_trans h.size k.size, fun i hi hn => (k.block i (Nat.lt_of_lt_of_le hi h.size) (by simp; omega)).trans (h.block i hi hn)⟩
theorem Turn.cell (h : Turn L w w') {a : Addr} {v : Value} (hc : w.cell? a = some v) (ha : a.block ∉ L) : w'.cell? a = some v := by
  rw [World.cell?_of_block (h.block _ (cell_lt hc) ha)]; exact hc
theorem Blk.turn {t : TypeId} {g : Nat} {cs : Array Value} (k : Blk t w g cs) (h : Turn L w w') (hg : g ∉ L) : Blk t w' g cs := (h.block g k.lt hg).trans k
end
theorem setCells_heap (b : Nat) : ∀ (vs : List Value) (o : Nat) (w : World) (i : Nat), i ≠ b → (w.setCells b o vs).heap[i]? = w.heap[i]?
  | [], _, _, _, _ => rfl
  | v :: r, o, w, i, h => by
    rw [World.setCells, setCells_heap b r (o + 1) _ i h]
    exact Below.heap_setCell _ _ _ _ h
theorem setCells_size (b : Nat) : ∀ (vs : List Value) (o : Nat) (w : World), (w.setCells b o vs).heap.size = w.heap.size
  | [], _, _ => rfl
  | v :: r, o, w => by rw [World.setCells, setCells_size b r]; simp [World.setCell]
theorem setCells_rest (b : Nat) : ∀ (vs : List Value) (o : Nat) (w : World), (w.setCells b o vs).os = w.os ∧ (w.setCells b o vs).tape = w.tape ∧ (w.setCells b o vs).output = w.output
  | [], _, _ => ⟨rfl, rfl, rfl⟩
  | v :: r, o, w => by rw [World.setCells]; exact setCells_rest b r (o + 1) _
theorem Turn.setCells {L : List Nat} (w : World) {b : Nat} (hb : b ∈ L) (o : Nat) (vs : List Value) : Turn L w (w.setCells b o vs) :=
  ⟨(setCells_rest b vs o w).1, (setCells_rest b vs o w).2.1, (setCells_rest b vs o w).2.2, by rw [setCells_size]; exact Nat.le_refl _, fun i _ hn => setCells_heap b vs o w i (fun e => hn (e ▸ hb))⟩
/-- the cells of block b, with vs laid over those from o on -/
def over (C : Array Value) (o : Nat) : List Value → Array Value
  | [] => C
  | v :: r => over (C.setIfInBounds o v) (o + 1) r
theorem over_size : ∀ (vs : List Value) (C : Array Value) (o : Nat), (over C o vs).size = C.size
  | [], _, _ => rfl
  | v :: r, C, o => by rw [over, over_size r]; simp
theorem over_get : ∀ (vs : List Value) (C : Array Value) (o : Nat), o + vs.length ≤ C.size → ∀ k : Nat, (over C o vs)[k]? = if o ≤ k ∧ k < o + vs.length then vs[k - o]? else C[k]?
  | [], C, o, _, k => by rw [over, if_neg (by simp)]
  | v :: r, C, o, h, k => by
    simp only [List.length_cons] at h
    rw [over, over_get r (C.setIfInBounds o v) (o + 1) (by simp; omega)]
    by_cases h1 : o + 1 ≤ k ∧ k < o + 1 + r.length
    · rw [if_pos h1, if_pos (by simp only [List.length_cons]; omega)]
      have e : k - o = k - (o + 1) + 1 := by omega
      rw [e, List.getElem?_cons_succ]
    · rw [if_neg h1, Array.getElem?_setIfInBounds]
      by_cases h2 : o = k
      · subst h2
        rw [if_pos rfl, if_pos (by omega), if_pos (by simp only [List.length_cons]; omega)]
        simp
      · rw [if_neg h2, if_neg (by simp only [List.length_cons]; omega)]
theorem Blk.setCells {t : TypeId} {b : Nat} : ∀ (vs : List Value) (o : Nat) (w : World) (C : Array Value), Blk t w b C → Blk t (w.setCells b o vs) b (over C o vs)
  | [], _, _, _, h => h
  | v :: r, o, w, C, h => by
    rw [World.setCells, over]
    exact Blk.setCells r (o + 1) _ _ (h.store o v)

/-! ### a disk -/
/-- the cells of bytes -/
def sec (s : List UInt8) : List Value := s.map fun b => .int .u8 (b.toNat : Int)
theorem sec_length (s : List UInt8) : (sec s).length = s.length := by simp [sec]
theorem sec_get (s : List UInt8) (j : Nat) : (sec s)[j]? = (s[j]?).map fun b => .int .u8 (b.toNat : Int) := by simp [sec]
theorem sec_one (s : List UInt8) : ∀ v ∈ sec s, v.oneCell' = true := by
  intro v hv
  obtain ⟨b, _, rfl⟩ := List.mem_map.1 hv
  rfl
theorem sec_inj {s s' : List UInt8} (h : sec s = sec s') : s = s' := by
  induction s generalizing s' with
  | nil => cases s' <;> simp [sec] at h ⊢
  | cons a r ih =>
    cases s' with
    | nil => simp [sec] at h
    | cons b r' =>
      simp only [sec, List.map_cons, List.cons.injEq, Value.int.injEq] at h
      have e : a = b := UInt8.toNat_inj.1 (by omega)
      rw [e, ih h.2]
theorem sector_info : (Try.prog.info? 53).map (·.size) = some 48 := by kernel_rfl
theorem sector_under : Try.prog.underlying 53 = some (.array 48 5) := by kernel_rfl
theorem secInfo {s : List UInt8} (h : s.length = 48) : (Try.prog.info? 53).map (·.size) = some (sec s).length := by rw [sec_length, h]; exact sector_info

/-- a new sector's cells -/
abbrev z48 : Array Value := #[.int .u8 0, .int .u8 0, .int .u8 0, .int .u8 0, .int .u8 0, .int .u8 0, .int .u8 0, .int .u8 0, .int .u8 0, .int .u8 0, .int .u8 0, .int .u8 0, .int .u8 0, .int .u8 0, .int .u8 0, .int .u8 0, .int .u8 0, .int .u8 0, .int .u8 0, .int .u8 0, .int .u8 0, .int .u8 0, .int .u8 0, .int .u8 0, .int .u8 0, .int .u8 0, .int .u8 0, .int .u8 0, .int .u8 0, .int .u8 0, .int .u8 0, .int .u8 0, .int .u8 0, .int .u8 0, .int .u8 0, .int .u8 0, .int .u8 0, .int .u8 0, .int .u8 0, .int .u8 0, .int .u8 0, .int .u8 0, .int .u8 0, .int .u8 0, .int .u8 0, .int .u8 0, .int .u8 0, .int .u8 0]

theorem z48_there (w : World) (t : TypeId) : (w.alloc (.cells z48 t)).there w.heap.size 0 48 := fun j hj => by
  have h := Blk.new w t z48
  rw [Nat.zero_add]
  refine ⟨?_, h.free j⟩
  rw [h.at_ j, Array.getElem?_eq_getElem (show j < z48.size from hj)]
  rfl
theorem z48_there' (w : World) (t : TypeId) {s : List UInt8} (hs : s.length = 48) : (w.alloc (.cells z48 t)).there w.heap.size 0 (sec s).toArray.size := by
  rw [show (sec s).toArray.size = 48 by rw [List.size_toArray, sec_length, hs]]
  exact z48_there w t
theorem secInfo' {s : List UInt8} (hs : s.length = 48) : (Try.prog.info? 53).map (·.size) = some (sec s).toArray.size := by
  rw [List.size_toArray]
  exact secInfo hs

theorem over_all (s : List UInt8) (C : Array Value) (h : C.size = s.length) : over C 0 (sec s) = (sec s).toArray := by
  apply Array.ext_getElem?
  intro k
  rw [over_get _ _ _ (by rw [sec_length]; omega), Nat.zero_add, sec_length]
  by_cases hk : k < s.length
  · rw [if_pos (by omega)]; simp
  · rw [if_neg (by omega), Array.getElem?_eq_none (by omega), Array.getElem?_eq_none (by simp [sec_length]; omega)]
/-- a new sector that takes a value -/
theorem new_stored (w : World) (t : TypeId) {s : List UInt8} (hs : s.length = 48) : Below w.heap.size w ((w.alloc (.cells z48 t)).setCells w.heap.size 0 (sec s)) ∧ Blk t ((w.alloc (.cells z48 t)).setCells w.heap.size 0 (sec s)) w.heap.size (sec s).toArray ∧
    ((w.alloc (.cells z48 t)).setCells w.heap.size 0 (sec s)).heap.size = w.heap.size + 1 := by
  have h1 := Turn.setCells (L := [w.heap.size]) (w.alloc (.cells z48 t)) (b := w.heap.size) (by simp) 0 (sec s)
  have h2 := (Blk.new w t z48).setCells (sec s) 0
  rw [over_all s z48 (by rw [hs]; rfl)] at h2
  refine ⟨(below_new w (.cells z48 t)).trans (h1.below (by simp) (by simp)), h2, by rw [setCells_size]; simp⟩

theorem Blk.restored {w : World} {g : Nat} {t : TypeId} {s s' : List UInt8} (h : Blk t w g (sec s').toArray) (hs : s.length = 48) (hs' : s'.length = 48) : Blk t (w.setCells g 0 (sec s)) g (sec s).toArray := by
  have k := h.setCells (sec s) 0
  rwa [over_all s _ (by simp [sec_length, hs, hs'])] at k
theorem Blk.there_all {w : World} {g : Nat} {t : TypeId} {s s' : List UInt8} (h : Blk t w g (sec s').toArray) (hs : s.length = 48) (hs' : s'.length = 48) : w.there g 0 (sec s).toArray.size := fun j hj => by
  rw [Nat.zero_add]
  refine ⟨?_, h.free j⟩
  rw [h.at_ j, Array.getElem?_eq_getElem (by simp [sec_length] at hj ⊢; omega)]
  rfl

theorem Blk.range_all {w : World} {g : Nat} {t : TypeId} {s : List UInt8} (h : Blk t w g (sec s).toArray) : w.rangeAt g 0 (sec s) := fun j v hv => by
  rw [Nat.zero_add, h.at_ j]
  simpa using hv
theorem Blk.there_z48 {w : World} {g : Nat} {t : TypeId} {s : List UInt8} (h : Blk t w g z48) (hs : s.length = 48) : w.there g 0 (sec s).toArray.size := fun j hj => by
  rw [Nat.zero_add]
  refine ⟨?_, h.free j⟩
  rw [h.at_ j, Array.getElem?_eq_getElem (show j < z48.size by simp [sec_length, hs] at hj; exact hj)]
  rfl
theorem Blk.stored {w : World} {g : Nat} {t : TypeId} {s : List UInt8} (h : Blk t w g z48) (hs : s.length = 48) : Blk t (w.setCells g 0 (sec s)) g (sec s).toArray := by
  have k := h.setCells (sec s) 0
  rwa [over_all s _ (by rw [hs]; rfl)] at k

/-- The disk whose struct lies in block d, its safe sectors in S, its map in M: it has n sectors; safe says what each held when it was safe last, wn what those hold that aren't, well how many calls go well. -/
structure Dk (w : World) (d S M n : Nat) (safe : Nat → List UInt8) (wn : Int → Option (List UInt8)) (well : Int) : Prop where
  head : Blk 51 w d #[.slice (some ⟨S, 0, none⟩) n n, .map (some M), .int .i64 well]
  rows : ∃ C, Blk 53 w S C ∧ C.size = n * 48 ∧ ∀ i, i < n → ∀ j v, (sec (safe i))[j]? = some v → C[i * 48 + j]? = some v
  map : Mp Try.prog 3 w M (fun z => (wn z).map fun s => .agg (sec s).toArray)
  len : ∀ i, i < n → (safe i).length = 48
  wlen : ∀ z s, wn z = some s → 0 ≤ z ∧ z < n ∧ s.length = 48
  n1 : 1 ≤ n
  n2 : n ≤ 512
  w1 : -1 ≤ well
  w2 : well ≤ 9223372036854775807
section
variable {w w' : World} {d S M n : Nat} {safe : Nat → List UInt8} {wn : Int → Option (List UInt8)} {well : Int}
theorem Dk.of_blocks (h : Dk w d S M n safe wn well) (hd : w'.heap[d]? = w.heap[d]?) (hS : w'.heap[S]? = w.heap[S]?) (hM : w'.heap[M]? = w.heap[M]?) : Dk w' d S M n safe wn well :=
  ⟨hd.trans h.head, by obtain ⟨C, h1, h2⟩ := h.rows; exact ⟨C, hS.trans h1, h2⟩, h.map.of_block hM, h.len, h.wlen, h.n1, h.n2, h.w1, h.w2⟩
theorem Dk.ltS (h : Dk w d S M n safe wn well) : S < w.heap.size := by obtain ⟨C, h1, _⟩ := h.rows; exact h1.lt
theorem Dk.held (h : Dk w d S M n safe wn well) (hb : Below w.heap.size w w') : Dk w' d S M n safe wn well :=
  h.of_blocks (hb.block _ h.head.lt) (hb.block _ h.ltS) (hb.block _ h.map.lt)
theorem Dk.drew (h : Dk w d S M n safe wn well) : Dk w.drew d S M n safe wn well := h.of_blocks rfl rfl rfl
theorem Dk.more (h : Dk w d S M n safe wn well) (o : Obj) : Dk (w.alloc o) d S M n safe wn well := h.held (below_new w o)
theorem Dk.dS (h : Dk w d S M n safe wn well) : d ≠ S := by
  intro e
  obtain ⟨C, h1, h2, _⟩ := h.rows
  have h3 := h.head
  unfold Blk at h1 h3
  rw [e, h1] at h3
  simp at h3
theorem Dk.dM (h : Dk w d S M n safe wn well) : d ≠ M := by
  intro e
  obtain ⟨es, c, h1⟩ := h.map.isMap
  have h3 := h.head
  unfold Blk at h3
  rw [e, h1] at h3
  simp at h3
theorem Dk.SM (h : Dk w d S M n safe wn well) : S ≠ M := by
  intro e
  obtain ⟨es, c, h1⟩ := h.map.isMap
  obtain ⟨C, h3, _⟩ := h.rows
  unfold Blk at h3
  rw [e, h1] at h3
  simp at h3
/-- other numbers in well -/
theorem Dk.setWell (h : Dk w d S M n safe wn well) {u : Int} (h1 : -1 ≤ u) (h2 : u ≤ 9223372036854775807) : Dk (w.setCell ⟨d, 2, none⟩ (.int .i64 u)) d S M n safe wn u := by
  have e := h.head.store 2 (.int .i64 u)
  exact ⟨e, by obtain ⟨C, h3, h4⟩ := h.rows; exact ⟨C, h3.away (p := ⟨d, 2, none⟩) h.dS.symm _, h4⟩, h.map.of_block (Below.heap_setCell _ _ _ _ h.dM.symm), h.len, h.wlen, h.n1, h.n2, h1, h2⟩
theorem Dk.turn {L : List Nat} (h : Dk w d S M n safe wn well) (t : Turn L w w') (h1 : d ∉ L) (h2 : S ∉ L) (h3 : M ∉ L) : Dk w' d S M n safe wn well :=
  h.of_blocks (t.block _ h.head.lt h1) (t.block _ h.ltS h2) (t.block _ h.map.lt h3)
end

/-- what a sector holds -/
def synced (safe : Nat → List UInt8) (wn : Int → Option (List UInt8)) (i : Nat) : List UInt8 := (wn i).getD (safe i)
section
variable {w w' : World} {d S M n : Nat} {safe : Nat → List UInt8} {wn : Int → Option (List UInt8)} {well : Int}
theorem Dk.range (h : Dk w d S M n safe wn well) {i : Nat} (hi : i < n) : w.rangeAt S (i * 48) (sec (safe i)) := by
  obtain ⟨C, h1, h2, h3⟩ := h.rows
  intro j v hv
  rw [h1.at_]
  exact h3 i hi j v hv
/-- a safe sector anew -/
theorem Dk.row (h : Dk w d S M n safe wn well) {i : Nat} (hi : i < n) {s : List UInt8} (hs : s.length = 48) : Dk (w.setCells S (i * 48) (sec s)) d S M n (fun j => if j = i then s else safe j) wn well := by
  have hT : Turn [S] w (w.setCells S (i * 48) (sec s)) := Turn.setCells w (by simp) _ _
  refine ⟨h.head.turn hT (by simpa using h.dS), ?_, h.map.of_block (hT.block _ h.map.lt (by simpa using h.SM.symm)), fun j hj => ?_, h.wlen, h.n1, h.n2, h.w1, h.w2⟩
  · obtain ⟨C, h1, h2, h3⟩ := h.rows
    refine ⟨_, h1.setCells (sec s) (i * 48), by rw [over_size]; exact h2, fun j hj k v hv => ?_⟩
    rw [over_get _ _ _ (by rw [sec_length]; omega), sec_length, hs]
    have hk : k < 48 := by
      have := (List.getElem?_eq_some_iff.1 hv).1
      rw [sec_length] at this
      by_cases e : j = i
      · simp only [e, if_true] at this; omega
      · simp only [e, if_false] at this; have := h.len j hj; omega
    by_cases e : j = i
    · subst e
      simp only [if_true] at hv
      rw [if_pos (by omega), show j * 48 + k - j * 48 = k by omega]
      exact hv
    · simp only [e, if_false] at hv
      rw [if_neg (by omega)]
      exact h3 j hj k v hv
  · by_cases e : j = i
    · simp [e, hs]
    · simp [e, h.len j hj]
theorem Dk.there (h : Dk w d S M n safe wn well) {i : Nat} (hi : i < n) : w.there S (i * 48) 48 := by
  obtain ⟨C, h1, h2, h3⟩ := h.rows
  intro j hj
  refine ⟨?_, h1.free _⟩
  rw [h1.at_, Array.getElem?_eq_getElem (by omega)]
  rfl
theorem Dk.synced_len (h : Dk w d S M n safe wn well) {i : Nat} (hi : i < n) : (synced safe wn i).length = 48 := by
  unfold synced
  cases e : wn i with
  | none => exact h.len i hi
  | some s => exact (h.wlen _ _ e).2.2
end

/-! ### the small calls -/
section
variable {w : World} {d S M n : Nat} {safe : Nat → List UInt8} {wn : Int → Option (List UInt8)} {well : Int}
theorem size_any (h : Dk w d S M n safe wn well) : Calls Try.prog 14 #[.pointer (some ⟨d, 0, none⟩)] w fun e w' => e = .returned (.int .i64 n) ∧ w = w' := by
  have c0 := h.head.at_ 0
  have hn : n ≤ 512 := h.n2
  have H := Lib.hid h
  clear h
  simp at c0
  go_enter Try.func14, Try.ntmps14
  go_wp2
  go_ret
  exact ⟨rfl, rfl⟩
theorem has_yes (h : Dk w d S M n safe wn well) {i : Int} (h0 : 0 ≤ i) (h1 : i < n) : Calls Try.prog 17 #[.pointer (some ⟨d, 0, none⟩), .int .i64 i] w fun e w' => e = .returned (.bool true) ∧ w = w' := by
  have d1 : decide (i < (n : Int)) = true := decide_eq_true h1
  have H := Lib.hid h
  clear h
  go_enter Try.func17, Try.ntmps17
  go_wp2_with fail
  refine (size_any H.out).mono ?_
  rintro e w' ⟨rfl, rfl⟩
  go_wp2
  go_ret
  exact ⟨rfl, rfl⟩
theorem has_no (h : Dk w d S M n safe wn well) {i : Int} (h1 : i < 0 ∨ (n : Int) ≤ i) : Calls Try.prog 17 #[.pointer (some ⟨d, 0, none⟩), .int .i64 i] w fun e w' => e = .returned (.bool false) ∧ w = w' := by
  by_cases h0 : i < 0
  · have d0 : decide (0 ≤ i) = false := decide_eq_false (by omega)
    clear h1
    go_enter Try.func17, Try.ntmps17
    go_wp2
    go_ret
    exact ⟨rfl, rfl⟩
  · have h2 : (n : Int) ≤ i := by omega
    have h3 : 0 ≤ i := by omega
    have d1 : decide (i < (n : Int)) = false := decide_eq_false (by omega)
    have H := Lib.hid h
    clear h h1 h0
    go_enter Try.func17, Try.ntmps17
    go_wp2_with fail
    refine (size_any H.out).mono ?_
    rintro e w' ⟨rfl, rfl⟩
    go_wp2
    go_ret
    exact ⟨rfl, rfl⟩
/-- what is left of well behind a call that counts -/
def dec (well : Int) : Int := if well < 0 then well else well - 1
theorem fails_no (h : Dk w d S M n safe wn well) (hw : well ≠ 0) : Calls Try.prog 15 #[.pointer (some ⟨d, 0, none⟩)] w fun e w' => e = .returned (.bool false) ∧ Dk w' d S M n safe wn (dec well) ∧ Turn [d] w w' ∧ w'.heap.size = w.heap.size := by
  have c2 := h.head.at_ 2
  have f2 := h.head.free 2
  simp at c2
  have b1 := h.w1
  have b2 := h.w2
  have H := Lib.hid h
  clear h
  by_cases h0 : well < 0
  · have E : Hid (dec well = well) := Lib.hid (by unfold dec; rw [if_pos h0])
    go_enter Try.func15, Try.ntmps15
    go_wp2
    go_ret
    exact ⟨rfl, by rw [E.out]; exact H.out, Turn.refl _ _, rfl⟩
  · have E : Hid (dec well = well - 1) := Lib.hid (by unfold dec; rw [if_neg h0])
    have h1 : 1 ≤ well := by omega
    clear h0 hw
    have h2 : ¬ well - 1 < 0 := by omega
    go_enter Try.func15, Try.ntmps15
    go_wp2
    go_ret
    exact ⟨rfl, by rw [E.out]; exact H.out.setWell (by omega) (by omega), Turn.setCell _ (by simp) _, by simp [World.setCell]⟩
theorem fails_yes (h : Dk w d S M n safe wn 0) : Calls Try.prog 15 #[.pointer (some ⟨d, 0, none⟩)] w fun e w' => e = .returned (.bool true) ∧ Dk w' d S M n safe wn (-1) ∧ Turn [d] w w' ∧ w'.heap.size = w.heap.size := by
  have c2 := h.head.at_ 2
  have f2 := h.head.free 2
  simp at c2
  have H := Lib.hid h
  clear h
  go_enter Try.func15, Try.ntmps15
  go_wp2
  go_ret
  exact ⟨rfl, H.out.setWell (by omega) (by omega), Turn.setCell _ (by simp) _, by simp [World.setCell]⟩
/-- what Fail leaves -/
def failAt (a : Int) : Int := if a < 0 then -1 else a
theorem fail_any (h : Dk w d S M n safe wn well) {a : Int} (ha : a ≤ 9223372036854775807) : Calls Try.prog 11 #[.pointer (some ⟨d, 0, none⟩), .int .i64 a] w fun e w' => e = .returned (.tuple #[]) ∧ Dk w' d S M n safe wn (failAt a) ∧ Turn [d] w w' ∧ w'.heap.size = w.heap.size := by
  have c2 := h.head.at_ 2
  have f2 := h.head.free 2
  simp at c2
  have H := Lib.hid h
  clear h
  by_cases hn : -1 ≤ a
  · have E : Hid (failAt a = a) := Lib.hid (by unfold failAt; split <;> omega)
    go_enter Try.func11, Try.ntmps11
    go_wp2
    go_end0
    exact ⟨rfl, by rw [E.out]; exact H.out.setWell hn ha, Turn.setCell _ (by simp) _, by simp [World.setCell]⟩
  · have E : Hid (failAt a = -1) := Lib.hid (by unfold failAt; split <;> omega)
    go_enter Try.func11, Try.ntmps11
    go_wp2
    go_end0
    exact ⟨rfl, by rw [E.out]; exact H.out.setWell (by omega) (by omega), Turn.setCell _ (by simp) _, by simp [World.setCell]⟩
end
end Go.Proofs.Ytnoolpgklenhaaa
