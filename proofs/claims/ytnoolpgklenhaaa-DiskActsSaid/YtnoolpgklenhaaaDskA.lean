/-
  DiskActs: what its slices and its map hold.
-/
import Derived.Test.YtnoolpgklenhaaaDskT
import Derived.Test.YtnoolpgklenhaaaDskSfW
import Derived.Deep.LoopGhost
import Derived.Deep.DeepCutAuto
namespace Go.Proofs.Ytnoolpgklenhaaa
open Go.RowKit

theorem string_parts : (Try.prog.info? 9).map (fun i => (i.zero, i.size, i.bytes)) = some (some (.string ⟨#[]⟩), 1, 16) := by kernel_rfl
/-- the string of bytes -/
def str (s : List UInt8) : Value := .string ⟨s.toArray⟩
/-- The n strings of a slice in block g. -/
def SL (u : World) (g n cap : Nat) (f : Nat → List UInt8) : Prop :=
  ∃ C, Blk 9 u g C ∧ C.size = cap ∧ n ≤ cap ∧ ∀ i, i < n → C[i]? = some (str (f i))
section
variable {u u' : World} {g n cap : Nat} {f : Nat → List UInt8}
theorem SL.lt (h : SL u g n cap f) : g < u.heap.size := by obtain ⟨C, h1, _⟩ := h; exact h1.lt
theorem SL.of_block (h : SL u g n cap f) (hb : u'.heap[g]? = u.heap[g]?) : SL u' g n cap f := by obtain ⟨C, h1, h2⟩ := h; exact ⟨C, hb.trans h1, h2⟩
theorem SL.held (h : SL u g n cap f) (hb : Below u.heap.size u u') : SL u' g n cap f := h.of_block (hb.block _ h.lt)
theorem SL.turn {L : List Nat} (h : SL u g n cap f) (t : Turn L u u') (hg : g ∉ L) : SL u' g n cap f := h.of_block (t.block _ h.lt hg)
theorem SL.drew (h : SL u g n cap f) : SL u.drew g n cap f := h
theorem SL.at_ (h : SL u g n cap f) {i : Nat} (hi : i < n) : u.cell? ⟨g, i, none⟩ = some (str (f i)) := by obtain ⟨C, h1, _, _, h2⟩ := h; rw [h1.at_]; exact h2 i hi
theorem SL.free (h : SL u g n cap f) (i : Nat) : u.frozen? ⟨g, i, none⟩ = false := by obtain ⟨C, h1, _⟩ := h; exact h1.free i
theorem SL.cap_le (h : SL u g n cap f) : n ≤ cap := by obtain ⟨C, _, _, h, _⟩ := h; exact h
theorem SL.store (h : SL u g n cap f) {i : Nat} (hi : i < n) (s : List UInt8) : SL (u.setCell ⟨g, i, none⟩ (str s)) g n cap (fun j => if j = i then s else f j) := by
  obtain ⟨C, h1, h2, h3, h4⟩ := h
  refine ⟨_, h1.store i (str s), by simpa using h2, h3, fun j hj => ?_⟩
  rw [Array.getElem?_setIfInBounds]
  by_cases e : i = j
  · subst e; rw [if_pos rfl, if_pos (by omega)]; simp
  · have e2 : ¬ j = i := fun h => e h.symm
    simp only [e, e2, if_false]; exact h4 j hj
theorem SL.congr (h : SL u g n cap f) {f' : Nat → List UInt8} (he : ∀ i, i < n → f' i = f i) : SL u g n cap f' := by
  obtain ⟨C, h1, h2, h3, h4⟩ := h
  exact ⟨C, h1, h2, h3, fun i hi => by rw [he i hi]; exact h4 i hi⟩
end
/-- what the loop of appends leaves -/
theorem SL_of_owns {u : World} {base n : Nat} {v : Value} {s : List UInt8} (h : u.ownsRow base 9 1 v n (List.replicate n (str s))) (hn : 1 ≤ n) : ∃ g cap, v = .slice (some ⟨g, 0, none⟩) n cap ∧ base ≤ g ∧ SL u g n cap (fun _ => s) := by
  rcases h.2 with ⟨_, h0⟩ | ⟨g, cap, cur, rfl, hb, hg, h1, h2, h3, h4⟩
  · omega
  · refine ⟨g, cap, rfl, hb, cur, hg, by omega, h1, fun i hi => ?_⟩
    have e : (cur.toList.take (n * 1))[i]? = some (str s) := by rw [h4, List.getElem?_replicate, if_pos hi]
    rw [Nat.mul_one, List.getElem?_take, if_pos hi] at e
    simpa using e

/-- copy of one slice's strings onto another's -/
theorem SL_copy {u : World} {gd gs n cd cs : Nat} {f f' : Nat → List UInt8} (hd : SL u gd n cd f) (hs : SL u gs n cs f') (ty : TypeId) :
    ∃ u', (Builtin.copy_ #[27, 27] ty #[.slice (some ⟨gd, 0, none⟩) n cd, .slice (some ⟨gs, 0, none⟩) n cs]).run Try.prog u = .ok (.int .i64 (n : Int)) u' ∧ SL u' gd n cd f' ∧ Turn [gd] u u' := by
  obtain ⟨C, h1, h2, h3, h4⟩ := hd
  have hrun := run_copy_row (P := Try.prog) u 27 27 ty 9 gd 0 n cd ⟨gs, 0, none⟩ n cs C 9 ((List.range n).map fun i => str (f' i)) (by kernel_rfl) (by kernel_rfl) h1 (by simp)
    (fun j v hv => by
      rw [List.getElem?_map] at hv
      by_cases hj : j < n
      · rw [List.getElem?_range hj] at hv
        simp at hv
        rw [Addr.add_mid, Nat.zero_add, hs.at_ hj, hv]
      · rw [List.getElem?_eq_none (by simp; omega)] at hv
        simp at hv) (by simp; omega) (fun v hv => by
      obtain ⟨i, _, rfl⟩ := List.mem_map.1 hv
      rfl)
  have e1 : ((List.range n).map fun i => str (f' i)).length = n := by simp
  rw [e1] at hrun
  generalize hR : (C.toList.take 0 ++ ((List.range n).map fun i => str (f' i)) ++ C.toList.drop (0 + n)).toArray = R at hrun
  have hRs : R.size = cd := by rw [← hR]; simp; omega
  have hRg : ∀ i, i < n → R[i]? = some (str (f' i)) := fun i hi => by
    rw [← hR]
    simp only [List.take_zero, List.nil_append, List.getElem?_toArray]
    rw [List.getElem?_append_left (by simpa using hi)]
    simp [hi]
  exact ⟨_, hrun, ⟨R, setRow_heap u gd _ _ _ _ h1, hRs, h3, hRg⟩, ⟨rfl, rfl, rfl, by simp [World.setRow], fun i _ hn => setRow_other u gd i _ (by simpa using hn)⟩⟩

/-- how many sectors DiskActs takes -/
def nOf (z : Int) : Nat := 1 + (z % 18446744073709551616 % 12).toNat
theorem nOf_le (z : Int) : 1 ≤ nOf z ∧ nOf z ≤ 12 := by unfold nOf; omega
theorem wrap64_in {x : Int} (h1 : -9223372036854775808 ≤ x) (h2 : x ≤ 9223372036854775807) : wrap64 x = x := by
  unfold wrap64
  omega
theorem n_eq (z : Int) : wrap64 (1 + wrap64 ((IntKind.u64.wrap z).tmod 12)) = (nOf z : Int) := by
  have h : IntKind.u64.wrap z = z % 18446744073709551616 := by simp [IntKind.wrap, IntKind.bits, IntKind.signed]
  rw [h, Int.tmod_eq_emod_of_nonneg (by omega)]
  have h1 : 0 ≤ z % 18446744073709551616 % 12 := by omega
  have h2 : z % 18446744073709551616 % 12 < 12 := by omega
  rw [wrap64_in (x := z % 18446744073709551616 % 12) (by omega) (by omega), wrap64_in (by omega) (by omega)]
  unfold nOf
  omega

theorem grown_of_below {u u' : World} (h : Below u.heap.size u u') : u.grownBy u' none := ⟨h.os, h.tape, h.output, h.size, fun k hk _ => h.block k hk⟩
theorem Dk.grown {u u' : World} {d S M n base : Nat} {safe : Nat → List UInt8} {wn : Int → Option (List UInt8)} {well : Int} {row : Option Nat} (h : Dk u d S M n safe wn well) (hg : u.grownBy u' row) (hr : ∀ k, row = some k → base ≤ k) (hb : d < base ∧ S < base ∧ M < base) : Dk u' d S M n safe wn well :=
  h.of_blocks (hg.block _ h.head.lt (fun e => by have := hr _ e.symm; omega)) (hg.block _ h.ltS (fun e => by have := hr _ e.symm; omega)) (hg.block _ h.map.lt (fun e => by have := hr _ e.symm; omega))
theorem own_below {u u' : World} {base : Nat} {e : TypeId} {size : Nat} {v : Value} {n : Nat} {xs : List Value} (h : u.ownsRow base e size v n xs) (hb : Below u.heap.size u u') : u'.ownsRow base e size v n xs := by
  refine h.kept (grown_of_below hb) ?_
  cases v.ownBlock with
  | none => exact .inl rfl
  | some k => exact .inr (by simp)
theorem one_new (u : World) (t : TypeId) (x : Value) : ∀ j v, [x][j]? = some v → (u.alloc (.cells #[x] t)).cell? ((⟨u.heap.size, 0, none⟩ : Addr).add j) = some v := by
  intro j v hv
  rw [Addr.add_mid, Nat.zero_add, (Blk.new u t #[x]).at_ j]
  simpa using hv
theorem own_shape {u : World} {base : Nat} {e : TypeId} {size : Nat} {v : Value} {n : Nat} {xs : List Value} (h : u.ownsRow base e size v n xs) : ∃ A c, v = .slice A n c := by
  rcases h.2 with ⟨rfl, rfl⟩ | ⟨g, cap, cur, rfl, _⟩
  · exact ⟨_, _, rfl⟩
  · exact ⟨_, _, rfl⟩
/-- one more string is appended to the one slice; the other, and the disk, stay -/
theorem grow_one {w u1 u3 u4 : World} {base d S M n k kB : Nat} {vA vB v' : Value} {x : Value} (ownA : u1.ownsRow base 9 1 vA k (List.replicate k x)) (ownB : u1.ownsRow base 9 1 vB kB (List.replicate kB x)) (hne : vA.ownBlock ≠ vB.ownBlock)
    (hD : Dk u1 d S M n (fun _ => full 0) (fun _ => none) (-1)) (hb : Below w.heap.size w u1) (hbs : base ≤ u1.heap.size) (hw : w.heap.size ≤ base) (hlt : d < base ∧ S < base ∧ M < base)
    (h13 : Below u1.heap.size u1 u3) (hown' : u4.ownsRow base 9 1 v' (k + 1) (List.replicate k x ++ [x])) (hg : u3.grownBy u4 vA.ownBlock) (hat : v'.ownBlock = vA.ownBlock ∨ v'.ownBlock = some u3.heap.size) :
    u4.ownsRow base 9 1 v' (k + 1) (List.replicate (k + 1) x) ∧ u4.ownsRow base 9 1 vB kB (List.replicate kB x) ∧ v'.ownBlock ≠ vB.ownBlock ∧ Dk u4 d S M n (fun _ => full 0) (fun _ => none) (-1) ∧ Below w.heap.size w u4 ∧ base ≤ u4.heap.size := by
  have hA := ownA.lt
  have hB := ownB.lt
  refine ⟨by rw [List.replicate_succ']; exact hown', (own_below ownB h13).kept hg (.inr (fun e => hne e.symm)), ?_, ?_, ?_, Nat.le_trans hbs (Nat.le_trans h13.size hg.size)⟩
  · rcases hat with h | h
    · rw [h]; exact hne
    · rw [h]; intro e
      have := (hB _ e.symm).2
      have := h13.size
      omega
  · exact (hD.held h13).grown hg (fun k hk => (hA k hk).1) hlt
  · exact (next hb h13).trans ⟨hg.os, hg.tape, hg.output, hg.size, fun i hi => hg.block i (by have := hb.size; have := h13.size; omega) (fun e => by have := (hA _ e.symm).1; omega)⟩

/-- how the loop of appends stands -/
def Grow (w : World) (base d S M n : Nat) (v6 v7 i : Value) (u : World) : Prop :=
  ∃ (k : Nat) (A6 A7 : Option Addr) (c6 c7 : Nat), k ≤ n ∧ i = .int .i64 k ∧ v6 = .slice A6 k c6 ∧ v7 = .slice A7 k c7 ∧
    u.ownsRow base 9 1 (.slice A6 k c6) k (List.replicate k (str (full 0))) ∧ u.ownsRow base 9 1 (.slice A7 k c7) k (List.replicate k (str (full 0))) ∧
    (Value.slice A6 k c6).ownBlock ≠ (Value.slice A7 k c7).ownBlock ∧ Dk u d S M n (fun _ => full 0) (fun _ => none) (-1) ∧ Below w.heap.size w u ∧ base ≤ u.heap.size

/-! ### the acts -/
/-- something that is done -/
structure Ac where
  kind : Int
  I : Int
  C : UInt8
  odd : Bool
  pA : Option Addr
  pcap : Nat
  ps : List Pk
theorem add_field (a : Addr) (i f : Nat) : a.add (i + (f + 1)) = ⟨(a.add i).block, (a.add i).off + (f + 1), none⟩ := by
  rw [← Deep.add_add]
  rfl
/-- A slice of just these acts. -/
def ActsAt (u : World) (A : Option Addr) (acs : List Ac) : Prop :=
  ∀ j a, acs[j]? = some a → (-9223372036854775808 ≤ a.I ∧ a.I ≤ 9223372036854775807) ∧ a.ps.length ≤ a.pcap ∧ a.pcap ≤ 9223372036854775807 ∧ PicksAt u a.pA a.ps ∧ ∃ ad, A = some ad ∧ u.cell? (ad.add (j * 5)) = some (.int .i64 a.kind) ∧
    u.cell? (ad.add (j * 5 + 1)) = some (.int .i64 a.I) ∧ u.cell? (ad.add (j * 5 + 2)) = some (.int .u8 (a.C.toNat : Int)) ∧ u.cell? (ad.add (j * 5 + 3)) = some (.bool a.odd) ∧ u.cell? (ad.add (j * 5 + 4)) = some (.slice a.pA a.ps.length a.pcap)
theorem ActsAt.held {u u' : World} {A : Option Addr} {acs : List Ac} (h : ActsAt u A acs) (hb : Below u.heap.size u u') : ActsAt u' A acs := by
  intro j a ha
  obtain ⟨h1, h2, h3, h4, ad, e, c0, c1, c2, c3, c4⟩ := h j a ha
  exact ⟨h1, h2, h3, h4.held hb, ad, e, Go.Proofs.Ytnoolpgklenhaaa.held hb c0, Go.Proofs.Ytnoolpgklenhaaa.held hb c1, Go.Proofs.Ytnoolpgklenhaaa.held hb c2, Go.Proofs.Ytnoolpgklenhaaa.held hb c3, Go.Proofs.Ytnoolpgklenhaaa.held hb c4⟩
theorem PicksAt.lt {u : World} {A : Option Addr} {ps : List Pk} (h : PicksAt u A ps) : ps = [] ∨ ∀ a, A = some a → a.block < u.heap.size := by
  cases ps with
  | nil => exact .inl rfl
  | cons p r =>
    refine .inr (fun a e => ?_)
    obtain ⟨_, ad, e', c0, _, _⟩ := h 0 p rfl
    rw [e] at e'
    cases e'
    have := cell_lt c0
    rwa [add_block] at this

/-- how DiskActs stands between acts -/
structure St (w u : World) (d S M n g6 c6 g7 c7 B : Nat) (sd : Nat → List UInt8) (wn : Int → Option (List UInt8)) (left : Int) : Prop where
  disk : Dk u d S M n sd wn left
  s6 : SL u g6 n c6 sd
  s7 : SL u g7 n c7 (synced sd wn)
  dirty : Mp Try.prog 3 u B (fun z => (wn z).map fun _ => .bool true)
  below : Below w.heap.size w u
  ne : g6 ≠ g7
  n6 : g6 ∉ [d, S, M]
  n7 : g7 ∉ [d, S, M]
  nB : B ∉ [d, S, M]
  lo : w.heap.size ≤ d ∧ w.heap.size ≤ S ∧ w.heap.size ≤ M ∧ w.heap.size ≤ g6 ∧ w.heap.size ≤ g7 ∧ w.heap.size ≤ B
section
variable {w u u' : World} {d S M n g6 c6 g7 c7 B : Nat} {sd : Nat → List UInt8} {wn : Int → Option (List UInt8)} {left : Int}
theorem St.held (h : St w u d S M n g6 c6 g7 c7 B sd wn left) (hb : Below u.heap.size u u') : St w u' d S M n g6 c6 g7 c7 B sd wn left :=
  ⟨h.disk.held hb, h.s6.held hb, h.s7.held hb, h.dirty.of_block (hb.block _ h.dirty.lt), next h.below hb, h.ne, h.n6, h.n7, h.nB, h.lo⟩
theorem St.drew (h : St w u d S M n g6 c6 g7 c7 B sd wn left) : St w u.drew d S M n g6 c6 g7 c7 B sd wn left :=
  ⟨h.disk.drew, h.s6.drew, h.s7.drew, h.dirty.of_block rfl, h.below.drew, h.ne, h.n6, h.n7, h.nB, h.lo⟩
theorem St.B6 (h : St w u d S M n g6 c6 g7 c7 B sd wn left) : B ≠ g6 := by
  intro e
  obtain ⟨es, c, h1⟩ := h.dirty.isMap
  obtain ⟨C, h3, _⟩ := h.s6
  unfold Blk at h3
  rw [← e, h1] at h3
  simp at h3
theorem St.B7 (h : St w u d S M n g6 c6 g7 c7 B sd wn left) : B ≠ g7 := by
  intro e
  obtain ⟨es, c, h1⟩ := h.dirty.isMap
  obtain ⟨C, h3, _⟩ := h.s7
  unfold Blk at h3
  rw [← e, h1] at h3
  simp at h3
/-- the disk alone has turned -/
theorem St.turn (h : St w u d S M n g6 c6 g7 c7 B sd wn left) (t : Turn [d, S, M] u u') : SL u' g6 n c6 sd ∧ SL u' g7 n c7 (synced sd wn) ∧ Mp Try.prog 3 u' B (fun z => (wn z).map fun _ => .bool true) ∧ Below w.heap.size w u' :=
  ⟨h.s6.turn t h.n6, h.s7.turn t h.n7, h.dirty.of_block (t.block _ h.dirty.lt h.nB), h.below.trans (t.below (mem3 ⟨h.lo.1, h.lo.2.1, h.lo.2.2.1⟩) h.below.size)⟩
end
section
variable {w u u' : World} {d S M n g6 c6 g7 c7 B : Nat} {sd : Nat → List UInt8} {wn : Int → Option (List UInt8)} {left : Int}
/-- a call of the disk that leaves its sectors -/
theorem St.same (h : St w u d S M n g6 c6 g7 c7 B sd wn left) {left' : Int} (hD : Dk u' d S M n sd wn left') (t : Turn [d, S, M] u u') : St w u' d S M n g6 c6 g7 c7 B sd wn left' := by
  obtain ⟨a6, a7, aB, ab⟩ := h.turn t
  exact ⟨hD, a6, a7, aB, ab, h.ne, h.n6, h.n7, h.nB, h.lo⟩
/-- a sector is written, and noted -/
theorem St.wrote (h : St w u d S M n g6 c6 g7 c7 B sd wn left) {u3 : World} {m : Nat} {s : List UInt8} {left' : Int} (hD : Dk u3 d S M n sd (upd wn m s) left') (hT : Turn [d, M] u u3) (hm : m < n) :
    SL u3 g7 n c7 (synced sd wn) ∧ ∃ u5, (Instr.mapUpdate 30 (.map (some B)) (.int .i64 (m : Int)) (.bool true)).run Try.prog (u3.setCell ⟨g7, m, none⟩ (.string ⟨s.toArray⟩)) = .ok () u5 ∧ St w u5 d S M n g6 c6 g7 c7 B sd (upd wn m s) left' := by
  obtain ⟨a6, a7, aB, ab⟩ := h.turn (hT.mono (by simp))
  refine ⟨a7, ?_⟩
  have hn := hD.n2
  have t4 : Turn [g7] u3 (u3.setCell ⟨g7, m, none⟩ (.string ⟨s.toArray⟩)) := Turn.setCell _ (by simp) _
  have b7 := a7.store hm s
  have a1 := h.n6
  have a2 := h.n7
  have a3 := h.nB
  simp only [List.mem_cons, List.not_mem_nil, or_false, not_or] at a1 a2 a3
  have ne := h.ne
  have b6' := h.B6
  have b7' := h.B7
  obtain ⟨u5, hrun, hM5, hg5, -⟩ := (aB.of_block (t4.block _ aB.lt (by simpa using b7'))).store (t := 30) (e := 4) (by kernel_rfl) (by kernel_rfl) (N := 512) (by unfold maxLen; omega) (fun z hz => by
    simp only [Option.isSome_map] at hz
    obtain ⟨x, hx⟩ := Option.isSome_iff_exists.1 hz
    have := h.disk.wlen z x hx
    omega) (i := (m : Int)) (int_wf (by omega) (by omega)) (.bool true)
  have t5 : Turn [B] (u3.setCell ⟨g7, m, none⟩ (.string ⟨s.toArray⟩)) u5 := Turn.of_grown hg5 (by simp)
  refine ⟨u5, hrun, (hD.turn t4 (by simp; omega) (by simp; omega) (by simp; omega)).turn t5 (by simp; omega) (by simp; omega) (by simp; omega), (a6.turn t4 (by simpa using ne)).turn t5 (by simpa using b6'.symm), (SL.turn b7 t5 (by simpa using b7'.symm)).congr (fun i _ => ?_), ?_, (ab.trans (t4.below (by simp; have := h.lo; omega) ab.size)).trans (t5.below (by simp; have := h.lo; omega) (by have := ab.size; have := t4.size; omega)), ne, h.n6, h.n7, h.nB, h.lo⟩
  · unfold synced
    by_cases e : i = m
    · subst e; rw [upd_same]; simp
    · rw [upd_other _ (by omega)]; simp [e]
  · have e : (fun z => (upd wn m s z).map fun _ => Value.bool true) = upd (fun z => (wn z).map fun _ => Value.bool true) m (.bool true) := by
      funext z
      by_cases e : z = m
      · subst e; simp [upd_same]
      · simp [upd_other _ e]
    rw [e]; exact hM5
/-- all is safe: the one slice is the other, and no sector is noted -/
theorem St.anew (h : St w u d S M n g6 c6 g7 c7 B sd wn left) {u2 u3 : World} {sd' : Nat → List UInt8} {left' : Int} (hD : Dk u2 d S M n sd' (fun _ => none) left') (hb2 : Below w.heap.size w u2) (h6 : SL u3 g6 n c6 sd') (h7 : SL u3 g7 n c7 sd') (t3 : Turn [g6, g7] u2 u3) :
    St w (u3.alloc (.map #[] 0)) d S M n g6 c6 g7 c7 u3.heap.size sd' (fun _ => none) left' := by
  have hN := below_new u3 (.map #[] 0)
  have a1 := h.n6
  have a2 := h.n7
  simp only [List.mem_cons, List.not_mem_nil, or_false, not_or] at a1 a2
  have hD3 := hD.turn t3 (by simp; omega) (by simp; omega) (by simp; omega)
  have hb3 : Below w.heap.size w u3 := hb2.trans (t3.below (by simp; have := h.lo; omega) hb2.size)
  have h1 := hD3.head.lt
  have h2 := hD3.ltS
  have h3 := hD3.map.lt
  have h4 := hb3.size
  exact ⟨hD3.held hN, h6.held hN, h7.held hN, Mp.new u3, next hb3 hN, h.ne, h.n6, h.n7, by simp; omega, by have := h.lo; omega⟩
end
/-- how the statement's own crash stands, behind the disk's; f6: what its first slice holds -/
structure Cr (w u : World) (d S M n g6 c6 g7 c7 B ga : Nat) (blk : Array Value) (sd : Nat → List UInt8) (wn : Int → Option (List UInt8)) (pA : Option Addr) (ps : List Pk) (f6 : Nat → List UInt8) : Prop where
  disk : Dk u d S M n (crashed sd wn ps) (fun _ => none) (-1)
  s6 : SL u g6 n c6 f6
  s7 : SL u g7 n c7 (synced sd wn)
  dirty : Mp Try.prog 3 u B (fun z => (wn z).map fun _ => .bool true)
  below : Below w.heap.size w u
  blk_ : Blk 33 u ga blk
  picks : PicksAt u pA ps
theorem unsafeBelow_le (wn : Int → Option (List UInt8)) : ∀ i, unsafeBelow wn i ≤ i
  | 0 => Nat.le_refl _
  | i + 1 => by have := unsafeBelow_le wn i; unfold unsafeBelow; split <;> omega
section
variable {w u u' : World} {d S M n g6 c6 g7 c7 B ga : Nat} {blk : Array Value} {sd : Nat → List UInt8} {wn : Int → Option (List UInt8)} {pA : Option Addr} {ps : List Pk} {i : Nat} {f6 : Nat → List UInt8}
theorem Cr.held (h : Cr w u d S M n g6 c6 g7 c7 B ga blk sd wn pA ps f6) (hb : Below u.heap.size u u') : Cr w u' d S M n g6 c6 g7 c7 B ga blk sd wn pA ps f6 :=
  ⟨h.disk.held hb, h.s6.held hb, h.s7.held hb, h.dirty.of_block (hb.block _ h.dirty.lt), next h.below hb, h.blk_.held hb, h.picks.held hb⟩
theorem Cr.drew (h : Cr w u d S M n g6 c6 g7 c7 B ga blk sd wn pA ps f6) : Cr w u.drew d S M n g6 c6 g7 c7 B ga blk sd wn pA ps f6 :=
  ⟨h.disk.drew, h.s6.drew, h.s7.drew, h.dirty.of_block rfl, h.below.drew, h.blk_.drew, fun j p hp => h.picks j p hp⟩
theorem Cr.congr (h : Cr w u d S M n g6 c6 g7 c7 B ga blk sd wn pA ps f6) {f : Nat → List UInt8} (he : ∀ j, j < n → f j = f6 j) : Cr w u d S M n g6 c6 g7 c7 B ga blk sd wn pA ps f :=
  ⟨h.disk, h.s6.congr he, h.s7, h.dirty, h.below, h.blk_, h.picks⟩
/-- the sector stays as it was -/
theorem Cr.next_same (h : Cr w u d S M n g6 c6 g7 c7 B ga blk sd wn pA ps (crashing sd wn ps i)) (hc : crashed sd wn ps i = sd i) : Cr w u d S M n g6 c6 g7 c7 B ga blk sd wn pA ps (crashing sd wn ps (i + 1)) :=
  h.congr (fun j _ => by
    rw [crashing_some, hc]
    by_cases e : j = i
    · subst e; simp [crashing_at]
    · simp [e])
/-- another string for sector i -/
theorem Cr.put (h : Cr w u d S M n g6 c6 g7 c7 B ga blk sd wn pA ps f6) (hi : i < n) (hn : g6 ∉ [d, S, M, g7, ga] ∧ B ≠ g6 ∧ w.heap.size ≤ g6) (hpA : ps = [] ∨ ∀ a, pA = some a → a.block < w.heap.size) (s : List UInt8) :
    Cr w (u.setCell ⟨g6, i, none⟩ (.string ⟨s.toArray⟩)) d S M n g6 c6 g7 c7 B ga blk sd wn pA ps (fun j => if j = i then s else f6 j) := by
  have t : Turn [g6] u (u.setCell ⟨g6, i, none⟩ (.string ⟨s.toArray⟩)) := Turn.setCell _ (by simp) _
  obtain ⟨h6, h6B, hw6⟩ := hn
  simp only [List.mem_cons, List.not_mem_nil, or_false, not_or] at h6
  refine ⟨h.disk.turn t (by simp; omega) (by simp; omega) (by simp; omega), h.s6.store hi s, h.s7.turn t (by simp; omega), h.dirty.of_block (t.block _ h.dirty.lt (by simpa using h6B)), h.below.trans (t.below (by simp; omega) h.below.size), h.blk_.turn t (by simp; omega), ?_⟩
  rcases hpA with rfl | hpA
  · exact PicksAt.nil
  · exact h.picks.turn t (fun a e => by have := hpA a e; simp; omega)
/-- .. and it is what a crash leaves there -/
theorem Cr.done (h : Cr w u d S M n g6 c6 g7 c7 B ga blk sd wn pA ps f6) {s : List UInt8} (hf : ∀ j, f6 j = if j = i then s else crashing sd wn ps i j) (hc : crashed sd wn ps i = s) : Cr w u d S M n g6 c6 g7 c7 B ga blk sd wn pA ps (crashing sd wn ps (i + 1)) :=
  h.congr (fun j _ => by rw [crashing_some, hc, hf j])
end
/-- how DiskActs' loop stands -/
def Acts (w : World) (d S M n g6 c6 g7 c7 : Nat) (s9 s10 : Value) (u : World) : Prop :=
  ∃ (B : Nat) (sd : Nat → List UInt8) (wn : Int → Option (List UInt8)) (left : Int), s9 = .map (some B) ∧ s10 = .int .i64 left ∧ St w u d S M n g6 c6 g7 c7 B sd wn left
end Go.Proofs.Ytnoolpgklenhaaa
