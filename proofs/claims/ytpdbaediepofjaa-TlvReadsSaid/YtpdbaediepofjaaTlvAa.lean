/-
  What the statement's own reading of a datagram makes of a part: plain mathematics; its loop's body as a name.
-/
import Derived.Test.YtpdbaediepofjaaTlvV
import Derived.Deep.RegionHeld3
import Derived.Deep.Cut
import Derived.Deep.CutRange
import Derived.Deep.RegionWith
namespace Go.Proofs.Ytpdbaediepofjaa
open Go.RowKit Tm

/-! ### a region that draws its order, an operation at a time, each written out -/
section
variable {P : Program} {Q : Exit → Act → World → Prop} {md : Region.Mode} {S : World → Prop}
theorem list_at {α : Type} {l rest : List α} {i : Nat} {o : α} (h : l.drop i = o :: rest) : l.toArray[i]? = some o := by
  have e : (l.drop i)[0]? = some o := by rw [h]; rfl
  rw [List.getElem?_drop] at e
  simpa using e
theorem take_list {l rest : List Oper} {i : Nat} {oi : Oper} {v : Value} {fuel : Nat} {listed : Array Bool} {a : Act} {w : World} (hi : l.drop i = oi :: rest)
    (hs : Region.noSelect l.toArray = true) (hf : Region.free md l.toArray listed i = true) (hr : (Region.ready md l.toArray listed).contains i = true)
    (hQ : ∀ c a w, Q (.panic c) (a.put oi.dst v) w → Q (.panic c) a w) (hy : YieldsIf P l.toArray S oi v a) (hS : S w)
    (h : wpAnyH P md l.toArray Q S fuel (listed.setIfInBounds i true) (a.put oi.dst v) w) : wpAnyH P md l.toArray Q S (fuel + 1) listed a w :=
  wpAnyH_take (list_at hi) hs hf hr hQ hy hS h
theorem ready_list {l rest : List Oper} {fuel : Nat} {listed : Array Bool} {a : Act} {w : World} {i : Nat} {o : Oper} (ho : l.drop i = o :: rest) (hr : Region.ready md l.toArray listed = [i])
    (h : ∀ K' : Act → World → Prop, Shut (∀ a w, S w → (S w → wpAnyH P md l.toArray Q S fuel (listed.setIfInBounds i true) a w) → K' a w) → if Region.wanted o (yielded l.toArray a.tmps) = true then Oper.wp P o a w K' Q else K' (a.put o.dst undef) w) :
    wpAnyH P md l.toArray Q S (fuel + 1) listed a w :=
  wpAnyH_ready hr (by simp) (AllReadyH.cons (list_at ho) h AllReadyH.nil)
end
theorem drop_getD {bs : List Nat} (i j : Nat) : (bs.drop i).getD j 0 = bs.getD (i + j) 0 := by simp [List.getD]
theorem val_four_at {x : List Nat} {o : Nat} (h : o + 4 ≤ x.length) : val ((x.drop o).take 4) = x.getD o 0 * 16777216 + x.getD (o + 1) 0 * 65536 + x.getD (o + 2) 0 * 256 + x.getD (o + 3) 0 := by
  have e : (x.drop o).take 4 = [x.getD o 0, x.getD (o + 1) 0, x.getD (o + 2) 0, x.getD (o + 3) 0] := by
    apply List.ext_getElem
    · simp; omega
    · intro k h1 h2
      have hk : k = 0 ∨ k = 1 ∨ k = 2 ∨ k = 3 := by simp at h2; omega
      rcases hk with rfl | rfl | rfl | rfl <;> simp [List.getD, show o < x.length by omega, show o + 1 < x.length by omega, show o + 2 < x.length by omega, show o + 3 < x.length by omega]
  rw [e]
  simp [val]; omega
theorem val_two_at {x : List Nat} {o : Nat} (h : o + 2 ≤ x.length) : val ((x.drop o).take 2) = x.getD o 0 * 256 + x.getD (o + 1) 0 := by
  have e : (x.drop o).take 2 = [x.getD o 0, x.getD (o + 1) 0] := by
    apply List.ext_getElem
    · simp; omega
    · intro k h1 h2
      have hk : k = 0 ∨ k = 1 := by simp at h2; omega
      rcases hk with rfl | rfl <;> simp [List.getD, show o < x.length by omega, show o + 1 < x.length by omega]
  rw [e]
  simp [val]
/-- an address of which j bytes have been taken -/
def Tm.pad (x : List Nat) (j : Nat) : Nat := val ((x.take j ++ [0, 0, 0, 0]).take 4)
theorem pad_step (x : List Nat) (j : Nat) (hj : j < x.length) (h4 : x.length ≤ 4) : pad x (j + 1) = pad x j + x.getD j 0 * 256 ^ (3 - j) := by
  match x, hj, h4 with
  | [a], h, _ =>
    obtain rfl : j = 0 := by simpa using h
    simp [pad, val]; omega
  | [a, b], h, _ =>
    obtain rfl | rfl : j = 0 ∨ j = 1 := by simp at h; omega
    all_goals (simp [pad, val]; omega)
  | [a, b, c], h, _ =>
    obtain rfl | rfl | rfl : j = 0 ∨ j = 1 ∨ j = 2 := by simp at h; omega
    all_goals (simp [pad, val]; omega)
  | [a, b, c, d], h, _ =>
    obtain rfl | rfl | rfl | rfl : j = 0 ∨ j = 1 ∨ j = 2 ∨ j = 3 := by simp at h; omega
    all_goals (simp [pad, val]; try omega)
theorem pad_lt (x : List Nat) (j : Nat) (hx : ∀ c ∈ x, c < 256) : pad x j < 4294967296 :=
  val_lt 4 _ (by simp) (fun c hc => by
    rcases List.mem_append.1 (List.mem_of_mem_take hc) with h | h
    · exact hx c (List.mem_of_mem_take h)
    · simp at h; omega)
theorem ld_zero {bs : List Nat} {i id : Nat} (hi : i < bs.length) (h : bs.getD i 0 = 0) : walk id (bs.drop i) = walk id (bs.drop (i + 1)) := by
  rw [List.drop_eq_getElem_cons hi]
  have e : bs[i] = 0 := by simpa [List.getD, hi] using h
  rw [e, walk_zero]
theorem ld_short {bs : List Nat} {i id : Nat} (hi : i < bs.length) (h : bs.getD i 0 ≠ 0) (h2 : i + 1 = bs.length ∨ bs.length < i + 2 + bs.getD (i + 1) 0) : walk id (bs.drop i) = none := by
  have hd : (bs.drop i).length = bs.length - i := List.length_drop
  obtain ⟨m, hm⟩ : ∃ m, pb (bs.drop i) = (m, false) := by
    unfold pb
    rw [drop_getD, drop_getD, Nat.add_zero, if_neg h, hd]
    by_cases e : bs.length - i < 2
    · rw [if_pos e]; exact ⟨_, rfl⟩
    · rw [if_neg e, decide_eq_false (by omega)]; exact ⟨_, rfl⟩
  exact pb_false (by omega) hm
theorem ld_part {bs : List Nat} {i id m : Nat} (h : bs.getD i 0 ≠ 0) (hm : m = bs.getD (i + 1) 0) (h2 : i + 2 + m ≤ bs.length) :
    walk id (bs.drop i) = (walk (named (bs.getD i 0) ((bs.drop (i + 2)).take m) id) (bs.drop (i + 2 + m))).map (says (bs.getD i 0) ((bs.drop (i + 2)).take m) id ++ ·) := by
  have hd : (bs.drop i).length = bs.length - i := List.length_drop
  have hp : pb (bs.drop i) = (2 + m, true) := by
    unfold pb
    rw [drop_getD, drop_getD, Nat.add_zero, if_neg h, hd, if_neg (by omega), ← hm, decide_eq_true (by omega)]
  have := walk_pb (id := id) (by omega) hp
  rw [drop_getD, Nat.add_zero, List.drop_drop] at this
  have e : ((bs.drop i).take (2 + m)).drop 2 = (bs.drop (i + 2)).take m := by
    rw [List.drop_take, List.drop_drop, show 2 + m - 2 = m by omega]
  rw [e, ← Nat.add_assoc] at this
  exact this

/-- while the parts are gone through -/
def LdR (w : World) (D : Option (List Up)) (n : Nat) (bs : List Nat) (lv iv kv : Value) (wr : World) : Prop :=
  ∃ (us : List Up) (id i : Nat), iv = .int .u32 id ∧ kv = .int .i64 i ∧ id < 4294967296 ∧ i ≤ n ∧ Lv w.heap.size lv us wr ∧ D = (walk id (bs.drop i)).map (us ++ ·) ∧ Below w.heap.size w wr ∧ us.length + (n - i) ≤ 1024


/-- the body of a function's first loop -/
noncomputable def loopBody : Code → Option Code
  | .loop b => some b
  | .seq a b => match loopBody a with
    | some c => some c
    | none => loopBody b
  | .block _ b => loopBody b
  | _ => none
noncomputable def ldBody : Code := (Try.f14.body.bind loopBody).getD .skip
end Go.Proofs.Ytpdbaediepofjaa
