/-
  Package state: a state in memory, and the contracts of its small calls.
-/
import Derived.Test.YtncliolkdkofhaaTurn
import Derived.Test.YtncliolkdkofhaaStK
import Derived.Test.YtncliolkdkofhaaDistC
import Derived.Carry
import Derived.BigRegion
namespace Go.Proofs.Ytncliolkdkofhaa
open Go.RowKit

def ownV (b : Bool) : Value := .agg #[.bool b]
def dV (d : Nat × Nat) : Value := .agg #[.int .u32 d.1, .int .u16 d.2]
/-- a map that there may be: r, its block -/
def Mo {P : Program} {k : TypeId} {α : Type} (E : Ke P k α) (w : World) (r : Option Nat) (n : Nat) (f : α → Option Value) : Prop :=
  match r with
  | none => n = 0 ∧ ∀ x, f x = none
  | some b => Mk E w b n f
section
variable {P : Program} {k t e : TypeId} {α : Type} {E : Ke P k α} {w w' : World} {r : Option Nat} {n : Nat} {f : α → Option Value}
theorem Mo.of_block (h : Mo E w r n f) (hb : ∀ b, r = some b → w'.heap[b]? = w.heap[b]?) : Mo E w' r n f := by
  cases r with
  | none => exact h
  | some b => exact Mk.of_block h (hb b rfl)
theorem Mo.lt (h : Mo E w r n f) {b : Nat} (hb : r = some b) : b < w.heap.size := by subst hb; exact Mk.lt h
theorem Mo.isMap (h : Mo E w r n f) {b : Nat} (hb : r = some b) : ∃ es clock, w.heap[b]? = some (.map es clock) := by subst hb; exact Mk.isMap h
theorem Mo.look_ok (h : Mo E w r n f) (ht : P.underlying t = some (.map k e)) {z : Value} (hz : ∀ w, (zeroValue e).run P w = .ok z w) {i : α} (hw : E.ok i) :
    (Instr.lookup t (.map r) (E.enc i) true).run P w = .ok (.tuple #[(f i).getD z, .bool (f i).isSome]) w := by
  cases r with
  | none =>
    rw [look_ok_nil ht (hz w) hw, h.2 i]
    rfl
  | some b => exact Mk.look_ok h ht (hz w) hw
end

/-- The state whose struct lies in block d, its maps in o and fl: what it says. -/
structure St (w : World) (d : Nat) (o fl : Option Nat) (id lease n m : Nat) (own : Pk → Option Bool) (floor : Ky → Option (Nat × Nat)) : Prop where
  head : Blk 58 w d #[.int .u32 id, .int .u32 lease, .map o, .map fl]
  owns : Mo pkE w o n (fun x => (own x).map ownV)
  floors : Mo kyE w fl m (fun x => (floor x).map dV)
  apart : ∀ a b, o = some a → fl = some b → a ≠ b
  small : ∀ k f, floor k = some f → f.1 < 4294967296 ∧ f.2 < 65536
  lease_lt : lease < 4294967296
  counts : n + m ≤ 100000
/-- the blocks of a state -/
def fp (d : Nat) (o fl : Option Nat) : List Nat := d :: (o.toList ++ fl.toList)
theorem mem_fp {d : Nat} {o fl : Option Nat} {x : Nat} : x ∈ fp d o fl ↔ x = d ∨ o = some x ∨ fl = some x := by
  cases o <;> cases fl <;> simp [fp, eq_comm]
section
variable {w w' : World} {d : Nat} {o fl : Option Nat} {id lease n m : Nat} {own : Pk → Option Bool} {floor : Ky → Option (Nat × Nat)}
theorem St.turn {L : List Nat} (h : St w d o fl id lease n m own floor) (t : Turn L w w') (hL : ∀ x, x ∈ fp d o fl → x ∉ L) : St w' d o fl id lease n m own floor :=
  ⟨h.head.turn t (hL _ (mem_fp.2 (.inl rfl))), h.owns.of_block (fun b hb => t.block b (h.owns.lt hb) (hL _ (mem_fp.2 (.inr (.inl hb))))), h.floors.of_block (fun b hb => t.block b (h.floors.lt hb) (hL _ (mem_fp.2 (.inr (.inr hb))))), h.apart, h.small, h.lease_lt, h.counts⟩
theorem St.held (h : St w d o fl id lease n m own floor) (hb : Below w.heap.size w w') : St w' d o fl id lease n m own floor := h.turn (L := []) (.of_below _ hb) (by simp)
theorem St.drew (h : St w d o fl id lease n m own floor) : St w.drew d o fl id lease n m own floor := ⟨h.head, h.owns.of_block (fun _ _ => rfl), h.floors.of_block (fun _ _ => rfl), h.apart, h.small, h.lease_lt, h.counts⟩
theorem St.lt (h : St w d o fl id lease n m own floor) {x : Nat} (hx : x ∈ fp d o fl) : x < w.heap.size := by
  rcases mem_fp.1 hx with rfl | h1 | h1
  · exact h.head.lt
  · exact h.owns.lt h1
  · exact h.floors.lt h1
theorem St.head_ne (h : St w d o fl id lease n m own floor) {b : Nat} (hb : o = some b ∨ fl = some b) : d ≠ b := by
  intro e
  have h1 := h.head
  unfold Blk at h1
  rcases hb with hb | hb
  · obtain ⟨es, c, h2⟩ := h.owns.isMap hb
    rw [e, h2] at h1
    cases h1
  · obtain ⟨es, c, h2⟩ := h.floors.isMap hb
    rw [e, h2] at h1
    cases h1
end

theorem zero_dist (w : World) : (zeroValue 35).run Try.prog w = .ok (.agg #[.int .u32 0, .int .u16 0]) w := by kernel_rfl
theorem zero_own (w : World) : (zeroValue 61).run Try.prog w = .ok (.agg #[.bool false]) w := by kernel_rfl

/-! ### New, ID, Lease -/
theorem new_any (id : Nat) (w : World) : Calls Try.prog 7 #[.int .u32 id] w fun e w' =>
    e = .returned (.pointer (some ⟨w.heap.size, 0, none⟩)) ∧ St w' w.heap.size none none id 0 0 0 (fun _ => none) (fun _ => none) ∧ Below w.heap.size w w' := by
  go_enter Try.func7, Try.ntmps7
  go_wp2
  go_ret
  exact ⟨rfl, ⟨Blk.new w _ _, ⟨rfl, fun _ => rfl⟩, ⟨rfl, fun _ => rfl⟩, by simp, by simp, by omega, by omega⟩, below_new _ _⟩
section
variable {w : World} {d : Nat} {o fl : Option Nat} {id lease n m : Nat} {own : Pk → Option Bool} {floor : Ky → Option (Nat × Nat)}
theorem lease_any (h : St w d o fl id lease n m own floor) : Calls Try.prog 24 #[.pointer (some ⟨d, 0, none⟩)] w fun e w' => e = .returned (.int .u32 lease) ∧ w = w' := by
  have c1 : w.cell? ⟨d, 1, none⟩ = some (.int .u32 lease) := h.head.at_ 1
  clear h
  go_enter Try.func24, Try.ntmps24
  go_wp2
  go_ret
  exact ⟨rfl, rfl⟩

/-- is a distance better than a floor? -/
def bet (f : Option (Nat × Nat)) (s m : Nat) : Bool := match f with | none => true | some g => decide (0 < dcmp s m g.1 g.2)

set_option maxHeartbeats 1000000 in
theorem betters_any (h : St w d o fl id lease n m own floor) (k : Ky) (hk : k.ok) (s x : Nat) :
    Calls Try.prog 20 #[.pointer (some ⟨d, 0, none⟩), k.enc, .agg #[.int .u32 s, .int .u16 x]] w fun e w' => e = .returned (.bool (bet (floor k) s x)) ∧ Below w.heap.size w w' := by
  have hlook : ∀ w', Below w.heap.size w w' → (Instr.lookup 49 (.map fl) k.enc true).run Try.prog w' = .ok (.tuple #[((floor k).map dV).getD (.agg #[.int .u32 0, .int .u16 0]), .bool (floor k).isSome]) w' := fun w' hb => by
    have h2 := (h.held hb).floors.look_ok (t := 49) (e := 35) (by kernel_rfl) zero_dist (i := k) hk
    rw [show ((floor k).map dV).isSome = (floor k).isSome by cases floor k <;> rfl] at h2
    exact h2
  have hd := h.head
  have hsm : ∀ f, floor k = some f → f.1 < 4294967296 ∧ f.2 < 65536 := h.small k
  clear h
  obtain ⟨ka, kn, kid⟩ := k
  show Calls _ _ #[_, .agg #[.int .u32 ka, .int .i64 kn, .int .u32 kid], _] _ _
  change ∀ w', Below w.heap.size w w' → (Instr.lookup _ (.map fl) (.agg #[.int .u32 ka, .int .i64 kn, .int .u32 kid]) true).run Try.prog w' = _ at hlook
  cases hf : floor ⟨ka, kn, kid⟩ with
  | none =>
    rw [hf] at hlook
    have hlook : ∀ w', Below w.heap.size w w' → (Instr.lookup 49 (.map fl) (.agg #[.int .u32 ka, .int .i64 kn, .int .u32 kid]) true).run Try.prog w' = .ok (.tuple #[.agg #[.int .u32 0, .int .u16 0], .bool false]) w' := hlook
    clear hsm
    go_enter Try.func20, Try.ntmps20
    go_wp2_with fail
    have c3 : w.cell? ⟨d, 3, none⟩ = some (.map fl) := hd.at_ 3
    have dl : d < w.heap.size := hd.lt
    clear hd
    have B2 : ∀ A B : Obj, Below w.heap.size w ((w.alloc A).alloc B) := fun A B => next (below_new _ _) (below_new _ _)
    have B3 : ∀ A B C : Obj, Below w.heap.size w (((w.alloc A).alloc B).alloc C) := fun A B C => next (B2 _ _) (below_new _ _)
    have l1 := hlook (((w.alloc (.cells #[.int .u32 ka, .int .i64 kn, .int .u32 kid] 45)).alloc (.cells #[.int .u32 s, .int .u16 x] 35)).drew) (B2 _ _).drew
    have l2 := hlook ((((w.alloc (.cells #[.int .u32 ka, .int .i64 kn, .int .u32 kid] 45)).alloc (.cells #[.int .u32 s, .int .u16 x] 35)).alloc (.cells #[.int .u32 0, .int .u16 0] 35)).drew) (B3 _ _ _).drew
    have k2 := held (B2 (.cells #[.int .u32 ka, .int .i64 kn, .int .u32 kid] 45) (.cells #[.int .u32 s, .int .u16 x] 35)) c3
    have k3 := held (B3 (.cells #[.int .u32 ka, .int .i64 kn, .int .u32 kid] 45) (.cells #[.int .u32 s, .int .u16 x] 35) (.cells #[.int .u32 0, .int .u16 0] 35)) c3
    clear hlook hf
    go_region
    all_goals
      go_wp2_with fail
      go_ret
      exact ⟨rfl, (B3 _ _ _).drew⟩
  | some f =>
    obtain ⟨fs, fm⟩ := f
    obtain ⟨hfs, hfm⟩ := hsm _ hf
    rw [hf] at hlook
    have hlook : ∀ w', Below w.heap.size w w' → (Instr.lookup 49 (.map fl) (.agg #[.int .u32 ka, .int .i64 kn, .int .u32 kid]) true).run Try.prog w' = .ok (.tuple #[.agg #[.int .u32 fs, .int .u16 fm], .bool true]) w' := hlook
    go_enter Try.func20, Try.ntmps20
    go_wp2_with fail
    have c3 : w.cell? ⟨d, 3, none⟩ = some (.map fl) := hd.at_ 3
    have dl : d < w.heap.size := hd.lt
    clear hd
    have B2 : ∀ A B : Obj, Below w.heap.size w ((w.alloc A).alloc B) := fun A B => next (below_new _ _) (below_new _ _)
    have B3 : ∀ A B C : Obj, Below w.heap.size w (((w.alloc A).alloc B).alloc C) := fun A B C => next (B2 _ _) (below_new _ _)
    have l1 := hlook (((w.alloc (.cells #[.int .u32 ka, .int .i64 kn, .int .u32 kid] 45)).alloc (.cells #[.int .u32 s, .int .u16 x] 35)).drew) (B2 _ _).drew
    have l2 := hlook ((((w.alloc (.cells #[.int .u32 ka, .int .i64 kn, .int .u32 kid] 45)).alloc (.cells #[.int .u32 s, .int .u16 x] 35)).alloc (.cells #[.int .u32 0, .int .u16 0] 35)).drew) (B3 _ _ _).drew
    have k2 := held (B2 (.cells #[.int .u32 ka, .int .i64 kn, .int .u32 kid] 45) (.cells #[.int .u32 s, .int .u16 x] 35)) c3
    have k3 := held (B3 (.cells #[.int .u32 ka, .int .i64 kn, .int .u32 kid] 45) (.cells #[.int .u32 s, .int .u16 x] 35) (.cells #[.int .u32 0, .int .u16 0] 35)) c3
    clear hlook hf
    generalize hr : dcmp (s : Int) x fs fm = r
    go_region
    all_goals
      go_wp2_with fail
      refine (dist_cmp_eq hr _).mono ?_
      rintro e w' ⟨rfl, hb⟩
      have hB := next (B3 _ _ _).drew hb
      clear hb l1 l2 k2 k3 c3
      go_wp2_with fail
      go_ret
      exact ⟨by rw [← hr]; rfl, hB⟩

/-- what Feasible and Covers answer -/
def fea (f : Option (Nat × Nat)) (s x : Nat) : Bool := (x == 65535) || bet f s x
def cov (f : Option (Nat × Nat)) (s x : Nat) : Bool := (x == 65535) || !bet f s x

theorem betters_eq (h : St w d o fl id lease n m own floor) (k : Ky) (hk : k.ok) (s x : Nat) {r : Bool} (hr : bet (floor k) s x = r) {ka : Nat} {kn : Int} {kid : Nat} (e : k = ⟨ka, kn, kid⟩) :
    Calls Try.prog 20 #[.pointer (some ⟨d, 0, none⟩), .agg #[.int .u32 ka, .int .i64 kn, .int .u32 kid], .agg #[.int .u32 s, .int .u16 x]] w fun e w' => e = .returned (.bool r) ∧ Below w.heap.size w w' := by
  subst hr e
  exact betters_any h _ hk s x

set_option maxHeartbeats 1000000 in
theorem feasible_any (h : St w d o fl id lease n m own floor) (k : Ky) (hk : k.ok) (s x : Nat) :
    Calls Try.prog 17 #[.pointer (some ⟨d, 0, none⟩), k.enc, .agg #[.int .u32 s, .int .u16 x]] w fun e w' => e = .returned (.bool (fea (floor k) s x)) ∧ Below w.heap.size w w' := by
  have hB : ∀ w', Below w.heap.size w w' → ∀ {r : Bool}, bet (floor k) s x = r → ∀ {ka : Nat} {kn : Int} {kid : Nat}, k = ⟨ka, kn, kid⟩ → _ := fun w' hb r hr ka kn kid e => betters_eq (h.held hb) k hk s x hr e
  have hs : ∀ b, bet (floor k) s x = b → fea (floor k) s x = ((x == 65535) || b) := fun b e => by unfold fea; rw [e]
  clear h
  obtain ⟨ka, kn, kid⟩ := k
  show Calls _ _ #[_, .agg #[.int .u32 ka, .int .i64 kn, .int .u32 kid], _] _ _
  generalize bet (floor ⟨ka, kn, kid⟩) s x = r at *
  have hs := Lib.hid (hs r rfl)
  generalize fea (floor ⟨ka, kn, kid⟩) s x = R at *
  have B2 : ∀ A B : Obj, Below w.heap.size w ((w.alloc A).alloc B) := fun A B => next (below_new _ _) (below_new _ _)
  cases hx : ((x : Int) == 65535) with
  | true =>
    go_enter Try.func17, Try.ntmps17
    go_wp2_with fail
    refine (lost_eq hx _).mono ?_
    rintro e w' ⟨rfl, hb⟩
    have hb' := next (B2 _ _) hb
    clear hb
    go_wp2_with fail
    go_ret
    refine ⟨?_, hb'⟩
    have hx2 : (x == 65535) = true := by have := eq_of_beq hx; exact beq_iff_eq.2 (by omega)
    rw [hs.out, hx2]
    rfl
  | false =>
    go_enter Try.func17, Try.ntmps17
    go_wp2_with fail
    refine (lost_eq hx _).mono ?_
    rintro e w' ⟨rfl, hb⟩
    have hb' := next (B2 _ _) hb
    have K := ((Blk.new w 45 #[.int .u32 ka, .int .i64 kn, .int .u32 kid]).more (.cells #[.int .u32 s, .int .u16 x] 35)).held hb
    have D := (Blk.new (w.alloc (.cells #[.int .u32 ka, .int .i64 kn, .int .u32 kid] 45)) 35 #[.int .u32 s, .int .u16 x]).held hb
    rw [size_new] at D
    have k0 := K.at_ 0
    have k1 := K.at_ 1
    have k2 := K.at_ 2
    have d0 := D.at_ 0
    have d1 := D.at_ 1
    clear hb K D
    go_wp2_with fail
    refine (hB _ (by assumption) rfl rfl).mono ?_
    rintro e w3 ⟨rfl, hb⟩
    have hb3 := next hb' hb
    clear hb hb' k0 k1 k2 d0 d1
    go_wp2_with fail
    go_ret
    refine ⟨?_, hb3⟩
    have hx2 : (x == 65535) = false := by have := ne_of_beq_false hx; exact beq_eq_false_iff_ne.2 (by omega)
    rw [hs.out, hx2]
    cases r <;> rfl
set_option maxHeartbeats 1000000 in
theorem covers_any (h : St w d o fl id lease n m own floor) (k : Ky) (hk : k.ok) (s x : Nat) :
    Calls Try.prog 18 #[.pointer (some ⟨d, 0, none⟩), k.enc, .agg #[.int .u32 s, .int .u16 x]] w fun e w' => e = .returned (.bool (cov (floor k) s x)) ∧ Below w.heap.size w w' := by
  have hB : ∀ w', Below w.heap.size w w' → ∀ {r : Bool}, bet (floor k) s x = r → ∀ {ka : Nat} {kn : Int} {kid : Nat}, k = ⟨ka, kn, kid⟩ → _ := fun w' hb r hr ka kn kid e => betters_eq (h.held hb) k hk s x hr e
  have hs : ∀ b, bet (floor k) s x = b → cov (floor k) s x = ((x == 65535) || !b) := fun b e => by unfold cov; rw [e]
  clear h
  obtain ⟨ka, kn, kid⟩ := k
  show Calls _ _ #[_, .agg #[.int .u32 ka, .int .i64 kn, .int .u32 kid], _] _ _
  generalize bet (floor ⟨ka, kn, kid⟩) s x = r at *
  have hs := Lib.hid (hs r rfl)
  generalize cov (floor ⟨ka, kn, kid⟩) s x = R at *
  have B2 : ∀ A B : Obj, Below w.heap.size w ((w.alloc A).alloc B) := fun A B => next (below_new _ _) (below_new _ _)
  cases hx : ((x : Int) == 65535) with
  | true =>
    go_enter Try.func18, Try.ntmps18
    go_wp2_with fail
    refine (lost_eq hx _).mono ?_
    rintro e w' ⟨rfl, hb⟩
    have hb' := next (B2 _ _) hb
    clear hb
    go_wp2_with fail
    go_ret
    refine ⟨?_, hb'⟩
    have hx2 : (x == 65535) = true := by have := eq_of_beq hx; exact beq_iff_eq.2 (by omega)
    rw [hs.out, hx2]
    rfl
  | false =>
    go_enter Try.func18, Try.ntmps18
    go_wp2_with fail
    refine (lost_eq hx _).mono ?_
    rintro e w' ⟨rfl, hb⟩
    have hb' := next (B2 _ _) hb
    have K := ((Blk.new w 45 #[.int .u32 ka, .int .i64 kn, .int .u32 kid]).more (.cells #[.int .u32 s, .int .u16 x] 35)).held hb
    have D := (Blk.new (w.alloc (.cells #[.int .u32 ka, .int .i64 kn, .int .u32 kid] 45)) 35 #[.int .u32 s, .int .u16 x]).held hb
    rw [size_new] at D
    have k0 := K.at_ 0
    have k1 := K.at_ 1
    have k2 := K.at_ 2
    have d0 := D.at_ 0
    have d1 := D.at_ 1
    clear hb K D
    go_wp2_with fail
    refine (hB _ (by assumption) rfl rfl).mono ?_
    rintro e w3 ⟨rfl, hb⟩
    have hb3 := next hb' hb
    clear hb hb' k0 k1 k2 d0 d1
    go_wp2_with fail
    go_ret
    refine ⟨?_, hb3⟩
    have hx2 : (x == 65535) = false := by have := ne_of_beq_false hx; exact beq_eq_false_iff_ne.2 (by omega)
    rw [hs.out, hx2]
    cases r <;> rfl
end
end Go.Proofs.Ytncliolkdkofhaa
