/-
  The contracts of package rec's put and get, of bytes.Equal, and of the statement's four.
-/
import Derived.Test.YtbjminjcccflcaaSumV
import Derived.Test.YtbjminjcccflcaaTurn
import Derived.Test.YtbjminjcccflcaaRecM
import Derived.Laws.BytesArg
namespace Go.Proofs.Ytbjminjcccflcaa
open Go.RowKit Rm

/-- bytes as cells -/
def cell (c : Nat) : Value := .int .u8 (c : Int)
def cls (b : List Nat) : Array Value := (b.map cell).toArray
/-- bytes as a string's -/
def toU (b : List Nat) : List UInt8 := b.map UInt8.ofNat
theorem toU_length (b : List Nat) : (toU b).length = b.length := by simp [toU]
theorem toU_at {b : List Nat} (hb : ∀ c ∈ b, c < 256) {j : Nat} (hj : j < (toU b).length) : ((toU b)[j].toNat : Int) = ((b.getD j 0 : Nat) : Int) := by
  have hj' : j < b.length := by rw [toU_length] at hj; exact hj
  have h1 : b[j] < 256 := hb _ (List.getElem_mem hj')
  simp [toU, hj', Nat.mod_eq_of_lt h1]
theorem toU_inj {b c : List Nat} (hb : ∀ x ∈ b, x < 256) (hc : ∀ x ∈ c, x < 256) (h : toU b = toU c) : b = c := by
  induction b generalizing c with
  | nil => cases c <;> simp [toU] at h ⊢
  | cons x r ih =>
    cases c with
    | nil => simp [toU] at h
    | cons y r' =>
      simp only [toU, List.map_cons, List.cons.injEq] at h
      have e : x = y := by
        have := congrArg UInt8.toNat h.1
        simpa [Nat.mod_eq_of_lt (hb x (by simp)), Nat.mod_eq_of_lt (hc y (by simp))] using this
      rw [e, ih (fun z hz => hb z (by simp [hz])) (fun z hz => hc z (by simp [hz])) h.2]
theorem BytesAt.held {w w' : World} {A : Option Addr} {n : Nat} {bs : List Nat} (h : BytesAt w A n bs) (hb : Below w.heap.size w w') : BytesAt w' A n bs :=
  ⟨h.1, h.2.1, h.2.2.1, fun k hk => by
    obtain ⟨ad, e, hc⟩ := h.2.2.2 k hk
    exact ⟨ad, e, Go.Proofs.Ytbjminjcccflcaa.held hb hc⟩⟩
theorem BytesAt.of_blk {w : World} {g : Nat} {t : TypeId} {C : Array Value} (h : Blk t w g C) (bs : List Nat) (o n : Nat) (hn : n ≤ maxLen) (hl : bs.length = n) (hb : ∀ c ∈ bs, c < 256) (hC : ∀ k, k < n → C[o + k]? = some (cell (bs.getD k 0))) : BytesAt w (some ⟨g, o, none⟩) n bs :=
  ⟨hl, hn, hb, fun k hk => ⟨_, rfl, by rw [Addr.add_mid, h.at_ (o + k)]; exact hC k hk⟩⟩
theorem maxLen_small {n : Nat} (h : n ≤ 1000) : n ≤ maxLen := by unfold maxLen; omega
theorem cls_at (b : List Nat) (k : Nat) (hk : k < b.length) : (cls b)[k]? = some (cell (b.getD k 0)) := by simp [cls, hk]
theorem BytesAt.cls {w : World} {g : Nat} {t : TypeId} {b : List Nat} (h : Blk t w g (Go.Proofs.Ytbjminjcccflcaa.cls b)) (hb : ∀ c ∈ b, c < 256) (hl : b.length ≤ 1000) : BytesAt w (some ⟨g, 0, none⟩) b.length b :=
  .of_blk h b 0 b.length (maxLen_small hl) rfl hb (fun k hk => by rw [Nat.zero_add]; exact cls_at b k hk)

theorem conv_str {w : World} {A : Option Addr} {n cap : Nat} {bs : List Nat} (h : BytesAt w A n bs) : (convert 32 9 (.slice A n cap)).run Try.prog w = .ok (.string ⟨(toU bs).toArray⟩) w := by
  obtain ⟨hl, hm, hb, hc⟩ := h
  rcases Nat.eq_zero_or_pos n with rfl | h0
  · obtain rfl := List.length_eq_zero_iff.1 hl
    rw [run_convert_bytes_string w 32 9 5 A 0 cap (by kernel_rfl) (by kernel_rfl) (by kernel_rfl)]
    cases A <;> rfl
  · obtain ⟨ad, rfl, -⟩ := hc 0 h0
    have e : n = (toU bs).length := by rw [toU_length, hl]
    rw [e]
    refine run_convert_bytes_back (P := Try.prog) w 32 9 5 ad cap (toU bs) (by kernel_rfl) (by kernel_rfl) (by kernel_rfl) (fun j hj => ?_)
    obtain ⟨ad', e', h'⟩ := hc j (by omega)
    cases e'
    rw [h', toU_at hb hj]

theorem equal_any {w : World} {A A' : Option Addr} {n cap n' cap' : Nat} {x y : List Nat} (hx : BytesAt w A n x) (hy : BytesAt w A' n' y) :
    Calls Try.prog 22 #[.slice A n cap, .slice A' n' cap'] w fun e w' => e = .returned (.bool (decide (x = y))) ∧ w = w' := by
  have k1 := conv_str (cap := cap) hx
  have k2 := conv_str (cap := cap') hy
  have E : Hid (decide (toU x = toU y) = decide (x = y)) := Lib.hid (by rw [decide_eq_decide]; exact ⟨toU_inj hx.2.2.1 hy.2.2.1, fun h => by rw [h]⟩)
  clear hx hy
  go_enter Try.func22, Try.ntmps22
  go_wp2
  go_ret
  refine ⟨ret_bool ?_, rfl⟩
  rw [← E.out, Bool.eq_iff_iff]
  simp

theorem four_any (n : Nat) (hn : n < 4294967296) (w : World) :
    Calls Try.prog 11 #[.int .u32 n] w fun e w' => e = .returned (.slice (some ⟨w.heap.size, 0, none⟩) 4 4) ∧ w' = w.alloc (.cells (cls (four n)) 5) := by
  go_enter Try.func11, Try.ntmps11
  have E : Hid (cls (four n) = #[.int .u8 ((n : Int) / 16777216), .int .u8 ((n : Int) / 65536 % 256), .int .u8 ((n : Int) / 256 % 256), .int .u8 ((n : Int) % 256)]) := Lib.hid (by
    show #[cell (n / 16777216 % 256), cell (n / 65536 % 256), cell (n / 256 % 256), cell (n % 256)] = _
    unfold cell
    rw [show ((n / 16777216 % 256 : Nat) : Int) = (n : Int) / 16777216 by omega, show ((n / 65536 % 256 : Nat) : Int) = (n : Int) / 65536 % 256 by omega, show ((n / 256 % 256 : Nat) : Int) = (n : Int) / 256 % 256 by omega, show ((n % 256 : Nat) : Int) = (n : Int) % 256 by omega])
  go_wp2
  go_ret
  exact ⟨rfl, by rw [E.out]⟩

set_option maxHeartbeats 1000000 in
theorem put_four (g off cap : Nat) (v : Nat) (hv : v < 4294967296) (C : Array Value) (w : World) (h : Blk 5 w g C) (hs : off + 4 ≤ C.size) :
    Calls Try.prog 14 #[.slice (some ⟨g, off, none⟩) 4 cap, .int .u32 v] w fun e w' => e = .returned (.tuple #[]) ∧
      w' = (((w.setCell ⟨g, off, none⟩ (cell (v / 16777216 % 256))).setCell ⟨g, off + 1, none⟩ (cell (v / 65536 % 256))).setCell ⟨g, off + 2, none⟩ (cell (v / 256 % 256))).setCell ⟨g, off + 3, none⟩ (cell (v % 256)) := by
  have c0 : w.cell? ⟨g, off, none⟩ = some C[off] := (h.at_ off).trans (by simp)
  have c1 : w.cell? ⟨g, off + 1, none⟩ = some C[off + 1] := (h.at_ _).trans (by simp)
  have c2 : w.cell? ⟨g, off + 2, none⟩ = some C[off + 2] := (h.at_ _).trans (by simp)
  have c3 : w.cell? ⟨g, off + 3, none⟩ = some C[off + 3] := (h.at_ _).trans (by simp)
  have f0 := h.free off
  have f1 := h.free (off + 1)
  have f2 := h.free (off + 2)
  have f3 := h.free (off + 3)
  clear h
  generalize C[off] = v0 at *
  generalize C[off + 1] = v1 at *
  generalize C[off + 2] = v2 at *
  generalize C[off + 3] = v3 at *
  clear hs
  go_enter Try.func14, Try.ntmps14
  go_wp2
  refine wp_loop_rounds 5 ?_
  iterate 5
    rw [rounds_succ]
    go_wp2
  go_end0
  refine ⟨rfl, ?_⟩
  unfold cell
  rw [show ((v / 16777216 % 256 : Nat) : Int) = (v : Int) / 16777216 by omega, show ((v / 65536 % 256 : Nat) : Int) = (v : Int) / 65536 % 256 by omega, show ((v / 256 % 256 : Nat) : Int) = (v : Int) / 256 % 256 by omega, show ((v % 256 : Nat) : Int) = (v : Int) % 256 by omega]

set_option maxHeartbeats 1000000 in
theorem put_two (g off cap : Nat) (v : Nat) (hv : v < 65536) (C : Array Value) (w : World) (h : Blk 5 w g C) (hs : off + 2 ≤ C.size) :
    Calls Try.prog 14 #[.slice (some ⟨g, off, none⟩) 2 cap, .int .u32 v] w fun e w' => e = .returned (.tuple #[]) ∧
      w' = (w.setCell ⟨g, off, none⟩ (cell (v / 256 % 256))).setCell ⟨g, off + 1, none⟩ (cell (v % 256)) := by
  have c0 : w.cell? ⟨g, off, none⟩ = some C[off] := (h.at_ off).trans (by simp)
  have c1 : w.cell? ⟨g, off + 1, none⟩ = some C[off + 1] := (h.at_ _).trans (by simp)
  have f0 := h.free off
  have f1 := h.free (off + 1)
  clear h
  generalize C[off] = v0 at *
  generalize C[off + 1] = v1 at *
  clear hs
  go_enter Try.func14, Try.ntmps14
  go_wp2
  refine wp_loop_rounds 3 ?_
  iterate 3
    rw [rounds_succ]
    go_wp2
  go_end0
  refine ⟨rfl, ?_⟩
  unfold cell
  try rw [show ((v / 256 % 256 : Nat) : Int) = (v : Int) / 256 by omega, show ((v % 256 : Nat) : Int) = (v : Int) % 256 by omega]

/-! ### get -/
def val (b : List Nat) : Nat := b.foldl (fun s c => s * 256 + c) 0
theorem val_snoc (b : List Nat) (c : Nat) : val (b ++ [c]) = val b * 256 + c := by simp [val]
theorem val_lt : ∀ (k : Nat) (b : List Nat), b.length = k → (∀ c ∈ b, c < 256) → val b < 256 ^ k
  | 0, b, h, _ => by rw [List.length_eq_zero_iff.1 h]; simp [val]
  | k + 1, b, h, hb => by
    have hne : b ≠ [] := fun e => by rw [e] at h; simp at h
    have e := (List.dropLast_concat_getLast hne).symm
    have ih := val_lt k b.dropLast (by simp [h]) (fun c hc => hb c ((List.dropLast_sublist b).mem hc))
    have hc := hb _ (List.getLast_mem hne)
    rw [e, val_snoc, Nat.pow_succ]
    omega
theorem or_in (s c : Nat) (hs : s < 16777216) (hc : c < 256) : bits .or .u32 ((s : Int) * 256) (c : Int) = ((s * 256 + c : Nat) : Int) := by
  rw [show ((s : Int) * 256) = ((s * 256 : Nat) : Int) from by omega, u32_or_nat (s * 256) c (by omega) (by omega)]
  congr 1
  have h := Nat.two_pow_add_eq_or_of_lt (i := 8) (b := c) (by omega) s
  rw [show 2 ^ 8 * s = s * 256 by omega] at h
  exact h.symm
theorem pow_small {k : Nat} (hk : k ≤ 3) : 256 ^ k ≤ 16777216 := by
  have : k = 0 ∨ k = 1 ∨ k = 2 ∨ k = 3 := by omega
  rcases this with rfl | rfl | rfl | rfl <;> decide
set_option maxHeartbeats 400000 in
theorem get_any (A : Option Addr) (n cap : Nat) (bs : List Nat) (w : World) (h : BytesAt w A n bs) (hn : n ≤ 4) :
    Calls Try.prog 21 #[.slice A n cap] w fun e w' => e = .returned (.int .u32 (val bs : Nat)) ∧ w = w' := by
  have H := Lib.hid h
  clear h
  go_enter Try.func21, Try.ntmps21
  go_wp2
  go_loop [3, 8] (fun s i => ∃ k : Nat, k ≤ n ∧ i = .int .i64 k ∧ s = .int .u32 (val (bs.take k) : Nat)) (fun _ i => n - (intOf i).toNat)
  case atStart => exact ⟨0, by omega, rfl, rfl⟩
  case round =>
    obtain ⟨k, hk, rfl, rfl⟩ := hrel
    by_cases hlt : k < n
    · obtain ⟨ad, ha, hcell⟩ := H.out.2.2.2 k hlt
      have hc := H.out.lt k
      have hm : val (bs.take k) < 16777216 := Nat.lt_of_lt_of_le (val_lt k _ (by rw [List.length_take, H.out.1]; omega) (H.out.take_lt k)) (pow_small (by omega))
      have E : Hid (val (bs.take (k + 1)) = val (bs.take k) * 256 + bs.getD k 0) := Lib.hid (by rw [H.out.take_succ hlt, val_snoc])
      generalize val (bs.take k) = s at hm E ⊢
      generalize bs.getD k 0 = c at hc E hcell
      subst ha
      go_wp2
      go_round
      case rel => exact ⟨k + 1, by omega, by go_num, by rw [E.out, or_in s c hm hc]⟩
      case measure => simp [intOf]; omega
    · go_wp2
      go_ret
      obtain rfl : k = n := by omega
      exact ⟨ret_int (by rw [H.out.takeAll]), rfl⟩
end Go.Proofs.Ytbjminjcccflcaa
