/-
  A sort that keeps the order of equals: its comparison.
-/
import Derived.Test.YtblhijgjidfioaaStbR
import Derived.Shelf.SlSortCmp.QuietGrown
namespace Go.Proofs.Ytblhijgjidfioaa
open Go.RowKit Go.Lib Go.Sort Fm Sb

set_option maxHeartbeats 400000 in
theorem cmpE_gr (x y : De) (w : World) :
    Calls Try.prog 38 #[.agg (dcl x).toArray, .agg (dcl y).toArray] w fun e w' => e = .returned (.int .i64 (cf x y)) ∧ Gr w w' := by
  obtain ⟨⟨a, n, h, k⟩, i⟩ := x
  obtain ⟨⟨b, m, h', k'⟩, i'⟩ := y
  have A := (Blk.new w 66 #[.int .u32 a, .int .i64 n, .int .i64 h, .int .i64 k]).more (.cells #[.int .u32 b, .int .i64 m, .int .i64 h', .int .i64 k'] 66)
  have B := Blk.new (w.alloc (.cells #[.int .u32 a, .int .i64 n, .int .i64 h, .int .i64 k] 66)) 66 #[.int .u32 b, .int .i64 m, .int .i64 h', .int .i64 k']
  rw [size_new] at B
  have HB := Lib.hid (two_gr w 66 66 #[.int .u32 a, .int .i64 n, .int .i64 h, .int .i64 k] #[.int .u32 b, .int .i64 m, .int .i64 h', .int .i64 k'])
  show Calls Try.prog 38 #[.agg #[.int .u32 a, .int .i64 n, .int .i64 h, .int .i64 k], .agg #[.int .u32 b, .int .i64 m, .int .i64 h', .int .i64 k']] w fun e w' => e = .returned (.int .i64 (Om.pcmp a n b m)) ∧ Gr w w'
  go_enter Try.func38, Try.ntmps38
  go_wp2_with fail
  have a0 := A.at_ 0
  have a1 := A.at_ 1
  have b0 := B.at_ 0
  have b1 := B.at_ 1
  generalize (w.alloc (.cells #[.int .u32 a, .int .i64 n, .int .i64 h, .int .i64 k] 66)).alloc (.cells #[.int .u32 b, .int .i64 m, .int .i64 h', .int .i64 k'] 66) = w2 at *
  clear A B
  go_wp2_with fail
  refine (cmpP_gr _ _ _ _ _).mono ?_
  rintro e w3 ⟨rfl, hg⟩
  have HG := Lib.hid (HB.out.trans hg)
  clear hg HB
  go_wp2_with fail
  go_ret
  exact ⟨rfl, HG.out⟩
theorem cmpE_lays (blk off size : Nat) (w : World) : CmpLays Try.prog 38 #[] dcl 4 cf blk off size w :=
  fun _ _ _ _ x y => (cmpE_gr x y _).mono fun _ _ ⟨he, q, os', hw⟩ => ⟨he, q, os', hw⟩
/-- entry i in every world that the comparison may leave -/
theorem grown_at {W w0 : World} {blk off : Nat} {d0 dk : Array De} (S : SW w0 blk off dk W) (R : RW w0 blk off d0) (hs : dk.size = d0.size) {i : Nat} (hi : i < dk.size) {x : De} (hx : dk[i]! = x) (n : Nat) (os : Array Obj) : At4 (grow (W.drewN n) os) blk (off + i * 4) x.e :=
  sw_at (S.grown n os) R hs hi hx
theorem half (i j : Nat) (h : i + j < 9223372036854775808) : IntKind.i64.wrap (IntKind.u64.wrap ((i : Int) + (j : Int)) / 2) = ((i + j) / 2 : Nat) := by
  have e : IntKind.u64.wrap ((i : Int) + (j : Int)) = (i : Int) + (j : Int) := by simp [IntKind.wrap, IntKind.bits, IntKind.signed]; omega
  rw [e, IntKind.wrap_i64]
  omega
/-! ### the ends of the two short ways -/
theorem symA_done {a i b : Nat} {d d' : Array De} (hM : Mer a (a + 1) b d) (hb : b ≤ d.size) (hi : a + 1 ≤ i) (hib : i ≤ b) (h1 : i = a + 1 ∨ Kl d[i - 1]! d[a]!) (h2 : i = b ∨ ¬ Kl d[i]! d[a]!) (hR : Rot a (a + 1) i d d') : PermIn a b d d' ∧ Srt a b d' := by
  have s := merge_step (mid := i - 1) hM hR (Nat.le_refl _) (by omega) hi hib hb (by omega) (.inl rfl) (by rcases h1 with h1 | h1; exact .inr (.inl h1); exact .inr (.inr h1))
  refine ⟨s.perm, s.l.r.glue (s.r.done ?_) s.lt⟩
  rcases h2 with h2 | h2
  · exact .inr (.inl h2)
  · refine .inr (.inr ?_)
    rw [hR.perm.2.1 i (.inr (Nat.le_refl _)), hR.snd (i - 1) (by omega) (by omega), show i - 1 - (i - (a + 1)) = a by omega]
    exact h2
theorem symB_done {a i m : Nat} {d d' : Array De} (hM : Mer a m (m + 1) d) (hb : m + 1 ≤ d.size) (hi : a ≤ i) (him : i ≤ m) (h1 : i = a ∨ ¬ Kl d[m]! d[i - 1]!) (h2 : i = m ∨ Kl d[m]! d[i]!) (hR : Rot i m (m + 1) d d') : PermIn a (m + 1) d d' ∧ Srt a (m + 1) d' := by
  have s := merge_step (mid := i + 1) hM hR hi him (by omega) (Nat.le_refl _) hb (by omega) (.inr (.inl rfl)) (by rcases h2 with h2 | h2; exact .inl h2; exact .inr (.inr (by rw [Nat.add_sub_cancel]; exact h2)))
  refine ⟨s.perm, (s.l.done ?_).glue s.r.l s.lt⟩
  rcases h1 with h1 | h1
  · exact .inl h1.symm
  · by_cases hia : a = i
    · exact .inl hia
    · refine .inr (.inr ?_)
      rw [hR.perm.2.1 (i - 1) (.inl (by omega)), hR.fst i (Nat.le_refl _) (by omega), show i + (m - i) = m by omega]
      exact h1
/-- an entry on its way up -/
structure Up (a i k : Nat) (d dk : Array De) : Prop where
  perm : PermIn a i d dk
  l : ∀ x, a ≤ x → x < k → dk[x]! = d[x + 1]!
  c : dk[k]! = d[a]!
  o : ∀ x, k < x → dk[x]! = d[x]!
theorem Up.start (a i : Nat) (d : Array De) : Up a i a d d := ⟨permIn_refl _ _ _, fun x h1 h2 => by omega, rfl, fun _ _ => rfl⟩
theorem Up.step {a i k : Nat} {d dk : Array De} (h : Up a i k d dk) (hk : a ≤ k) (hi : k + 1 < i) (hs : i ≤ d.size) : Up a i (k + 1) d (swp dk k (k + 1)) := by
  have e := h.perm.1
  refine ⟨permIn_trans _ _ _ _ _ h.perm (swp_permIn _ _ _ _ _ hk (by omega) (by omega) hi (by omega)), fun x h1 h2 => ?_, ?_, fun x h1 => ?_⟩
  · by_cases c : x = k
    · rw [c, swp_left dk _ _ (by omega) (by omega)]; exact h.o _ (by omega)
    · rw [swp_other dk _ _ x c (by omega)]; exact h.l x h1 (by omega)
  · rw [swp_right dk _ _ (by omega)]; exact h.c
  · rw [swp_other dk _ _ x (by omega) (by omega)]; exact h.o x (by omega)
theorem Up.done {a i : Nat} {d dk : Array De} (h : Up a i (i - 1) d dk) (hi : a + 1 ≤ i) : Rot a (a + 1) i d dk :=
  ⟨h.perm, fun x h1 h2 => by rw [h.l x h1 (by omega)]; congr 1; omega, fun x h1 h2 => by rw [show x = i - 1 by omega, h.c]; congr 1; omega⟩
/-- an entry on its way down -/
structure Dn (i m k : Nat) (d dk : Array De) : Prop where
  perm : PermIn i (m + 1) d dk
  r : ∀ x, k < x → x ≤ m → dk[x]! = d[x - 1]!
  c : dk[k]! = d[m]!
  o : ∀ x, x < k → dk[x]! = d[x]!
theorem Dn.start (i m : Nat) (d : Array De) : Dn i m m d d := ⟨permIn_refl _ _ _, fun x h1 h2 => by omega, rfl, fun _ _ => rfl⟩
theorem Dn.step {i m k : Nat} {d dk : Array De} (h : Dn i m (k + 1) d dk) (hk : i ≤ k) (hm : k + 1 ≤ m) (hs : m + 1 ≤ d.size) : Dn i m k d (swp dk (k + 1) k) := by
  have e := h.perm.1
  refine ⟨permIn_trans _ _ _ _ _ h.perm (swp_permIn _ _ _ _ _ (by omega) (by omega) (by omega) (by omega) (by omega)), fun x h1 h2 => ?_, ?_, fun x h1 => ?_⟩
  · by_cases c : x = k + 1
    · rw [c, swp_left dk _ _ (by omega) (by omega)]; exact h.o _ (by omega)
    · rw [swp_other dk _ _ x c (by omega)]; exact h.r x (by omega) h2
  · rw [swp_right dk _ _ (by omega)]; exact h.c
  · rw [swp_other dk _ _ x (by omega) (by omega)]; exact h.o x (by omega)
theorem Dn.done {i m : Nat} {d dk : Array De} (h : Dn i m i d dk) (him : i ≤ m) : Rot i m (m + 1) d dk :=
  ⟨h.perm, fun x h1 h2 => by rw [show x = i by omega, h.c]; congr 1; omega, fun x h1 h2 => by rw [h.r x (by omega) (by omega)]; congr 1; omega⟩
end Go.Proofs.Ytblhijgjidfioaa
