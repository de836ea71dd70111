/-
  A sort that keeps the order of equals: merging whole; sorting up to sixty entries.
-/
import Derived.Test.YtblhijgjidfioaaStbE
import Derived.Test.YtblhijgjidfioaaLayi
namespace Go.Proofs.Ytblhijgjidfioaa
open Go.RowKit Go.Lib Go.Sort Fm Sb

theorem sym_any {blk off cap sz : Nat} {d0 : Array De} {w0 : World} (R : RW w0 blk off d0) (hsz : sz < 4611686018427387904) : ∀ (N a m b : Nat) (d : Array De) (w : World), b - a ≤ N → d.size = d0.size → d.size = sz → SW w0 blk off d w → a < m → m < b → b ≤ d.size → Mer a m b d →
    Calls Try.prog 64 #[.slice (some ⟨blk, off, none⟩) sz cap, .int .i64 a, .int .i64 m, .int .i64 b, FV] w fun e w' => e = .returned (.tuple #[]) ∧ ∃ d', SW w0 blk off d' w' ∧ PermIn a b d d' ∧ Srt a b d' := by
  intro N
  induction N with
  | zero => intro a m b d w h1 _ _ _ h2 h3; omega
  | succ N ih =>
    intro a m b d w hN hs hz S ham hmb hb hM
    have hsz' : d.size < 4611686018427387904 := by omega
    by_cases h1 : m = a + 1
    · subst h1
      exact symA_any R hs hz S hb hmb hsz' hM
    · by_cases h2 : b = m + 1
      · subst h2
        exact symB_any R hs hz S hb (by omega) hsz' hM
      · have IH : SymIH b a blk off cap sz w0 d0 := fun a' m' b' d' w' k1 k2 k3 k4 k5 k6 k7 k8 => ih a' m' b' d' w' (by omega) k2 k3 k4 k5 k6 k7 k8
        by_cases h3 : m ≤ (a + b) / 2
        · exact symC2_any R hs hz S hb (by omega) (by omega) hsz' hM rfl h3 IH
        · exact symC1_any R hs hz S hb (by omega) (by omega) hsz' hM rfl (by omega) IH

theorem ins_any {blk off cap sz a b : Nat} {d0 d : Array De} {w0 w : World} (R : RW w0 blk off d0) (hs : d.size = d0.size) (hz : d.size = sz) (S : SW w0 blk off d w) (hab : a ≤ b) (hb : b ≤ d.size) (hsz : d.size < 4611686018427387904) (hi : ∀ p q, a ≤ p → p < q → q < b → d[p]!.i < d[q]!.i) :
    Calls Try.prog 63 #[.slice (some ⟨blk, off, none⟩) sz cap, .int .i64 a, .int .i64 b, FV] w fun e w' => e = .returned (.tuple #[]) ∧ ∃ d', SW w0 blk off d' w' ∧ PermIn a b d d' ∧ Srt a b d' := by
  subst hz
  have hI := ins_done hab hb hi
  refine (show Calls Try.prog 63 #[.slice (some ⟨blk, off, none⟩) d.size cap, .int .i64 a, .int .i64 b, .func (.func 38) #[] #[]] w fun e w' => e = .returned (.tuple #[]) ∧ ∃ n os, w' = sortWorldK dcl 4 w blk off n (Sort.insertionSort (ltOf cf) d a b) os from
    AnyQ.insertionSortCmpFunc Try.insE 4 (fun w => by kernel_rfl) (fun w => by kernel_rfl) dcl dcl_len dcl_one cf 38 #[] blk off cap a b d w (fun args w => by kernel_rfl) (cmpE_lays _ _ _ _) (S.holds R.hblk R.hH hs) (S.lt R.hblk) hab hb hsz).mono ?_
  rintro e w' ⟨he, n, os, hw⟩
  exact ⟨he, _, by rw [hw]; exact S.on R.hblk n _ os hI.1.1, hI.1, hI.2⟩
end Go.Proofs.Ytblhijgjidfioaa
