/-
  Plain mathematics of a text that is cut at a letter. No program in sight.
-/
import Derived.Lib.Bytealg
namespace Go.Proofs.YtkchckeecfalhaaGreatDoor.Cm
open Go.Lib

def pre (c : UInt8) (l : List UInt8) : List UInt8 := l.takeWhile (fun b => !(b == c))
def post (c : UInt8) (l : List UInt8) : List UInt8 := (l.dropWhile (fun b => !(b == c))).tail
theorem cut_none {c : UInt8} : ∀ {l : List UInt8}, indexByte l c = -1 → pre c l = l ∧ post c l = []
  | [], _ => ⟨rfl, rfl⟩
  | b :: l, h => by
    unfold indexByte at h
    by_cases hb : (b == c) = true
    · rw [if_pos hb] at h; omega
    · rw [if_neg hb] at h
      have hb' : (b == c) = false := by simpa using hb
      have hl : indexByte l c = -1 := by
        by_cases hh : (indexByte l c == -1) = true
        · simpa using hh
        · rw [if_neg hh] at h
          have := indexByte_ge l c
          omega
      have ih := cut_none hl
      unfold pre post at *
      rw [List.takeWhile_cons, List.dropWhile_cons, hb']
      simp only [Bool.not_false, if_true]
      exact ⟨by rw [ih.1], ih.2⟩
theorem cut_some {c : UInt8} : ∀ {l : List UInt8} {o : Nat}, indexByte l c = o → pre c l = l.take o ∧ post c l = l.drop (o + 1) ∧ o < l.length
  | [], o, h => by unfold indexByte at h; omega
  | b :: l, o, h => by
    unfold indexByte at h
    by_cases hb : (b == c) = true
    · rw [if_pos hb] at h
      obtain rfl : o = 0 := by omega
      unfold pre post
      rw [List.takeWhile_cons, List.dropWhile_cons, hb]
      simp
    · rw [if_neg hb] at h
      have hb' : (b == c) = false := by simpa using hb
      by_cases hh : (indexByte l c == -1) = true
      · rw [if_pos hh] at h; omega
      · rw [if_neg hh] at h
        have := indexByte_ge l c
        have hne : indexByte l c ≠ -1 := fun e => hh (beq_iff_eq.2 e)
        cases o with
        | zero => omega
        | succ o =>
          have ih := cut_some (l := l) (c := c) (o := o) (by omega)
          unfold pre post at *
          rw [List.takeWhile_cons, List.dropWhile_cons, hb']
          simp only [Bool.not_false, if_true, List.take_succ_cons, List.drop_succ_cons, List.length_cons]
          exact ⟨by rw [ih.1], ih.2.1, by omega⟩
end Go.Proofs.YtkchckeecfalhaaGreatDoor.Cm
