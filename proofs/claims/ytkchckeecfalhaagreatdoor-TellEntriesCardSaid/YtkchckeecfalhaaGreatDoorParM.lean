/-
  Plain mathematics of a prefix that is told as a text: its five numbers. No program in sight.
-/
import Derived.Test.YtkchckeecfalhaaGreatDoorAddrM
import Derived.Test.YtkchckeecfalhaaGreatDoorNumM
import Derived.Test.YtkchckeecfalhaaGreatDoorCutM
namespace Go.Proofs.YtkchckeecfalhaaGreatDoor.Pm

def mark (k : Nat) : UInt8 := if k = 3 then 47 else 46
def rest (l : List UInt8) : Nat → List UInt8
  | 0 => l
  | k + 1 => Cm.post (mark k) (rest l k)
def head (l : List UInt8) (k : Nat) : List UInt8 := Cm.pre (mark k) (rest l k)
def addr (l : List UInt8) : Nat → Nat
  | 0 => 0
  | k + 1 => addr l k * 256 + Nm.val (head l k)
/-- the first k of the four numbers are told right -/
def okTo (l : List UInt8) : Nat → Bool
  | 0 => true
  | k + 1 => okTo l k && Nm.ok (head l k) 255
def four (l : List UInt8) : Bool := okTo l 4
def len (l : List UInt8) : Nat := Nm.val (rest l 4)
def ok (l : List UInt8) : Bool := okTo l 4 && Nm.ok (rest l 4) 32 && Am.right (addr l 4) (len l)
theorem ok_val {l : List UInt8} {m : Nat} (h : Nm.ok l m = true) : Nm.val l ≤ m := by
  unfold Nm.ok at h
  simp only [Bool.and_eq_true, decide_eq_true_eq] at h
  exact h.2
theorem addr_lt (l : List UInt8) : ∀ k, okTo l k = true → addr l k < 256 ^ k
  | 0, _ => by show 0 < 256 ^ 0; decide
  | k + 1, h => by
    unfold okTo at h
    rw [Bool.and_eq_true] at h
    have h1 := addr_lt l k h.1
    have h2 := ok_val h.2
    show addr l k * 256 + _ < _
    rw [Nat.pow_succ]
    omega
theorem okTo_no {l : List UInt8} {k j : Nat} (h : okTo l k = false) (hj : k ≤ j) : okTo l j = false := by
  induction hj with
  | refl => exact h
  | step _ ih => unfold okTo; rw [ih]; rfl
theorem okTo_stop {l : List UInt8} {k : Nat} (hk : k < 4) (h : Nm.ok (head l k) 255 = false) : ok l = false := by
  have h1 : okTo l (k + 1) = false := by unfold okTo; rw [h, Bool.and_false]
  unfold ok
  rw [okTo_no h1 (by omega)]
  rfl
end Go.Proofs.YtkchckeecfalhaaGreatDoor.Pm
