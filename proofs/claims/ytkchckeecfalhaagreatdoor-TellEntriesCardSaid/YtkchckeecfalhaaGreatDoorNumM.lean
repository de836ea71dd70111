/-
  Plain mathematics of numbers that are told in decimal digits. No program in sight.
-/
namespace Go.Proofs.YtkchckeecfalhaaGreatDoor.Nm

def digit (c : UInt8) : Bool := 48 ≤ c.toNat && c.toNat ≤ 57
def val (l : List UInt8) : Nat := l.foldl (fun n c => 10 * n + (c.toNat - 48)) 0
theorem val_snoc (l : List UInt8) (c : UInt8) : val (l ++ [c]) = 10 * val l + (c.toNat - 48) := by
  unfold val; rw [List.foldl_append]; rfl
theorem val_lt (l : List UInt8) (h : l.all digit = true) : val l < 10 ^ l.length := by
  rw [← List.reverse_reverse l] at h ⊢
  generalize l.reverse = r at *
  induction r with
  | nil => decide
  | cons c r ih =>
    rw [List.reverse_cons] at h ⊢
    rw [List.all_append, Bool.and_eq_true] at h
    have hc : digit c = true := by simpa using h.2
    have := ih h.1
    rw [val_snoc, List.length_append, List.length_cons, List.length_nil, Nat.pow_succ]
    unfold digit at hc
    simp only [Bool.and_eq_true, decide_eq_true_eq] at hc
    omega
/-- told as String tells a number: one to three digits, no nought ahead of others -/
def form (l : List UInt8) : Bool := decide (1 ≤ l.length) && decide (l.length ≤ 3) && !(decide (1 < l.length) && l.head? == some 48)
def ok (l : List UInt8) (most : Nat) : Bool := form l && l.all digit && decide (val l ≤ most)
def out (l : List UInt8) (most : Nat) : Nat := if ok l most then val l else 0
theorem ok_form {l : List UInt8} {most : Nat} (h : form l = false) : ok l most = false := by unfold ok; rw [h]; rfl
theorem ok_digit {l : List UInt8} {most : Nat} (h : l.all digit = false) : ok l most = false := by unfold ok; rw [h]; simp
theorem out_no {l : List UInt8} {most : Nat} (h : ok l most = false) : out l most = 0 := by unfold out; rw [h]; rfl
theorem out_yes {l : List UInt8} {most : Nat} (h : ok l most = true) : out l most = val l := by unfold out; rw [h]; rfl
end Go.Proofs.YtkchckeecfalhaaGreatDoor.Nm
