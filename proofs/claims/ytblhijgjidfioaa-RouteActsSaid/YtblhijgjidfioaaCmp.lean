/-
  The order of numbers, and what cmp's functions answer of them.
-/
import Derived.Test.YtblhijgjidfioaaProg
import Derived.Test.YtblhijgjidfioaaBase
namespace Go.Proofs.Ytblhijgjidfioaa
open Go.RowKit

/-- the order of numbers, as -1, 0 or 1 -/
def cmpI (a b : Int) : Int := if a < b then -1 else if b < a then 1 else 0
theorem cmpI_lt {x y : Int} (h : x < y) : cmpI x y = -1 := by unfold cmpI; rw [if_pos h]
theorem cmpI_gt {x y : Int} (h : y < x) : cmpI x y = 1 := by unfold cmpI; rw [if_neg (by omega), if_pos h]
theorem cmpI_self (x : Int) : cmpI x x = 0 := by unfold cmpI; rw [if_neg (by omega), if_neg (by omega)]
/-- cmp.Or of two -/
def or2 (x y : Int) : Int := if x = 0 then y else x
end Go.Proofs.Ytblhijgjidfioaa
