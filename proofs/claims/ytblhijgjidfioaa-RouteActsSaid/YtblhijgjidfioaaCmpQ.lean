/-
  The order of prefixes as a sort asks it, seen on prefixes.
-/
import Derived.Test.YtblhijgjidfioaaIt
import Derived.Test.YtblhijgjidfioaaRtK
import Derived.Test.YtblhijgjidfioaaCmpP
import Derived.Shelf.SlSortCmp.WholeK
namespace Go.Proofs.Ytblhijgjidfioaa
open Go.RowKit Go.Sort

def cfP (x y : Pk) : Int := Om.pcmp x.a x.n y.a y.n
def ltP (x y : Pk) : Prop := x.a < y.a ∨ x.a = y.a ∧ x.n < y.n
theorem cfP_neg (x y : Pk) : ltOf cfP x y = true ↔ ltP x y := by
  unfold ltOf cfP Om.pcmp or2 cmpI ltP
  rw [decide_eq_true_eq]
  split <;> (try split) <;> (try split) <;> (try split) <;> omega
theorem cfP_no (x y : Pk) : ltOf cfP x y = false ↔ ¬ ltP x y := by rw [← cfP_neg, Bool.not_eq_true]
theorem swoP : SWO (ltOf cfP) where
  irrefl x := by rw [cfP_no]; unfold ltP; omega
  trans x y z h1 h2 := by rw [cfP_neg] at *; unfold ltP at *; omega
  ntrans x y z h1 h2 := by rw [cfP_no] at *; unfold ltP at *; omega
end Go.Proofs.Ytblhijgjidfioaa
