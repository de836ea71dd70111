/-
  ScriptReads, whole.
-/
import Derived.Test.YtnpocnfmekgieaaScRv
namespace Go.Proofs.Ytnpocnfmekgieaa
open Go.RowKit Go.Maps Sc

theorem sreads_any {A : Option Addr} {n cap : Nat} {bs : List Nat} {w : World} (h : Sl w A n cap bs) :
    Calls Try.prog 4 #[.slice A n cap] w fun x w' => x = .returned (.bool true) ∧ Below w.heap.size w w' := by
  by_cases hn : n ≤ 800
  · cases hh : Sc.headed bs
    · exact reads_none h hn hh
    · exact reads_good h hn hh
  · exact reads_long (by omega) h.bytes.2.1
end Go.Proofs.Ytnpocnfmekgieaa
