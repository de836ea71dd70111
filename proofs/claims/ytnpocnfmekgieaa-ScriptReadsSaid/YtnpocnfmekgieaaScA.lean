/-
  The contracts of addr's Right and of the statement's own, by what they answer.
-/
import Derived.Test.YtnpocnfmekgieaaAddrW
import Derived.Lib.QuietBelow
namespace Go.Proofs.Ytnpocnfmekgieaa
open Go.RowKit

theorem right_eq {a : Nat} {len : Int} {r : Bool} (ha : a < 4294967296) (h : Am.right a len = r) (w : World) :
    Calls Try.prog 19 #[.agg #[.int .u32 a, .int .i64 len]] w fun e w' => e = .returned (.bool r) ∧ Below w.heap.size w w' := h ▸ right_any a len ha w
theorem refRight_eq {a : Nat} {len : Int} {r : Bool} (ha : a < 4294967296) (h : Am.right a len = r) (w : World) :
    Calls Try.prog 20 #[.agg #[.int .u32 a, .int .i64 len]] w fun e w' => e = .returned (.bool r) ∧ Below w.heap.size w w' := h ▸ refRight_any a len ha w
end Go.Proofs.Ytnpocnfmekgieaa
