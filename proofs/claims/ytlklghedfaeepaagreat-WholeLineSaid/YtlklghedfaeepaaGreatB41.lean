import Derived.Test.YtlklghedfaeepaaGreatRows
import Derived.JoinedOf
set_option maxHeartbeats 8000000
set_option maxRecDepth 100000
namespace Go.Proofs.YtlklghedfaeepaaGreat
open _root_.Go.Proofs.Tryz (prog)
section
open Go
theorem dj2 {a b:Bool} (h:a=true) (k:b=true):(a && b)=true:=by rw [h,k]; rfl
theorem cv8:joinedFacts prog 3 Tryz.f3 Rows.wholeLineSpec Rows.wholeLineRow=true:=by
 delta joinedFacts
 repeat' with_reducible refine dj2 ?_ ?_
 all_goals as_aux_lemma=>kernel_rfl
end
end Go.Proofs.YtlklghedfaeepaaGreat
