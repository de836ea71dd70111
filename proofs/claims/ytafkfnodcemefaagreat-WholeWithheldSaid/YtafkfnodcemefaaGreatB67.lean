import Derived.Test.YtafkfnodcemefaaGreatRows
import Derived.JoinedOf
set_option maxHeartbeats 8000000
set_option maxRecDepth 100000
namespace Go.Proofs.YtafkfnodcemefaaGreat
open _root_.Go.Proofs.Tryz (prog)
section
open Go
theorem wholeWithheld_two {a b:Bool} (h:a=true) (k:b=true):(a && b)=true:=by rw [h,k]; rfl
theorem wholeWithheld_closed:joinedFacts prog 5 Tryz.f5 Rows.wholeWithheldSpec Rows.wholeWithheldRow=true:=by
 delta joinedFacts
 repeat' with_reducible refine wholeWithheld_two ?_ ?_
 all_goals as_aux_lemma=>kernel_rfl
end
end Go.Proofs.YtafkfnodcemefaaGreat
