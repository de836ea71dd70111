import Derived.Test.YtafkfnodcemefaaGreatRows
import Derived.JoinedOf
set_option maxHeartbeats 8000000
set_option maxRecDepth 100000
namespace Go.Proofs.YtafkfnodcemefaaGreat
open _root_.Go.Proofs.Tryz (prog)
section
open Go
theorem wholeJunk_two {a b:Bool} (h:a=true) (k:b=true):(a && b)=true:=by rw [h,k]; rfl
theorem wholeJunk_closed:joinedFacts prog 4 Tryz.f4 Rows.wholeJunkSpec Rows.wholeJunkRow=true:=by
 delta joinedFacts
 repeat' with_reducible refine wholeJunk_two ?_ ?_
 all_goals as_aux_lemma=>kernel_rfl
end
end Go.Proofs.YtafkfnodcemefaaGreat
