import Derived.Test.YtbepbkidkjblgaaGreatRows
import Derived.JoinedOf
set_option maxHeartbeats 8000000
set_option maxRecDepth 100000
namespace Go.Proofs.YtbepbkidkjblgaaGreat
open _root_.Go.Proofs.Tryz (prog)
section
open Go
theorem at5 {a b:Bool} (h:a=true) (k:b=true):(a && b)=true:=by rw [h,k]; rfl
theorem aq9:joinedFacts prog 3 Tryz.f3 Rows.playBytesSpec Rows.playBytesRow=true:=by
 delta joinedFacts
 repeat' with_reducible refine at5 ?_ ?_
 all_goals as_aux_lemma=>kernel_rfl
end
end Go.Proofs.YtbepbkidkjblgaaGreat
