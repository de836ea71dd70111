import Derived.Test.YthaefdlkpljojaaGreatDoorM09
import Derived.Maps.AppendAt
import Derived.Laws.MakeOwn
import Derived.Deep.Cut
import Derived.StillTailTactics
import Derived.Deep.CutRange
import Derived.Deep.DeepCutAuto
set_option maxHeartbeats 8000000
set_option maxRecDepth 20000
namespace Go.Proofs.YthaefdlkpljojaaGreatDoor.T
open Go.RowKit Tm
end Go.Proofs.YthaefdlkpljojaaGreatDoor.T
set_option maxRecDepth 20000
namespace Go.Proofs.YthaefdlkpljojaaGreatDoor.T
open Go.RowKit Tm
section
variable {B:Nat} {v:Value} {us:List Up} {W W':World}
end
def Tm.named (k:Nat) (body:List Nat) (id:Nat):Nat:=if k=2∧body.length=4 then Tm.val body else id
end Go.Proofs.YthaefdlkpljojaaGreatDoor.T
set_option maxRecDepth 20000
namespace Go.Proofs.YthaefdlkpljojaaGreatDoor.T
open Go.RowKit Tm
end Go.Proofs.YthaefdlkpljojaaGreatDoor.T
set_option maxRecDepth 20000
namespace Go.Proofs.YthaefdlkpljojaaGreatDoor.T
open Go.RowKit Tm
end Go.Proofs.YthaefdlkpljojaaGreatDoor.T
set_option maxRecDepth 20000
namespace Go.Proofs.YthaefdlkpljojaaGreatDoor.T
open Go.RowKit Tm
section
variable {B:Nat} {v:Value} {bs:List Nat} {W W':World}
end
end Go.Proofs.YthaefdlkpljojaaGreatDoor.T
set_option maxRecDepth 20000
namespace Go.Proofs.YthaefdlkpljojaaGreatDoor.T
open Go.RowKit Tm
section
variable {B:Nat} {v:Value} {rows:List (List Nat)} {g cap:Nat→Nat} {W W':World}
end
end Go.Proofs.YthaefdlkpljojaaGreatDoor.T
set_option maxRecDepth 20000
namespace Go.Proofs.YthaefdlkpljojaaGreatDoor.T
open Go.RowKit Tm

end Go.Proofs.YthaefdlkpljojaaGreatDoor.T
