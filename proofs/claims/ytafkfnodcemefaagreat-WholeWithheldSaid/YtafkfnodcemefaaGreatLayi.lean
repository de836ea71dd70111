import Derived.Shelf.SlGeneric
import Derived.Shelf.SlSortCmp.InsertionK
import Derived.Ground.SlsfProg
import Derived.Test.YtafkfnodcemefaaGreatProg
namespace Go.Proofs
open Go.Shelf
def Tryz.insE_ren:Go.Shelf.Ren:=⟨fun|20=>162|n=>n,fun|24=>142|22=>139|3=>3|25=>191|4=>4|0=>0|n=>n,fun|n=>n⟩
theorem Tryz.insE:Go.Proofs.SlLaysF0.n20 Tryz.prog Tryz.insE_ren:={
 mixed:=by kernel_rfl
 f20:=⟨Tryz.f162.name,by decide,Tryz.func162.trans (congrArg some (by kernel_rfl))⟩
 t0:=Tryz.underlying0
 a0:=Tryz.isAgg0
 z0:=Tryz.sizeOf0
 v0:=Tryz.zeroValue0
 t3:=Tryz.underlying3
 a3:=Tryz.isAgg3
 z3:=Tryz.sizeOf3
 v3:=Tryz.zeroValue3
 t4:=Tryz.underlying4
 a4:=Tryz.isAgg4
 z4:=Tryz.sizeOf4
 v4:=Tryz.zeroValue4
 t22:=Tryz.underlying139
 a22:=Tryz.isAgg139
 z22:=Tryz.sizeOf139
 v22:=Tryz.zeroValue139
 t25:=Tryz.underlying191
 a25:=Tryz.isAgg191
 z25:=Tryz.sizeOf191
 v25:=Tryz.zeroValue191 }
end Go.Proofs
