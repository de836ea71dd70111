import Derived.Shelf.SlGeneric
import Derived.Shelf.SlSortCmp.InsertionK
import Derived.Ground.SlsfProg
import Derived.Test.YtlklghedfaeepaaGreatProg
namespace Go.Proofs
open Go.Shelf
def Tryz.insE_ren:Go.Shelf.Ren:=⟨fun|20=>167|n=>n,fun|24=>158|22=>155|3=>3|25=>200|4=>4|0=>0|n=>n,fun|n=>n⟩
theorem Tryz.insE:Go.Proofs.SlLaysF0.n20 Tryz.prog Tryz.insE_ren:={
 mixed:=by kernel_rfl
 f20:=⟨Tryz.f167.name,by decide,Tryz.func167.trans (congrArg some (by kernel_rfl))⟩
 t0:=Tryz.underlying0
 a0:=Tryz.isAgg0
 z0:=Tryz.sizeOf0
 v0:=Tryz.zeroValue0
 t3:=Tryz.underlying3
 a3:=Tryz.isAgg3
 z3:=Tryz.sizeOf3
 v3:=Tryz.zeroValue3
 t4:=Tryz.underlying4
 a4:=Tryz.isAgg4
 z4:=Tryz.sizeOf4
 v4:=Tryz.zeroValue4
 t22:=Tryz.underlying155
 a22:=Tryz.isAgg155
 z22:=Tryz.sizeOf155
 v22:=Tryz.zeroValue155
 t25:=Tryz.underlying200
 a25:=Tryz.isAgg200
 z25:=Tryz.sizeOf200
 v25:=Tryz.zeroValue200 }
end Go.Proofs
