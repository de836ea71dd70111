import Derived.Test.YtlklghedfaeepaaGreatB36
set_option maxHeartbeats 8000000
namespace Go.Proofs.YtlklghedfaeepaaGreat
section
open Go.RowKit Go.Maps Rm Fm Sb
section
variable {O:Nat->Prop} {w0 w:World} {N n:Nat} {st:Nat->Sv} {os:List Dg}
end
def hv (own oth:Nat) (x:Int) (t d room sp:Nat) (b:Bool) (e now:Int):Sv:=⟨d,some ⟨room,sp,Mh (pz own) d (own+1) (cL oth x) (flb b (pz oth) (oth+1) t) (way1 (pz oth) ⟨oth,oth+1,1,0,e⟩) now 1 1 8⟩,cL oth x,z63 own⟩
def up (own:Nat) (m:Nat):T.Tm.Up:=⟨(pz own).a,(pz own).n,own+1,1,m⟩
def u0 (t:Nat):List T.Tm.Up:=[up 0 0,up 1 t]
def u1 (t:Nat):List T.Tm.Up:=[up 0 t,up 1 0]
section
variable {x:Int} {t:Nat} {d:Nat->Nat} {room sp:Nat} {b:Bool} {now:Int}
variable {O:Nat->Prop} {w0 w:World} {N:Nat}
def hs0 (x:Int) (d room sp:Nat) (own oth:Nat):Sv:=svO (pz own) d (own+1) room sp (cL oth x) 0 0 0 0 (z63 own)
def hs1 (x:Int) (d room sp:Nat) (own oth:Nat):Sv:=svO (pz own) d (own+1) room sp (cL oth x) 1 1 1 8 (z63 own)
end
end
end Go.Proofs.YtlklghedfaeepaaGreat
