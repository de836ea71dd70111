import Derived.Test.YtafkfnodcemefaaGreatB16
set_option maxHeartbeats 8000000
namespace Go.Proofs.YtafkfnodcemefaaGreat
open _root_.Go.Proofs.Tryz (prog)
section
open Go.RowKit Go.Lib Go.Sort Fm Sb
def dcl (x:De):List Value:=ecl x.e
theorem bd5 (x:De):(dcl x).length=3:=rfl
theorem cl7 (x:De):∀ v∈dcl x,v.oneCell'=true:=by
 intro v hv;simp only [dcl,ecl,List.mem_cons,List.not_mem_nil,or_false] at hv;rcases hv with rfl|rfl|rfl<;>rfl
abbrev SW:=SWK dcl 3
abbrev RW:=RowK dcl 3
def FV:Value:= .func (.func 102) #[] #[]
theorem df7 (x y:De) (w:World):
  Q 102 #[.agg (dcl x).toArray,.agg (dcl y).toArray] w fun e w'=>e= .returned (I (cf x y))/\Gr w w':=by
 obtain ⟨⟨a,n,h⟩,i⟩:=x;obtain ⟨⟨b,m,h'⟩,i'⟩:=y;have A:=(Blk.new w 142 #[U a,I n,O h]).more (.cells #[U b,I m,O h'] 142);have B:=Blk.new (w.alloc (.cells #[U a,I n,O h] 142)) 142 #[U b,I m,O h'];rw [aa1] at B;have HB:=Z (cc0 w 142 142 #[U a,I n,O h] #[U b,I m,O h']);show Q 102 #[.agg #[U a,I n,O h],.agg #[U b,I m,O h']] w fun e w'=>e= .returned (I (Om.pcmp a n b m))/\Gr w w'
 go_enter Tryz.func102,Tryz.ntmps102;go_wp2_with fail;have a0:=A.at_ 0;have a1:=A.at_ 1;have b0:=B.at_ 0;have b1:=B.at_ 1;generalize (w.alloc (.cells #[U a,I n,O h] 142)).alloc (.cells #[U b,I m,O h'] 142)=w2 at*;clear A B;go_wp2_with fail;refine (bn8 _ _ _ _ _).mono ?_;rintro e w3 ⟨rfl,hg⟩;have HG:=Z (HB.out.trans hg);clear hg HB;go_wp2_with fail;go_ret;exact ⟨rfl,HG.out⟩
theorem cm1 (blk off size:Nat) (w:World):CmpLays prog 102 #[] dcl 3 cf blk off size w:=
 fun _ _ _ _ x y=>(df7 x y _).mono fun _ _ ⟨he,q,os',hw⟩=>⟨he,q,os',hw⟩
end
end Go.Proofs.YtafkfnodcemefaaGreat
