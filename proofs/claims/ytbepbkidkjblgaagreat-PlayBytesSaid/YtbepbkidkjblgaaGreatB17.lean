import Derived.Test.YtbepbkidkjblgaaGreatB16
set_option maxHeartbeats 8000000
namespace Go.Proofs.YtbepbkidkjblgaaGreat
open _root_.Go.Proofs.Tryz (prog)
section
open Go.RowKit Go.Lib Go.Sort Fm Sb
def dcl (x:De):List Value:=ecl x.e
theorem bd5 (x:De):(dcl x).length=3:=rfl
theorem cl7 (x:De):∀ v∈dcl x,v.oneCell'=true:=by
 intro v hv;simp only [dcl,ecl,List.mem_cons,List.not_mem_nil,or_false] at hv;rcases hv with rfl|rfl|rfl<;>rfl
abbrev SW:=SWK dcl 3
abbrev RW:=RowK dcl 3
def FV:Value:= .func (.func 118) #[] #[]
theorem df7 (x y:De) (w:World):
  Calls prog 118 #[.agg (dcl x).toArray,.agg (dcl y).toArray] w fun e w'=>e= .returned (.int .i64 (cf x y))/\Gr w w':=by
 obtain ⟨⟨a,n,h⟩,i⟩:=x;obtain ⟨⟨b,m,h'⟩,i'⟩:=y;have A:=(Blk.new w 163 #[.int .u32 a,.int .i64 n,.bool h]).more (.cells #[.int .u32 b,.int .i64 m,.bool h'] 163);have B:=Blk.new (w.alloc (.cells #[.int .u32 a,.int .i64 n,.bool h] 163)) 163 #[.int .u32 b,.int .i64 m,.bool h'];rw [aa1] at B;have HB:=Lib.hid (cc0 w 163 163 #[.int .u32 a,.int .i64 n,.bool h] #[.int .u32 b,.int .i64 m,.bool h']);show Calls prog 118 #[.agg #[.int .u32 a,.int .i64 n,.bool h],.agg #[.int .u32 b,.int .i64 m,.bool h']] w fun e w'=>e= .returned (.int .i64 (Om.pcmp a n b m))/\Gr w w'
 go_enter Tryz.func118,Tryz.ntmps118;go_wp2_with fail;have a0:=A.at_ 0;have a1:=A.at_ 1;have b0:=B.at_ 0;have b1:=B.at_ 1;generalize (w.alloc (.cells #[.int .u32 a,.int .i64 n,.bool h] 163)).alloc (.cells #[.int .u32 b,.int .i64 m,.bool h'] 163)=w2 at*;clear A B;go_wp2_with fail;refine (bn8 _ _ _ _ _).mono ?_;rintro e w3 ⟨rfl,hg⟩;have HG:=Lib.hid (HB.out.trans hg);clear hg HB;go_wp2_with fail;go_ret;exact ⟨rfl,HG.out⟩
theorem cm1 (blk off size:Nat) (w:World):CmpLays prog 118 #[] dcl 3 cf blk off size w:=
 fun _ _ _ _ x y=>(df7 x y _).mono fun _ _ ⟨he,q,os',hw⟩=>⟨he,q,os',hw⟩
end
end Go.Proofs.YtbepbkidkjblgaaGreat
