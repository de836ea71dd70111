import Derived.Test.YtafkfnodcemefaaGreatB21
set_option maxHeartbeats 8000000
set_option maxRecDepth 100000
namespace Go.Proofs.YtafkfnodcemefaaGreat.Sp
open _root_.Go.Proofs.Tryz (prog)
section
open Go.RowKit Go.Maps Sc
theorem bl0 (e:Ev) (s:ByteArray) (hs:s=⟨e.p.toArray⟩) (h0:decide (0<=e.kind)=true) (h1:decide (e.kind<=10)=true) (h2:bare e=true) (h3:small e.i=true) (h4:small e.k=true) (h5:small e.n=true) (ha:e.a<4294967296) (b:Bool) (H:Am.right e.a e.len=false/\b=false\/Am.right e.a e.len=true/\(decide ((s.size:Int)<=240)=false/\b=false\/decide ((s.size:Int)<=240)=true/\((s.size:Int) % 6==0)=b)) (w:World):
  Q 64 #[.agg (ecs e)] w (Rr0 w (O b)):=by
 have HP:Hid (∀ wx:World,Q 94 #[.agg (ecs e)] wx (Rr0 wx (.agg (ecs (pared e))))):=Z (fun wx=>ag6 e (of_decide_eq_true h0) (of_decide_eq_true h1) wx);have HQ:Hid (∀ wx:World,(binOp .eql 30 (.agg (ecs e)) (.agg (ecs (pared e)))).run prog wx= .ok (O true) wx):=Z (fun wx=>by rw [cl0,aq1,h2]);obtain ⟨kind,i,k,n,a,len,p⟩:=e;simp only at*;obtain ⟨P,hP⟩:=eX (ecs (pared ⟨kind,i,k,n,a,len,p⟩));try rw [<- hP] at HP HQ
 obtain ⟨X,hX⟩:∃ X,X=(#[I kind,I i,I k,I n,U (a:Int),I len,Ss s]:Array Value):=⟨_,rfl⟩;have e0:ecs ⟨kind,i,k,n,a,len,p⟩=X:=by rw [hX,hs]; rfl
 rw [e0];rw [e0] at HP HQ;subst hX;clear e0 hs hP h2;have HH:=Z H;clear H;go_enter Tryz.func64,Tryz.ntmps64;go_wp2_with fail;obtain ⟨hb0,C⟩:=nw w 30 #[I kind,I i,I k,I n,U (a:Int),I len,Ss s];generalize w.alloc _=w2 at*;have HB:=Z hb0;clear hb0;have c0:=C.at_ 0;have c1:=C.at_ 1;have c2:=C.at_ 2;have c3:=C.at_ 3;have c4:=C.at_ 4;have c5:=C.at_ 5;have c6:=C.at_ 6;clear C;simp at c0 c1 c2 c3 c4 c5 c6;have k0:=cell_regrown c0;have k1:=cell_regrown c1;have k2:=cell_regrown c2;have k3:=cell_regrown c3;have k4:=cell_regrown c4;have k5:=cell_regrown c5;have k6:=cell_regrown c6;refine wp_region_quiet_below kr kr ?_
 iterate 12 (go_big_quiet_step (first|(go_at_call 94; exact Calls.regrown_of (HP.out _))))
 go_big_quiet_want;refine by8 rfl rfl rfl kr HQ.out ?_;go_frame;go_big_quiet_on;rcases HH.out with ⟨h6,rfl⟩|⟨h6,⟨h7,rfl⟩|⟨h7,h8⟩⟩
 all_goals
  clear HH
  repeat (go_big_quiet_step (first|(go_at_call 95; exact Calls.regrown_of (bi5 (by assumption) _))|(go_at_call 79; exact Calls.regrown_of (right_eq (by assumption) (by assumption) _))))
  refine wpQuiet_nil ?_;intro _ hw';obtain ⟨⟨dq,osq⟩,hw''⟩:=hw';subst hw'';go_wp2;go_ret;exact ⟨rfl,next HB.out (below_regrown _ _ _)⟩
end
end Go.Proofs.YtafkfnodcemefaaGreat.Sp
