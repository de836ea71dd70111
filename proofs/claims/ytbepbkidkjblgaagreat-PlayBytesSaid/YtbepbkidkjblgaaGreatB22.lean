import Derived.Test.YtbepbkidkjblgaaGreatB21
set_option maxHeartbeats 8000000
set_option maxRecDepth 100000
namespace Go.Proofs.YtbepbkidkjblgaaGreat.Sp
open _root_.Go.Proofs.Tryz (prog)
section
open Go.RowKit Go.Maps Sc
theorem ce8 (e:Ev) (s:ByteArray) (hs:s=⟨e.p.toArray⟩) (H:decide (0<=e.kind)=false\/decide (0<=e.kind)=true/\decide (e.kind<=10)=false) (w:World):
  Calls prog 18 #[.agg (ecs e)] w fun x w'=>x= .returned (.bool false)/\Below w.heap.size w w':=by
 obtain ⟨kind,i,k,n,a,len,p⟩:=e;simp only at*;obtain ⟨X,hX⟩:∃ X,X=(#[.int .i64 kind,.int .i64 i,.int .i64 k,.int .i64 n,.int .u32 (a:Int),.int .i64 len,.string s]:Array Value):=⟨_,rfl⟩;have e0:ecs ⟨kind,i,k,n,a,len,p⟩=X:=by rw [hX,hs]; rfl
 rw [e0];subst hX;clear e0 hs;have HH:=Lib.hid H;clear H;go_enter Tryz.func18,Tryz.ntmps18;go_wp2_with fail;obtain ⟨hb0,C⟩:=nw w 44 #[.int .i64 kind,.int .i64 i,.int .i64 k,.int .i64 n,.int .u32 (a:Int),.int .i64 len,.string s];generalize w.alloc _=w2 at*;have HB:=Lib.hid hb0;clear hb0;have c0:=C.at_ 0;have c1:=C.at_ 1;have c2:=C.at_ 2;have c3:=C.at_ 3;have c4:=C.at_ 4;have c5:=C.at_ 5;have c6:=C.at_ 6;clear C;simp at c0 c1 c2 c3 c4 c5 c6;have k0:=cell_regrown c0;have k1:=cell_regrown c1;have k2:=cell_regrown c2;have k3:=cell_regrown c3;have k4:=cell_regrown c4;have k5:=cell_regrown c5;have k6:=cell_regrown c6;refine wp_region_quiet_below (by kernel_rfl) (by kernel_rfl) ?_;rcases HH.out with h0|⟨h0,h1⟩
 all_goals
  clear HH
  repeat (go_big_quiet_step (fail))
  refine wpQuiet_nil ?_;intro _ hw';obtain ⟨⟨dq,osq⟩,hw''⟩:=hw';subst hw'';go_wp2;go_ret;exact ⟨rfl,next HB.out (below_regrown _ _ _)⟩
theorem da7 (e:Ev) (s:ByteArray) (hs:s=⟨e.p.toArray⟩) (h0:decide (0<=e.kind)=true) (h1:decide (e.kind<=10)=true) (h2:bare e=false) (w:World):
  Calls prog 18 #[.agg (ecs e)] w fun x w'=>x= .returned (.bool false)/\Below w.heap.size w w':=by
 have HP:Hid (∀ wx:World,Calls prog 33 #[.agg (ecs e)] wx fun x w'=>x= .returned (.agg (ecs (pared e)))/\Below wx.heap.size wx w'):=Lib.hid (fun wx=>ag6 e (of_decide_eq_true h0) (of_decide_eq_true h1) wx);have HQ:Hid (∀ wx:World,(binOp .eql 44 (.agg (ecs e)) (.agg (ecs (pared e)))).run prog wx= .ok (.bool false) wx):=Lib.hid (fun wx=>by rw [cl0,aq1,h2]);obtain ⟨kind,i,k,n,a,len,p⟩:=e;simp only at*;obtain ⟨P,hP⟩:∃ P,P=ecs (pared ⟨kind,i,k,n,a,len,p⟩):=⟨_,rfl⟩;try rw [<- hP] at HP HQ
 obtain ⟨X,hX⟩:∃ X,X=(#[.int .i64 kind,.int .i64 i,.int .i64 k,.int .i64 n,.int .u32 (a:Int),.int .i64 len,.string s]:Array Value):=⟨_,rfl⟩;have e0:ecs ⟨kind,i,k,n,a,len,p⟩=X:=by rw [hX,hs]; rfl
 rw [e0];rw [e0] at HP HQ;subst hX;clear e0 hs hP h2;go_enter Tryz.func18,Tryz.ntmps18;go_wp2_with fail;obtain ⟨hb0,C⟩:=nw w 44 #[.int .i64 kind,.int .i64 i,.int .i64 k,.int .i64 n,.int .u32 (a:Int),.int .i64 len,.string s];generalize w.alloc _=w2 at*;have HB:=Lib.hid hb0;clear hb0;have c0:=C.at_ 0;have c1:=C.at_ 1;have c2:=C.at_ 2;have c3:=C.at_ 3;have c4:=C.at_ 4;have c5:=C.at_ 5;have c6:=C.at_ 6;clear C;simp at c0 c1 c2 c3 c4 c5 c6;have k0:=cell_regrown c0;have k1:=cell_regrown c1;have k2:=cell_regrown c2;have k3:=cell_regrown c3;have k4:=cell_regrown c4;have k5:=cell_regrown c5;have k6:=cell_regrown c6;refine wp_region_quiet_below (by kernel_rfl) (by kernel_rfl) ?_
 iterate 12 (go_big_quiet_step (first|(go_at_call 33; exact Calls.regrown_of (HP.out _))))
 go_big_quiet_want;refine by8 rfl rfl rfl (by kernel_rfl) HQ.out ?_;go_frame;go_big_quiet_on
 repeat (go_big_quiet_step (fail))
 refine wpQuiet_nil ?_;intro _ hw';obtain ⟨⟨dq,osq⟩,hw''⟩:=hw';subst hw'';go_wp2;go_ret;exact ⟨rfl,next HB.out (below_regrown _ _ _)⟩
theorem bl1 (e:Ev) (s:ByteArray) (hs:s=⟨e.p.toArray⟩) (h0:decide (0<=e.kind)=true) (h1:decide (e.kind<=10)=true) (h2:bare e=true) (H:small e.i=false\/small e.i=true/\(small e.k=false\/small e.k=true/\small e.n=false)) (w:World):
  Calls prog 18 #[.agg (ecs e)] w fun x w'=>x= .returned (.bool false)/\Below w.heap.size w w':=by
 have HP:Hid (∀ wx:World,Calls prog 33 #[.agg (ecs e)] wx fun x w'=>x= .returned (.agg (ecs (pared e)))/\Below wx.heap.size wx w'):=Lib.hid (fun wx=>ag6 e (of_decide_eq_true h0) (of_decide_eq_true h1) wx);have HQ:Hid (∀ wx:World,(binOp .eql 44 (.agg (ecs e)) (.agg (ecs (pared e)))).run prog wx= .ok (.bool true) wx):=Lib.hid (fun wx=>by rw [cl0,aq1,h2]);obtain ⟨kind,i,k,n,a,len,p⟩:=e;simp only at*;obtain ⟨P,hP⟩:∃ P,P=ecs (pared ⟨kind,i,k,n,a,len,p⟩):=⟨_,rfl⟩;try rw [<- hP] at HP HQ
 obtain ⟨X,hX⟩:∃ X,X=(#[.int .i64 kind,.int .i64 i,.int .i64 k,.int .i64 n,.int .u32 (a:Int),.int .i64 len,.string s]:Array Value):=⟨_,rfl⟩;have e0:ecs ⟨kind,i,k,n,a,len,p⟩=X:=by rw [hX,hs]; rfl
 rw [e0];rw [e0] at HP HQ;subst hX;clear e0 hs hP h2;have HH:=Lib.hid H;clear H;go_enter Tryz.func18,Tryz.ntmps18;go_wp2_with fail;obtain ⟨hb0,C⟩:=nw w 44 #[.int .i64 kind,.int .i64 i,.int .i64 k,.int .i64 n,.int .u32 (a:Int),.int .i64 len,.string s];generalize w.alloc _=w2 at*;have HB:=Lib.hid hb0;clear hb0;have c0:=C.at_ 0;have c1:=C.at_ 1;have c2:=C.at_ 2;have c3:=C.at_ 3;have c4:=C.at_ 4;have c5:=C.at_ 5;have c6:=C.at_ 6;clear C;simp at c0 c1 c2 c3 c4 c5 c6;have k0:=cell_regrown c0;have k1:=cell_regrown c1;have k2:=cell_regrown c2;have k3:=cell_regrown c3;have k4:=cell_regrown c4;have k5:=cell_regrown c5;have k6:=cell_regrown c6;refine wp_region_quiet_below (by kernel_rfl) (by kernel_rfl) ?_
 iterate 12 (go_big_quiet_step (first|(go_at_call 33; exact Calls.regrown_of (HP.out _))))
 go_big_quiet_want;refine by8 rfl rfl rfl (by kernel_rfl) HQ.out ?_;go_frame;go_big_quiet_on;rcases HH.out with h3|⟨h3,h4|⟨h4,h5⟩⟩
 all_goals
  clear HH
  repeat (go_big_quiet_step (first|(go_at_call 34; exact Calls.regrown_of (bi5 (by assumption) _))|(go_at_call 35; exact Calls.regrown_of (right_eq (by assumption) (by assumption) _))))
  refine wpQuiet_nil ?_;intro _ hw';obtain ⟨⟨dq,osq⟩,hw''⟩:=hw';subst hw'';go_wp2;go_ret;exact ⟨rfl,next HB.out (below_regrown _ _ _)⟩
end
end Go.Proofs.YtbepbkidkjblgaaGreat.Sp
