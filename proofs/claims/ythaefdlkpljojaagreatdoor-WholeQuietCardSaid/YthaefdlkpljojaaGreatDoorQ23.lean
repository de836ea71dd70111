import Derived.Test.YthaefdlkpljojaaGreatDoorQ21
set_option maxHeartbeats 8000000
namespace Go.Proofs.YthaefdlkpljojaaGreatDoor.Sp
open Go.RowKit Go.Maps Sc
set_option maxRecDepth 100000 in
theorem right_6 (e:Ev) (s:ByteArray) (hs:s=⟨e.p.toArray⟩) (h0:decide (0≤e.kind)=true) (h1:decide (e.kind≤10)=true) (h2:bare e=true) (h3:small e.i=true) (h4:small e.k=true) (h5:small e.n=true) (ha:e.a<4294967296) (h6:Am.right e.a e.len=false) (w:World):
  Calls Tryz.prog 44 #[.agg (ecs e)] w fun x w'=>x= .returned (.bool false)∧Below w.heap.size w w':=by
 have HP:Hid (∀ wx:World,Calls Tryz.prog 68 #[.agg (ecs e)] wx fun x w'=>x= .returned (.agg (ecs (pared e)))∧Below wx.heap.size wx w'):=Lib.hid (fun wx=>pared_any e (of_decide_eq_true h0) (of_decide_eq_true h1) wx)
 have HQ:Hid (∀ wx:World,(binOp .eql 37 (.agg (ecs e)) (.agg (ecs (pared e)))).run Tryz.prog wx= .ok (.bool true) wx):=Lib.hid (fun wx=>by rw [eql_ev,pared_bare,h2])
 have H3:=Lib.hid h3
 have H4:=Lib.hid h4
 have H5:=Lib.hid h5
 have H6:=Lib.hid (And.intro ha h6)
 obtain ⟨kind,i,k,n,a,len,p⟩:=e
 simp only at*
 obtain ⟨P,hP⟩:∃ P,P=ecs (pared ⟨kind,i,k,n,a,len,p⟩):=⟨_,rfl⟩
 try rw [← hP] at HP HQ
 obtain ⟨X,hX⟩:∃ X,X=(#[.int .i64 kind,.int .i64 i,.int .i64 k,.int .i64 n,.int .u32 (a:Int),.int .i64 len,.string s]:Array Value):=⟨_,rfl⟩
 have e0:ecs ⟨kind,i,k,n,a,len,p⟩=X:=by rw [hX,hs]; rfl
 rw [e0]
 rw [e0] at HP HQ
 subst hX
 clear e0 hs hP h2 h3 h4 h5 h6 ha
 go_enter Tryz.func44,Tryz.ntmps44
 go_wp2_with fail
 have C:=Blk.new w 37 #[.int .i64 kind,.int .i64 i,.int .i64 k,.int .i64 n,.int .u32 (a:Int),.int .i64 len,.string s]
 have hb0:=below_new w (.cells #[.int .i64 kind,.int .i64 i,.int .i64 k,.int .i64 n,.int .u32 (a:Int),.int .i64 len,.string s] 37)
 generalize w.alloc (.cells #[.int .i64 kind,.int .i64 i,.int .i64 k,.int .i64 n,.int .u32 (a:Int),.int .i64 len,.string s] 37)=w2 at*
 have HB:=Lib.hid hb0
 clear hb0
 have c0:=C.at_ 0
 have c1:=C.at_ 1
 have c2:=C.at_ 2
 have c3:=C.at_ 3
 have c4:=C.at_ 4
 have c5:=C.at_ 5
 have c6:=C.at_ 6
 clear C
 simp at c0 c1 c2 c3 c4 c5 c6
 have k0:=fun d os=>cell_regrown c0 d os
 have k1:=fun d os=>cell_regrown c1 d os
 have k2:=fun d os=>cell_regrown c2 d os
 have k3:=fun d os=>cell_regrown c3 d os
 have k4:=fun d os=>cell_regrown c4 d os
 have k5:=fun d os=>cell_regrown c5 d os
 have k6:=fun d os=>cell_regrown c6 d os
 refine wp_region_quiet_below (by kernel_rfl) (by kernel_rfl) ?_
 iterate 12 (go_big_quiet_step (first|(go_at_call 68; exact Calls.regrown_of (HP.out _))))
 go_big_quiet_want
 refine eq_op rfl rfl rfl (by kernel_rfl) HQ.out ?_
 go_frame
 go_big_quiet_on
 repeat (go_big_quiet_step (first|(go_at_call 69; first|exact Calls.regrown_of (counts_eq H3.out _)|exact Calls.regrown_of (counts_eq H4.out _)|exact Calls.regrown_of (counts_eq H5.out _))|(go_at_call 45; exact Calls.regrown_of (right_eq H6.out.1 H6.out.2 _))))
 refine wpQuiet_nil ?_
 intro _ hw'
 obtain ⟨⟨dq,osq⟩,hw''⟩:=hw'
 subst hw''
 go_wp2
 go_ret
 exact ⟨rfl,next HB.out (below_regrown _ _ _)⟩
set_option maxRecDepth 100000 in
theorem right_7 (e:Ev) (s:ByteArray) (hs:s=⟨e.p.toArray⟩) (h0:decide (0≤e.kind)=true) (h1:decide (e.kind≤10)=true) (h2:bare e=true) (h3:small e.i=true) (h4:small e.k=true) (h5:small e.n=true) (ha:e.a<4294967296) (h6:Am.right e.a e.len=true) (h7:decide ((s.size:Int)≤240)=false) (w:World):
  Calls Tryz.prog 44 #[.agg (ecs e)] w fun x w'=>x= .returned (.bool false)∧Below w.heap.size w w':=by
 have HP:Hid (∀ wx:World,Calls Tryz.prog 68 #[.agg (ecs e)] wx fun x w'=>x= .returned (.agg (ecs (pared e)))∧Below wx.heap.size wx w'):=Lib.hid (fun wx=>pared_any e (of_decide_eq_true h0) (of_decide_eq_true h1) wx)
 have HQ:Hid (∀ wx:World,(binOp .eql 37 (.agg (ecs e)) (.agg (ecs (pared e)))).run Tryz.prog wx= .ok (.bool true) wx):=Lib.hid (fun wx=>by rw [eql_ev,pared_bare,h2])
 have H3:=Lib.hid h3
 have H4:=Lib.hid h4
 have H5:=Lib.hid h5
 have H6:=Lib.hid (And.intro ha h6)
 obtain ⟨kind,i,k,n,a,len,p⟩:=e
 simp only at*
 obtain ⟨P,hP⟩:∃ P,P=ecs (pared ⟨kind,i,k,n,a,len,p⟩):=⟨_,rfl⟩
 try rw [← hP] at HP HQ
 obtain ⟨X,hX⟩:∃ X,X=(#[.int .i64 kind,.int .i64 i,.int .i64 k,.int .i64 n,.int .u32 (a:Int),.int .i64 len,.string s]:Array Value):=⟨_,rfl⟩
 have e0:ecs ⟨kind,i,k,n,a,len,p⟩=X:=by rw [hX,hs]; rfl
 rw [e0]
 rw [e0] at HP HQ
 subst hX
 clear e0 hs hP h2 h3 h4 h5 h6 ha
 go_enter Tryz.func44,Tryz.ntmps44
 go_wp2_with fail
 have C:=Blk.new w 37 #[.int .i64 kind,.int .i64 i,.int .i64 k,.int .i64 n,.int .u32 (a:Int),.int .i64 len,.string s]
 have hb0:=below_new w (.cells #[.int .i64 kind,.int .i64 i,.int .i64 k,.int .i64 n,.int .u32 (a:Int),.int .i64 len,.string s] 37)
 generalize w.alloc (.cells #[.int .i64 kind,.int .i64 i,.int .i64 k,.int .i64 n,.int .u32 (a:Int),.int .i64 len,.string s] 37)=w2 at*
 have HB:=Lib.hid hb0
 clear hb0
 have c0:=C.at_ 0
 have c1:=C.at_ 1
 have c2:=C.at_ 2
 have c3:=C.at_ 3
 have c4:=C.at_ 4
 have c5:=C.at_ 5
 have c6:=C.at_ 6
 clear C
 simp at c0 c1 c2 c3 c4 c5 c6
 have k0:=fun d os=>cell_regrown c0 d os
 have k1:=fun d os=>cell_regrown c1 d os
 have k2:=fun d os=>cell_regrown c2 d os
 have k3:=fun d os=>cell_regrown c3 d os
 have k4:=fun d os=>cell_regrown c4 d os
 have k5:=fun d os=>cell_regrown c5 d os
 have k6:=fun d os=>cell_regrown c6 d os
 refine wp_region_quiet_below (by kernel_rfl) (by kernel_rfl) ?_
 iterate 12 (go_big_quiet_step (first|(go_at_call 68; exact Calls.regrown_of (HP.out _))))
 go_big_quiet_want
 refine eq_op rfl rfl rfl (by kernel_rfl) HQ.out ?_
 go_frame
 go_big_quiet_on
 repeat (go_big_quiet_step (first|(go_at_call 69; first|exact Calls.regrown_of (counts_eq H3.out _)|exact Calls.regrown_of (counts_eq H4.out _)|exact Calls.regrown_of (counts_eq H5.out _))|(go_at_call 45; exact Calls.regrown_of (right_eq H6.out.1 H6.out.2 _))))
 refine wpQuiet_nil ?_
 intro _ hw'
 obtain ⟨⟨dq,osq⟩,hw''⟩:=hw'
 subst hw''
 go_wp2
 go_ret
 exact ⟨rfl,next HB.out (below_regrown _ _ _)⟩
end Go.Proofs.YthaefdlkpljojaaGreatDoor.Sp
