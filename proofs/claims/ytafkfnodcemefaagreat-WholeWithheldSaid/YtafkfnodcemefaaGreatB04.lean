import Derived.Test.YtafkfnodcemefaaGreatB03
import Derived.Lib.AppendZeros
import Derived.Lib.QuietBelow
set_option maxHeartbeats 8000000
set_option maxRecDepth 20000
namespace Go.Proofs.YtafkfnodcemefaaGreat
open _root_.Go.Proofs.Tryz (prog)
open Go.RowKit Rm
def cell (c:Nat):Value:= Yy (c:Int)
def cls (b:List Nat):Array Value:=(b.map cell).toArray
def toU (b:List Nat):List UInt8:=b.map UInt8.ofNat
theorem ag4 (b:List Nat):(toU b).length=b.length:=by simp [toU]
theorem cc4 {b:List Nat} (hb:∀ c∈b,c<256) {j:Nat} (hj:j<(toU b).length):((toU b)[j].toNat:Int)=((b.getD j 0:Nat):Int):=by
 have hj':j<b.length:=by rw [ag4] at hj; exact hj
 have h1:b[j]<256:=hb _ (List.getElem_mem hj');simp [toU,hj',Nat.mod_eq_of_lt h1]
theorem cz2 {b c:List Nat} (hb:∀ x∈b,x<256) (hc:∀ x∈c,x<256) (h:toU b=toU c):b=c:=by
 induction b generalizing c with
 |nil=>cases c<;>simp [toU] at h ⊢
 |cons x r ih=>
  cases c with
  |nil=>simp [toU] at h
  |cons y r'=>
   simp only [toU,List.map_cons,List.cons.injEq] at h;have e:x=y:=by
    have:=congrArg UInt8.toNat h.1;simpa [Nat.mod_eq_of_lt (hb x sn),Nat.mod_eq_of_lt (hc y sn)] using this
   rw [e,ih (fun z hz=>hb z (by simp [hz])) (fun z hz=>hc z (by simp [hz])) h.2]
theorem BytesAt.held {w w':World} {A:Option Addr} {n:Nat} {bs:List Nat} (h:BytesAt w A n bs) (hb:Below w.heap.size w w'):BytesAt w' A n bs:=
 ⟨h.1,h.2.1,h.2.2.1,fun k hk=>by
  obtain ⟨ad,e,hc⟩:=h.2.2.2 k hk;exact ⟨ad,e,Go.Proofs.YtafkfnodcemefaaGreat.held hb hc⟩⟩
theorem BytesAt.of_blk {w:World} {g:Nat} {t:TypeId} {C:Array Value} (h:Blk t w g C) (bs:List Nat) (o n:Nat) (hn:n<=maxLen) (hl:bs.length=n) (hb:∀ c∈bs,c<256) (hC:∀ k,k<n->C[o+k]?=some (cell (bs.getD k 0))):BytesAt w (some (Y g o)) n bs:=
 ⟨hl,hn,hb,fun k hk=>⟨_,rfl,by rw [Addr.add_mid,h.at_ (o+k)]; exact hC k hk⟩⟩
theorem aa5 {n:Nat} (h:n<=1000):n<=maxLen:=by unfold maxLen; omega
theorem ao3 (b:List Nat) (k:Nat) (hk:k<b.length):(cls b)[k]?=some (cell (b.getD k 0)):=by simp [cls,hk]
theorem BytesAt.cls {w:World} {g:Nat} {t:TypeId} {b:List Nat} (h:Blk t w g (Go.Proofs.YtafkfnodcemefaaGreat.cls b)) (hb:∀ c∈b,c<256) (hl:b.length<=1000):BytesAt w (some (Y g 0)) b.length b:=
 .of_blk h b 0 b.length (aa5 hl) rfl hb (fun k hk=>by rw [Nat.zero_add]; exact ao3 b k hk)
theorem as5 {w:World} {A:Option Addr} {n cap:Nat} {bs:List Nat} (h:BytesAt w A n bs):(convert 45 9 (.slice A n cap)).run prog w= .ok (Ss ⟨(toU bs).toArray⟩) w:=by
 obtain ⟨hl,hm,hb,hc⟩:=h;rcases Nat.eq_zero_or_pos n with rfl|h0
 ·obtain rfl:=List.length_eq_zero_iff.1 hl
  rw [run_convert_bytes_string w 45 9 5 A 0 cap X X X]
  cases A<;>rfl
 ·obtain ⟨ad,rfl,-⟩:=hc 0 h0
  have e:n=(toU bs).length:=by rw [ag4,hl]
  rw [e];refine run_convert_bytes_back (P:=prog) w 45 9 5 ad cap (toU bs) X X X (fun j hj=>?_);obtain ⟨ad',e',h'⟩:=hc j G
  cases e';rw [h',cc4 hb hj]
theorem aw0 {w:World} {A A':Option Addr} {n cap n' cap':Nat} {x y:List Nat} (hx:BytesAt w A n x) (hy:BytesAt w A' n' y):
  Q 208 #[.slice A n cap,.slice A' n' cap'] w fun e w'=>e= .returned (O (decide (x=y)))/\w=w':=by
 have k1:=as5 (cap:=cap) hx;have k2:=as5 (cap:=cap') hy;have E:Hid (decide (toU x=toU y)=decide (x=y)):=Z (by rw [decide_eq_decide]; exact ⟨cz2 hx.2.2.1 hy.2.2.1,fun h=>by rw [h]⟩);clear hx hy;go_enter Tryz.func208,Tryz.ntmps208;go_wp2;go_ret;refine ⟨aa4 ?_,rfl⟩;rw [<- E.out,Bool.eq_iff_iff];simp
theorem an5 (g off cap:Nat) (v:Nat) (hv:v<4294967296) (C:Array Value) (w:World) (h:Blk 5 w g C) (hs:off+4<=C.size):
  Q 57 #[Mt g off 4 cap,U v] w fun e w'=>e= .returned (.tuple #[])/\
   w'=(((w.setCell (Y g off) (cell (v / 16777216 % 256))).setCell (Y g (off+1)) (cell (v / 65536 % 256))).setCell (Y g (off+2)) (cell (v / 256 % 256))).setCell (Y g (off+3)) (cell (v % 256)):=by
 have c0:w.cell? (Y g off)=some C[off]:=(h.at_ off).trans sn;have c1:w.cell? (Y g (off+1))=some C[off+1]:=(h.at_ _).trans sn;have c2:w.cell? (Y g (off+2))=some C[off+2]:=(h.at_ _).trans sn;have c3:w.cell? (Y g (off+3))=some C[off+3]:=(h.at_ _).trans sn;have f0:=h.free off;have f1:=h.free (off+1);have f2:=h.free (off+2);have f3:=h.free (off+3);clear h;generalize C[off]=v0 at*;generalize C[off+1]=v1 at*;generalize C[off+2]=v2 at*;generalize C[off+3]=v3 at*;clear hs;go_enter Tryz.func57,Tryz.ntmps57;go_wp2;refine wp_loop_rounds 5 ?_
 iterate 5
  rw [rounds_succ];go_wp2
 go_end0;refine ⟨rfl,?_⟩;unfold cell;rw [show ((v / 16777216 % 256:Nat):Int)=(v:Int) / 16777216 by omega,show ((v / 65536 % 256:Nat):Int)=(v:Int) / 65536 % 256 by omega,show ((v / 256 % 256:Nat):Int)=(v:Int) / 256 % 256 by omega,show ((v % 256:Nat):Int)=(v:Int) % 256 by omega]
theorem au7 (g off cap:Nat) (v:Nat) (hv:v<65536) (C:Array Value) (w:World) (h:Blk 5 w g C) (hs:off+2<=C.size):
  Q 57 #[Mt g off 2 cap,U v] w fun e w'=>e= .returned (.tuple #[])/\
   w'=(w.setCell (Y g off) (cell (v / 256 % 256))).setCell (Y g (off+1)) (cell (v % 256)):=by
 have c0:w.cell? (Y g off)=some C[off]:=(h.at_ off).trans sn;have c1:w.cell? (Y g (off+1))=some C[off+1]:=(h.at_ _).trans sn;have f0:=h.free off;have f1:=h.free (off+1);clear h;generalize C[off]=v0 at*;generalize C[off+1]=v1 at*;clear hs;go_enter Tryz.func57,Tryz.ntmps57;go_wp2;refine wp_loop_rounds 3 ?_
 iterate 3
  rw [rounds_succ];go_wp2
 go_end0;refine ⟨rfl,?_⟩;unfold cell;try rw [show ((v / 256 % 256:Nat):Int)=(v:Int) / 256 by omega,show ((v % 256:Nat):Int)=(v:Int) % 256 by omega]
def val (b:List Nat):Nat:=b.foldl (fun s c=>s*256+c) 0
theorem val_snoc (b:List Nat) (c:Nat):val (b++[c])=val b*256+c:=by simp [val]
theorem val_lt:∀ (k:Nat) (b:List Nat),b.length=k->(∀ c∈b,c<256)->val b<256 ^ k
 |0,b,h,_=>by rw [List.length_eq_zero_iff.1 h]; simp [val]
 |k+1,b,h,hb=>by
  have hne:b≠[]:=fun e=>by rw [e] at h; simp at h
  have e:=(List.dropLast_concat_getLast hne).symm;have ih:=val_lt k b.dropLast (by simp [h]) (fun c hc=>hb c ((List.dropLast_sublist b).mem hc));have hc:=hb _ (List.getLast_mem hne);rw [e,val_snoc,Nat.pow_succ];omega
theorem cg3 (s c:Nat) (hs:s<16777216) (hc:c<256):bits .or .u32 ((s:Int)*256) (c:Int)=((s*256+c:Nat):Int):=by
 rw [show ((s:Int)*256)=((s*256:Nat):Int) from by omega,u32_or_nat (s*256) c G G];congr 1;have h:=Nat.two_pow_add_eq_or_of_lt (i:=8) (b:=c) G s;rw [show 2 ^ 8*s=s*256 by omega] at h;exact h.symm
theorem aj0 {k:Nat} (hk:k<=3):256 ^ k<=16777216:=by
 have:k=0\/k=1\/k=2\/k=3:=G
 rcases this with rfl|rfl|rfl|rfl<;>decide
theorem am6 (A:Option Addr) (n cap:Nat) (bs:List Nat) (w:World) (h:BytesAt w A n bs) (hn:n<=4):
  Q 38 #[.slice A n cap] w fun e w'=>e= .returned (U (val bs:Nat))/\w=w':=by
 have H:=Z h;clear h;go_enter Tryz.func38,Tryz.ntmps38;go_wp2;go_loop [3,8] (fun s i=>∃ k:Nat,k<=n/\i= I k/\s= U (val (bs.take k):Nat)) (fun _ i=>n - (intOf i).toNat)
 case atStart=>exact ⟨0,G,rfl,rfl⟩
 case round=>
  obtain ⟨k,hk,rfl,rfl⟩:=hrel;by_cases hlt:k<n
  ·obtain ⟨ad,ha,hcell⟩:=H.out.2.2.2 k hlt
   have hc:=H.out.lt k;have hm:val (bs.take k)<16777216:=Nat.lt_of_lt_of_le (val_lt k _ (by rw [List.length_take,H.out.1]; omega) (H.out.take_lt k)) (aj0 G);have E:Hid (val (bs.take (k+1))=val (bs.take k)*256+bs.getD k 0):=Z (by rw [H.out.take_succ hlt,val_snoc]);generalize val (bs.take k)=s at hm E ⊢;generalize bs.getD k 0=c at hc E hcell;subst ha;go_wp2;go_round
   case rel=>exact ⟨k+1,G,by go_num,by rw [E.out,cg3 s c hm hc]⟩
   case measure=>simp [intOf]; omega
  ·go_wp2
   go_ret;obtain rfl:k=n:=G
   exact ⟨ab0 (by rw [H.out.takeAll]),rfl⟩
end Go.Proofs.YtafkfnodcemefaaGreat
set_option maxRecDepth 20000
namespace Go.Proofs.YtafkfnodcemefaaGreat
open _root_.Go.Proofs.Tryz (prog)
open Go.RowKit Rm
def Ob (u:World) (g cap:Nat) (bs:List Nat):Prop:=∃ cur,Blk 5 u g cur/\cur.size=cap/\bs.length<=cap/\cap<=maxLen/\cur.toList.take bs.length=bs.map cell
section
variable {u u':World} {g cap:Nat} {bs:List Nat}
end
end Go.Proofs.YtafkfnodcemefaaGreat
set_option maxRecDepth 20000
namespace Go.Proofs.YtafkfnodcemefaaGreat
open _root_.Go.Proofs.Tryz (prog)
open Go.RowKit Rm
def Rm.Rc.val (r:Rc):Value:= .agg #[I r.kind,U r.gen,U r.lsn,U r.id,U r.a,I r.len,O r.on,U r.seq,V r.met]
theorem ag6 (k:Int) (g l i a:Nat) (n:Int) (o:Bool) (s m:Nat) (w:World):
  Q 142 #[.agg #[I k,U g,U l,U i,U a,I n,O o,U s,V m]] w fun e w'=>e= .returned (pared ⟨k,g,l,i,a,n,o,s,m⟩).val/\Bw w w':=by
 have B3:∀ A B C:Obj,Below w.heap.size w (((w.alloc A).alloc B).alloc C):=fun A B C=>next (next (aa0 _ _) (aa0 _ _)) (aa0 _ _)
 by_cases h1:k=1
 ·subst h1
  go_enter Tryz.func142,Tryz.ntmps142;go_wp2;refine bodyPost_ret (v:=(pared ⟨1,g,l,i,a,n,o,s,m⟩).val) ?_ rfl ⟨rfl,B3 _ _ _⟩;simp [results,Tryz.results142,go_sem];rfl
 by_cases h2:k=2
 ·subst h2
  go_enter Tryz.func142,Tryz.ntmps142;go_wp2;go_region;go_wp2;refine bodyPost_ret (v:=(pared ⟨2,g,l,i,a,n,o,s,m⟩).val) ?_ rfl ⟨rfl,(B3 _ _ _).drew⟩;simp [results,Tryz.results142,go_sem];rfl
 by_cases h3:k=3
 ·subst h3
  go_enter Tryz.func142,Tryz.ntmps142;go_wp2;refine bodyPost_ret (v:=(pared ⟨3,g,l,i,a,n,o,s,m⟩).val) ?_ rfl ⟨rfl,B3 _ _ _⟩;simp [results,Tryz.results142,go_sem];rfl
 by_cases h4:k=4
 ·subst h4
  go_enter Tryz.func142,Tryz.ntmps142;go_wp2;go_region;go_wp2;refine bodyPost_ret (v:=(pared ⟨4,g,l,i,a,n,o,s,m⟩).val) ?_ rfl ⟨rfl,(B3 _ _ _).drew⟩;simp [results,Tryz.results142,go_sem];rfl
 ·have E:Hid ((pared ⟨k,g,l,i,a,n,o,s,m⟩).val= .agg #[I k,U g,U l,U 0,U 0,I 0,O false,U 0,V 0]):=Z (by unfold pared; rw [if_neg h1,if_neg h2,if_neg h3,if_neg h4]; rfl)
  have d1:(k==1)=false:=beq_eq_false_iff_ne.2 h1;have d2:(k==2)=false:=beq_eq_false_iff_ne.2 h2;have d3:(k==3)=false:=beq_eq_false_iff_ne.2 h3;have d4:(k==4)=false:=beq_eq_false_iff_ne.2 h4;clear h1 h2 h3 h4;go_enter Tryz.func142,Tryz.ntmps142;go_wp2;refine bodyPost_ret (v:=(pared ⟨k,g,l,i,a,n,o,s,m⟩).val) ?_ rfl ⟨rfl,B3 _ _ _⟩;rw [E.out];simp [results,Tryz.results142,go_sem]
end Go.Proofs.YtafkfnodcemefaaGreat
set_option maxRecDepth 20000
namespace Go.Proofs.YtafkfnodcemefaaGreat
open _root_.Go.Proofs.Tryz (prog)
section
open Go.RowKit Rm
variable {r:Bool}
theorem ch8 (k:Int) (w:World):Q 143 #[I k] w fun e w'=>e= .returned (O (named k))/\w=w':=by
 go_enter Tryz.func143,Tryz.ntmps143;go_wp2;all_goals
  go_ret;exact ⟨aa4 (by simp_all [named]),rfl⟩
theorem cs4 {k:Int} (h:named k=r) (w:World):Q 143 #[I k] w (Rr0 w (O r)):=
 (ch8 k w).mono fun _ _ h'=>⟨h ▸ h'.1,h'.2 ▸ Below.refl _ _⟩
theorem right_eq {a:Nat} {len:Int} (ha:a<4294967296) (h:Am.right a len=r) (w:World):
  Q 79 #[.agg #[U a,I len]] w (Rr0 w (O r)):=h ▸ af5 a len ha w
theorem ci3 (s m:Int) (w:World):Q 70 #[.agg #[U s,V m]] w (Rr0 w (O (m==65535))):=by
 go_enter Tryz.func70,Tryz.ntmps70;go_wp2;go_ret;exact ⟨rfl,(Below.refl _ _).alloc (Nat.le_refl _) _⟩
theorem cs7 {s m:Int} (h:(m==65535)=r) (w:World):
  Q 70 #[.agg #[U s,V m]] w (Rr0 w (O r)):=h ▸ ci3 s m w
theorem ck8 (k k':Int) (g l i a g' l' i' a':Nat) (n n':Int) (o o':Bool) (s m s' m':Nat) (w:World):
  (binOp .eql 160 (.agg #[I k,U g,U l,U i,U a,I n,O o,U s,V m]) (.agg #[I k',U g',U l',U i',U a',I n',O o',U s',V m'])).run prog w=
   .ok (O (decide ((⟨k,g,l,i,a,n,o,s,m⟩:Rc)=⟨k',g',l',i',a',n',o',s',m'⟩))) w:=by
 go_simp;by_cases h1:k=k'
 case neg=>simp [h1]
 by_cases h2:g=g'
 case neg=>simp [h2,show ¬ (g:Int)=g' by omega]
 by_cases h3:l=l'
 case neg=>simp [h3,show ¬ (l:Int)=l' by omega]
 by_cases h4:i=i'
 case neg=>simp [h4,show ¬ (i:Int)=i' by omega]
 by_cases h5:a=a'
 case neg=>simp [h5,show ¬ (a:Int)=a' by omega]
 by_cases h6:n=n'
 case neg=>simp [h6]
 by_cases h7:o=o'
 case neg=>simp [h7]
 by_cases h8:s=s'
 case neg=>simp [h8,show ¬ (s:Int)=s' by omega]
 by_cases h9:m=m'
 case neg=>simp [h9,show ¬ (m:Int)=m' by omega]
 simp [h1,h2,h3,h4,h5,h6,h7,h8,h9]
theorem by8 {P:Program} {C:World->Prop} {K:Act->Prop} {a:Act} {o:Oper} {t:TypeId} {x y:Operand} {z:TypeId} {xs ys:Array Value} {b:Bool} (ho:o.op= .binOp .eql t x y z) (ha:a.eval x= .agg xs) (hb:a.eval y= .agg ys)
  (hm:P.eqGuardType P.depth t=false) (hq:∀ w,(binOp .eql t (.agg xs) (.agg ys)).run P w= .ok (O b) w) (hk:K (a.put o.dst (O b))):o.quiet P a C K:=
 ⟨_,fun w _=>by
  unfold Oper.quietAt execOp;simp [ho,ha,hb,run_eqGuard_agg _ _ _ _ _ _ _ hm,hq,Oper.quietUpon],hk⟩
theorem cw9 (k:Int) (g l i a:Nat) (n:Int) (o:Bool) (s m:Nat) (H:decide (1<=k)=false\/decide (1<=k)=true/\decide (k<=4)=false) (w:World):
  Q 111 #[.agg #[I k,U g,U l,U i,U a,I n,O o,U s,V m]] w (Rr0 w (O false)):=by
 go_enter Tryz.func111,Tryz.ntmps111;go_wp2_with fail;obtain ⟨hb0,C⟩:=nw w 160 #[I k,U g,U l,U i,U a,I n,O o,U s,V m];generalize w.alloc _=w2 at*;have HB:=Z hb0;clear hb0;have c0:=C.at_ 0;have c1:=C.at_ 1;have c2:=C.at_ 2;have c3:=C.at_ 3;have c4:=C.at_ 4;have c5:=C.at_ 5;have c6:=C.at_ 6;have c7:=C.at_ 7;have c8:=C.at_ 8;clear C;simp at c0 c1 c2 c3 c4 c5 c6 c7 c8;have k0:=cell_regrown c0;have k1:=cell_regrown c1;have k2:=cell_regrown c2;have k3:=cell_regrown c3;have k4:=cell_regrown c4;have k5:=cell_regrown c5;have k6:=cell_regrown c6;have k7:=cell_regrown c7;have k8:=cell_regrown c8;refine wp_region_quiet_below X X ?_;rcases H with d1|⟨d1,d2⟩
 all_goals
  repeat (go_big_quiet_step (fail))
  refine wpQuiet_nil ?_;intro _ hw';obtain ⟨⟨dq,osq⟩,hw''⟩:=hw';subst hw'';go_wp2;go_ret;exact ⟨rfl,next HB.out (below_regrown _ _ _)⟩
theorem rk_ne (k:Int) (g l i a:Nat) (n:Int) (o:Bool) (s m:Nat) (d1:decide (1<=k)=true) (d2:decide (k<=4)=true) (P:Rc) (hP:pared ⟨k,g,l,i,a,n,o,s,m⟩=P) (hne:(⟨k,g,l,i,a,n,o,s,m⟩:Rc)≠P) (w:World):
  Q 111 #[.agg #[I k,U g,U l,U i,U a,I n,O o,U s,V m]] w (Rr0 w (O false)):=by
 obtain ⟨pk,pg,pl,pi,pa,pn,po,ps,pm⟩:=P;have hq:=fun wx=>ck8 k pk g l i a pg pl pi pa n pn o po s m ps pm wx
 rw [decide_eq_false hne] at hq;have HQ:=Z hq;clear hq;go_enter Tryz.func111,Tryz.ntmps111;go_wp2_with fail;obtain ⟨hb0,C⟩:=nw w 160 #[I k,U g,U l,U i,U a,I n,O o,U s,V m];generalize w.alloc _=w2 at*;have HB:=Z hb0;clear hb0;have c0:=C.at_ 0;have c1:=C.at_ 1;have c2:=C.at_ 2;have c3:=C.at_ 3;have c4:=C.at_ 4;have c5:=C.at_ 5;have c6:=C.at_ 6;have c7:=C.at_ 7;have c8:=C.at_ 8;clear C;simp at c0 c1 c2 c3 c4 c5 c6 c7 c8;have k0:=cell_regrown c0;have k1:=cell_regrown c1;have k2:=cell_regrown c2;have k3:=cell_regrown c3;have k4:=cell_regrown c4;have k5:=cell_regrown c5;have k6:=cell_regrown c6;have k7:=cell_regrown c7;have k8:=cell_regrown c8;refine wp_region_quiet_below X X ?_
 iterate 12 (go_big_quiet_step (first|(go_at_call 142; exact Calls.regrown_of (hP ▸ ag6 _ _ _ _ _ _ _ _ _ _))))
 go_big_quiet_want;refine by8 rfl rfl rfl X HQ.out ?_;go_frame;go_big_quiet_on
 repeat (go_big_quiet_step (fail))
 refine wpQuiet_nil ?_;intro _ hw';obtain ⟨⟨dq,osq⟩,hw''⟩:=hw';subst hw'';go_wp2;go_ret;exact ⟨rfl,next HB.out (below_regrown _ _ _)⟩
theorem ba8 (k:Int) (g l i a:Nat) (n:Int) (o:Bool) (s m:Nat) (ha:a<4294967296) (d1:decide (1<=k)=true) (d2:decide (k<=4)=true) (hP:pared ⟨k,g,l,i,a,n,o,s,m⟩=⟨k,g,l,i,a,n,o,s,m⟩) (res:Bool) (H:((i:Int) !=0)=false/\named k=true/\res=false\/(((i:Int) !=0)=false/\named k=false\/((i:Int) !=0)=true)/\(Am.right a n=false/\res=false\/Am.right a n=true/\(decide ((s:Int)<=1073741824)=false/\res=false\/decide ((s:Int)<=1073741824)=true/\(((m:Int)==65535)=true/\res=false\/((m:Int)==65535)=false/\res=true)))) (w:World):
  Q 111 #[.agg #[I k,U g,U l,U i,U a,I n,O o,U s,V m]] w (Rr0 w (O res)):=by
 have hq:=fun wx=>ck8 k k g l i a g l i a n n o o s m s m wx
 simp only [decide_true] at hq;have HQ:=Z hq;clear hq;go_enter Tryz.func111,Tryz.ntmps111;go_wp2_with fail;obtain ⟨hb0,C⟩:=nw w 160 #[I k,U g,U l,U i,U a,I n,O o,U s,V m];generalize w.alloc _=w2 at*;have HB:=Z hb0;clear hb0;have c0:=C.at_ 0;have c1:=C.at_ 1;have c2:=C.at_ 2;have c3:=C.at_ 3;have c4:=C.at_ 4;have c5:=C.at_ 5;have c6:=C.at_ 6;have c7:=C.at_ 7;have c8:=C.at_ 8;clear C;simp at c0 c1 c2 c3 c4 c5 c6 c7 c8;have k0:=cell_regrown c0;have k1:=cell_regrown c1;have k2:=cell_regrown c2;have k3:=cell_regrown c3;have k4:=cell_regrown c4;have k5:=cell_regrown c5;have k6:=cell_regrown c6;have k7:=cell_regrown c7;have k8:=cell_regrown c8;refine wp_region_quiet_below X X ?_
 iterate 12 (go_big_quiet_step (first|(go_at_call 142; exact Calls.regrown_of (hP ▸ ag6 _ _ _ _ _ _ _ _ _ _))))
 go_big_quiet_want;refine by8 rfl rfl rfl X HQ.out ?_;go_frame;go_big_quiet_on;rcases H with ⟨hi,hn,rfl⟩|⟨⟨hi,hn⟩|hi,⟨hr,rfl⟩|⟨hr,⟨hs,rfl⟩|⟨hs,⟨hm,rfl⟩|⟨hm,rfl⟩⟩⟩⟩
 all_goals
  repeat (go_big_quiet_step (first|(go_at_call 143; exact Calls.regrown_of (cs4 (by assumption) _))|(go_at_call 79; exact Calls.regrown_of (right_eq (by assumption) (by assumption) _))|(go_at_call 70; exact Calls.regrown_of (cs7 (by assumption) _))))
  refine wpQuiet_nil ?_;intro _ hw';obtain ⟨⟨dq,osq⟩,hw''⟩:=hw';subst hw'';go_wp2;go_ret;exact ⟨rfl,next HB.out (below_regrown _ _ _)⟩
theorem am3 (k:Int) (g l i a:Nat) (n:Int) (o:Bool) (s m:Nat) (ha:a<4294967296) (w:World):
  Q 111 #[.agg #[I k,U g,U l,U i,U a,I n,O o,U s,V m]] w (Rr0 w (O (right ⟨k,g,l,i,a,n,o,s,m⟩))):=by
 by_cases h1:1<=k
 case neg=>
  rw [show right ⟨k,g,l,i,a,n,o,s,m⟩=false by simp [right,h1]];exact cw9 k g l i a n o s m (.inl (decide_eq_false h1)) w
 by_cases h2:k<=4
 case neg=>
  rw [show right ⟨k,g,l,i,a,n,o,s,m⟩=false by simp [right,h2]];exact cw9 k g l i a n o s m (.inr ⟨decide_eq_true h1,decide_eq_false h2⟩) w
 have d1:=decide_eq_true h1;have d2:=decide_eq_true h2;by_cases hP:(⟨k,g,l,i,a,n,o,s,m⟩:Rc)=pared ⟨k,g,l,i,a,n,o,s,m⟩
 case neg=>
  rw [show right ⟨k,g,l,i,a,n,o,s,m⟩=false by simp only [right,decide_eq_false hP]; simp];exact rk_ne k g l i a n o s m d1 d2 _ rfl hP w
 have e1:∀ b1 b2 b3 b4:Bool,(i !=0||!named k)=b1->Am.right a n=b2->decide (s<=1073741824)=b3->(m==65535)=b4->right ⟨k,g,l,i,a,n,o,s,m⟩=(b1 && b2 && b3 && !b4):=by
  intro b1 b2 b3 b4 e1 e2 e3 e4;simp only [right,d1,d2,decide_eq_true hP,e1,e2,e3,e4,Bool.true_and]
 replace hP:=hP.symm;have es:decide ((s:Int)<=1073741824)=decide (s<=1073741824):=by rw [decide_eq_decide]; omega
 have em:((m:Int)==65535)=(m==65535):=by rw [Bool.eq_iff_iff]; simp; omega
 cases hi:(i==0)
 ·have hi':(i !=0||!named k)=true:=by simp [bne,hi]
  have ei:((i:Int) !=0)=true:=by have:=beq_eq_false_iff_ne.1 hi; simp; omega
  cases hr:Am.right a n
  ·rw [e1 _ _ _ _ hi' hr rfl rfl]; exact ba8 k g l i a n o s m ha d1 d2 hP _ (.inr ⟨.inr ei,.inl ⟨hr,rfl⟩⟩) w
  cases hs:decide (s<=1073741824)
  ·rw [e1 _ _ _ _ hi' hr hs rfl]; exact ba8 k g l i a n o s m ha d1 d2 hP _ (.inr ⟨.inr ei,.inr ⟨hr,.inl ⟨es.trans hs,rfl⟩⟩⟩) w
  cases hm:(m==65535)
  ·rw [e1 _ _ _ _ hi' hr hs hm]; exact ba8 k g l i a n o s m ha d1 d2 hP _ (.inr ⟨.inr ei,.inr ⟨hr,.inr ⟨es.trans hs,.inr ⟨em.trans hm,rfl⟩⟩⟩⟩) w
  ·rw [e1 _ _ _ _ hi' hr hs hm]; exact ba8 k g l i a n o s m ha d1 d2 hP _ (.inr ⟨.inr ei,.inr ⟨hr,.inr ⟨es.trans hs,.inl ⟨em.trans hm,rfl⟩⟩⟩⟩) w
 ·have ei:((i:Int) !=0)=false:=by have:=beq_iff_eq.1 hi; simp; omega
  cases hn:named k
  ·have hi':(i !=0||!named k)=true:=by simp [hn]
   cases hr:Am.right a n
   ·rw [e1 _ _ _ _ hi' hr rfl rfl]; exact ba8 k g l i a n o s m ha d1 d2 hP _ (.inr ⟨.inl ⟨ei,hn⟩,.inl ⟨hr,rfl⟩⟩) w
   cases hs:decide (s<=1073741824)
   ·rw [e1 _ _ _ _ hi' hr hs rfl]; exact ba8 k g l i a n o s m ha d1 d2 hP _ (.inr ⟨.inl ⟨ei,hn⟩,.inr ⟨hr,.inl ⟨es.trans hs,rfl⟩⟩⟩) w
   cases hm:(m==65535)
   ·rw [e1 _ _ _ _ hi' hr hs hm]; exact ba8 k g l i a n o s m ha d1 d2 hP _ (.inr ⟨.inl ⟨ei,hn⟩,.inr ⟨hr,.inr ⟨es.trans hs,.inr ⟨em.trans hm,rfl⟩⟩⟩⟩) w
   ·rw [e1 _ _ _ _ hi' hr hs hm]; exact ba8 k g l i a n o s m ha d1 d2 hP _ (.inr ⟨.inl ⟨ei,hn⟩,.inr ⟨hr,.inr ⟨es.trans hs,.inl ⟨em.trans hm,rfl⟩⟩⟩⟩) w
  ·have hi':(i !=0||!named k)=false:=by simp [bne,hi,hn]
   rw [e1 _ _ _ _ hi' rfl rfl rfl]; exact ba8 k g l i a n o s m ha d1 d2 hP _ (.inl ⟨ei,hn,rfl⟩) w
end
end Go.Proofs.YtafkfnodcemefaaGreat
