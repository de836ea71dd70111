import Derived.Test.YtafkfnodcemefaaGreatB24
import Derived.Test.YtafkfnodcemefaaGreatB18
set_option maxHeartbeats 8000000
set_option maxRecDepth 100000
set_option maxRecDepth 20000
namespace Go.Proofs.YtafkfnodcemefaaGreat.Sp
open _root_.Go.Proofs.Tryz (prog)
section
open Go.RowKit Go.Maps Sc
attribute [local go_sem] Oper.semAt_some
def lenOf:Value->Nat
 | .slice _ n _=>n
 |_=>0
def _root_.Go.Proofs.YtafkfnodcemefaaGreat.Sc.six (b:List Nat) (j:Nat):Nat×Nat×Nat:=(b.getD (6*j) 0,2*b.getD (6*j+1) 0,Sc.val ((b.drop (6*j+2)).take 4))
def _root_.Go.Proofs.YtafkfnodcemefaaGreat.Sc.picksOf (b:List Nat):List (Nat×Nat×Nat):=(List.range (b.length / 6)).map (Sc.six b)
def pcl (x:Nat×Nat×Nat):List Value:=[I (x.1:Nat),I (x.2.1:Nat),U (x.2.2:Nat)]
theorem elemP:Elem prog 137 176 pcl 3 24:=⟨by kernel_rfl,ae2 (z:= .agg #[I 0,I 0,U 0]) X rfl,G,fun _=>rfl,fun x v hv=>by simp only [pcl,List.mem_cons,List.not_mem_nil,or_false] at hv; rcases hv with rfl|rfl|rfl<;>rfl,G⟩
abbrev Op3:=Ol 176 pcl 3
theorem db8 {b:List Nat} {j:Nat} (h:j<b.length / 6):(Sc.picksOf b).take (j+1)=(Sc.picksOf b).take j++[Sc.six b j]:=by
 have hl:j<(Sc.picksOf b).length:=by simp [Sc.picksOf,h]
 rw [List.take_succ_eq_append_getElem hl];simp [Sc.picksOf]
theorem bs9 (b:List Nat):(Sc.picksOf b).length=b.length / 6:=by simp [Sc.picksOf]
theorem dx9 (w:World) (e:TypeId) (s:ByteArray):Below w.heap.size w (Lib.bytesWorld w e s):=⟨rfl,rfl,rfl,by rw [Lib.bytesWorld_size]; omega,fun i hi=>Lib.bytesWorld_at_old w e s i hi⟩
theorem bw_sl (w:World) (s:ByteArray) (p:List UInt8) (hs:s=⟨p.toArray⟩) (hp:p.length<=5000) {L:Nat} (hL:L=p.length):Sl (Lib.bytesWorld w 5 s) (some (Y w.heap.size 0)) L (grownCap w L 0 5) (Sc.nats p):=by
 subst hL;refine ⟨⟨Sc.nats_length p,aa5 hp,(fun c hc=>by unfold Sc.nats at hc; obtain ⟨b,-,rfl⟩:=List.mem_map.1 hc; exact b.toNat_lt),fun k hk=>⟨_,rfl,?_⟩⟩,grownCap_ge w p.length 0 _,fun _=>⟨_,_,rfl⟩⟩;have hk2:k<s.size:=by rw [hs,ba0]; exact hk
 rw [Addr.add_mid,Nat.zero_add,Lib.bytesWorld_cell w 5 s k hk2];rw [hs];simp [Sc.nats,hk]
theorem ea6 {W:World} {A:Option Addr} {m c:Nat} {bs:List Nat} (h:Sl W A m c bs) (h6:6<=m):∃ A' c',(∀ W':World,(Instr.slice 45 (.slice A m c) (some (I 6)) none none).run prog W'= .ok (.slice A' (m - 6) c') W')/\(∀ u,Sl u A m c bs->Sl u A' (m - 6) c' (bs.drop 6))/\∀ b off,A=some ⟨b,off,none⟩->∃ off',A'=some ⟨b,off',none⟩:=by
 obtain ⟨b,off,rfl⟩:=h.plain G;refine ⟨_,_,fun W'=>bn5 _ m c 6 h6 h.cap W' rfl rfl rfl rfl,fun u hu=>?_,fun b' off' e'=>?_⟩
 ·by_cases e:c=6
  ·rw [if_pos e]
   have hm:m=6:=by have:=hu.cap; omega
   subst hm;exact ⟨⟨by rw [List.length_drop,hu.bytes.1],by unfold maxLen; omega,fun c hc=>hu.bytes.2.2.1 c (List.mem_of_mem_drop hc),fun k hk=>by omega⟩,G,fun h=>by omega⟩
  ·rw [if_neg e]
   exact hu.rest 6 h6
 ·cases e'
  by_cases e:c=6
  ·rw [if_pos e]; exact ⟨_,rfl⟩
  ·rw [if_neg e]; exact ⟨off+6,by rw [Option.map_some,Addr.add_mid]⟩
theorem chosen_any {e:Ev} (hp:e.p.length<=5000) (w:World):
  Q 66 #[.agg (ecs e)] w fun x w'=>∃ v,x= .returned v/\Op3 w.heap.size v (Sc.picksOf (Sc.nats e.p)) w'/\Bw w w':=by
 obtain ⟨kind,i,k,n,a,len,p⟩:=e;simp only at hp;unfold ecs;simp only;obtain ⟨s,hs⟩:∃ s:ByteArray,s=⟨p.toArray⟩:=⟨_,rfl⟩;rw [<- hs];have hsz:s.size=p.length:=by rw [hs]; exact ba0 p
 obtain ⟨L,hL⟩:=eX p.length;rw [<- hL] at hsz hp;have cvt:∀ W:World,(convert 9 45 (Ss s)).run prog W= .ok (Lt W.heap.size s.size (grownCap W s.size 0 5)) (Lib.bytesWorld W 5 s):=fun W=>Lib.run_convert_string_bytes (u:= .string) W 9 45 5 s kr kr kr
 rw [hsz] at cvt;obtain ⟨hbs,BX⟩:=nw w 30 #[I kind,I i,I k,I n,U (a:Nat),I len,Ss s];have X:=H4 hbs hs hL hsz;clear hbs hs hL;go_enter Tryz.func66,Tryz.ntmps66;go_upto_region 2 with fail;generalize w.alloc _=w1 at*;have c6:w1.cell? (Aa w.heap.size 6)=some (Ss s):=BX.at_ 6;clear BX;have hSl:=bw_sl w1 s p X.out.2.1 (by have:=X.out.2.2.1; omega) X.out.2.2.1;have hbw:=X.out.1.trans ((dx9 w1 5 s).mono X.out.1.size);obtain ⟨G,hG⟩:=eX w1.heap.size;have hGw:w.heap.size<=G:=by rw [hG]; exact X.out.1.size
 have hG2:G+1<=(Lib.bytesWorld w1 5 s).heap.size:=by rw [Lib.bytesWorld_size,hG]; exact Nat.le_refl _
 have Y:=H4 hSl hbw hGw hG2;have HGG:=Zq hG;clear hSl hbw hGw hG2 hG;go_wp2_with fail;generalize Lib.bytesWorld w1 5 s=w2 at*;go_loopw [3,4] (fun v b wr=>∃ (j pn pc m c:Nat) (pa A:Option Addr),v= .slice pa pn pc/\b= .slice A m c/\m<=L/\Hid (pn=j/\j<=L / 6/\m=L - 6*j/\6*j<=L/\Op3 (G+1) (.slice pa pn pc) ((Sc.picksOf (Sc.nats p)).take j) wr/\Sl wr A m c ((Sc.nats p).drop (6*j))/\Bw w wr/\(∀ bb oo,A=some ⟨bb,oo,none⟩->bb=G)/\G+1<=wr.heap.size)) (fun _ b _=>lenOf b)
 case atStart=>exact ⟨0,0,0,L,_,none,_,rfl,rfl,Nat.le_refl _,Zq ⟨rfl,Nat.zero_le _,og,og,by simpa using Ol.nil _ _,by simpa using Y.out.1,Y.out.2.1,fun bb oo e=>by cases e; exact HGG.out.symm,Y.out.2.2.2⟩⟩
 case round=>
  obtain ⟨j,pn,pc,m,c,pa,A,rfl,rfl,hmL,R⟩:=hrel;obtain rfl:j=pn:=R.out.1.symm;have hGw:=Y.out.2.2.1;clear Y c6;by_cases h6:6<=m
  ·have d1:=dT ((6:Int)<=(m:Int))
   have hS:=R.out.2.2.2.2.2.1;obtain ⟨A6,c6',hcut7,hs6,hA6⟩:=ea6 hS h6;obtain ⟨b,off,rfl⟩:=hS.plain og;have hbG:=R.out.2.2.2.2.2.2.2.1 b off rfl;subst hbG;have c0:wr.cell? (Aa b off)=some (Yy (((Sc.nats p).drop (6*j)).getD 0 0:Nat)):=hS.at_ (k:=0) og;have c1:wr.cell? (Aa b (off+1))=some (Yy (((Sc.nats p).drop (6*j)).getD 1 0:Nat)):=hS.at_ (k:=1) og;have hSd:Sl wr.drew (some (Aa b off)) m c ((Sc.nats p).drop (6*j)):=⟨hS.bytes,hS.cap,hS.plain⟩;have HG:=ae1 hSd 2 4 og og (c - 2);have g0:((Sc.nats p).drop (6*j)).getD 0 0=(Sc.nats p).getD (6*j) 0:=by simp [List.getD,List.getElem?_drop]
   have g1:((Sc.nats p).drop (6*j)).getD 1 0=(Sc.nats p).getD (6*j+1) 0:=by simp [List.getD,List.getElem?_drop]
   have g2:(((Sc.nats p).drop (6*j)).drop 2).take 4=((Sc.nats p).drop (6*j+2)).take 4:=by rw [List.drop_drop]
   have hx0:=hS.bytes.lt 0;have hx1:=hS.bytes.lt 1;rw [g2] at HG;rw [g0] at c0 hx0;rw [g1] at c1 hx1;have hsix:Sc.six (Sc.nats p) j=((Sc.nats p).getD (6*j) 0,2*(Sc.nats p).getD (6*j+1) 0,Sc.val (((Sc.nats p).drop (6*j+2)).take 4)):=rfl;have hjL:j<(Sc.nats p).length / 6:=by rw [Sc.nats_length,<- X.out.2.2.1]; have:=R.out.2.2.1; omega
   have htk:=db8 hjL;rw [hsix] at htk;generalize (Sc.nats p).getD (6*j) 0=x0 at*;generalize (Sc.nats p).getD (6*j+1) 0=x1 at*;generalize Sc.val (((Sc.nats p).drop (6*j+2)).take 4)=t at*;have sl2:∀ W:World,(Instr.slice 45 (Mt b off m c) (some (I 2)) (some (I 6)) none).run prog W= .ok (Mt b (off+2) 4 (c - 2)) W:=fun W=>al5 b off m c 2 6 og (by have:=hS.cap; omega) W rfl rfl rfl rfl rfl
   have hO:=R.out.2.2.2.2.1.drew;have hsm:j<=1000000:=by have:=R.out.2.1; omega
   have hln:((Sc.picksOf (Sc.nats p)).take j).length=j:=by rw [List.length_take,bs9]; omega
   obtain ⟨g',cap',w7,hrun,hO7,hT7,hat⟩:=hO.push1 elemP R.out.2.2.2.2.2.2.2.2 (x0,2*x1,t) (by rw [hln]; omega) 137;rw [hln] at hrun hO7;rw [<- htk] at hO7;have hrun2:(Builtin.append_ #[137,137] 137 #[.slice pa j pc,Lt wr.heap.size 1 1]).run prog (wr.drew.alloc (.cells #[I (x0:Nat),I (2*(x1:Int)),U (t:Nat)] 176))= .ok (Lt g' (j+1) cap') w7:=by
    have e2:(pcl (x0,2*x1,t)).toArray=#[I (x0:Nat),I (2*(x1:Int)),U (t:Nat)]:=by simp [pcl]
    rw [e2] at hrun;exact hrun
   have hnb:b∉(Value.slice pa j pc).ownBlock.toList:=fun hm=>by
    have:=(hO.lt (by simpa using hm)).2;omega
   have hS7:Sl w7 (some (Aa b off)) m c ((Sc.nats p).drop (6*j)):=by
    refine ⟨⟨hS.bytes.1,hS.bytes.2.1,hS.bytes.2.2.1,fun k hk=>?_⟩,hS.cap,hS.plain⟩;obtain ⟨ad,e,hc⟩:=hSd.bytes.2.2.2 k hk
    cases e;exact ⟨_,rfl,hT7.cell hc (by rw [add_block]; exact hnb)⟩
   have hB7:Below w.heap.size w w7:=R.out.2.2.2.2.2.2.1.drew.trans (hT7.below (B:=w.heap.size) (fun i hi=>by have:=(hO.lt (by simpa using hi)).2; omega) R.out.2.2.2.2.2.2.1.size);have e7:=hS7.at_ (k:=0) og;have f7:=hS7.at_ (k:=1) og;rw [g0] at e7;rw [g1] at f7;rw [Nat.add_zero] at e7;have s6:=hs6 w7 hS7;rw [List.drop_drop] at s6;have Z:=Zq (And.intro hO7 (And.intro s6 (And.intro hB7 (And.intro (fun bb oo (e:A6=some ⟨bb,oo,none⟩)=>by obtain ⟨o',h⟩:=hA6 b off rfl; rw [h] at e; cases e; rfl:∀ bb oo,A6=some ⟨bb,oo,none⟩->bb=b) (Nat.le_trans R.out.2.2.2.2.2.2.2.2 hT7.size)))));have q0:wr.drew.cell? (Aa b off)=some (Yy (x0:Nat)):=c0;have q1:wr.drew.cell? (Aa b (off+1))=some (Yy (x1:Nat)):=c1;have hba:=aa0 wr.drew (.cells #[I (x0:Nat),I (2*(x1:Int)),U (t:Nat)] 176);have a0:=held hba q0;have a1:=held hba q1;have i0:(0:Int)<(m:Int):=og;have i1:(1:Int)<(m:Int):=og;obtain ⟨m6,hm6⟩:=eX (m - 6);rw [<- hm6] at hcut7 Z;have M:=Zq hm6;clear hs6 hA6 hS hSd g0 g1 g2 hsix hjL htk hO hsm hln hO7 hT7 hat hrun hnb hS7 hB7 s6 hba c0 c1 hm6;go_upto_region 5 with fail;refine wp_region_held_drew (S:=fun u=>(u.cell? (Aa b off)=some (Yy (x0:Nat))/\u.cell? (Aa b (off+1))=some (Yy (x1:Nat)))) kr ⟨q0,q1⟩ (fun hHeld=>?_);refine tk 0 (.slice pa j pc) rfl hHeld ?_;go_frame;refine tk 1 (Mt b off m c) rfl hHeld ?_;go_frame;refine aa6 (i:=2) (v:= Qt b off) rfl kr kr kr (fun _ _ _ h=>h) (.inl ⟨rfl,?_⟩) hHeld ?_
   ·(intro w hSw; go_simp; try (intro e0; omega))
   go_frame;refine tk 3 (Yy (x0:Nat)) rfl hHeld ?_;go_frame;refine aa6 (i:=4) (v:= I (x0:Nat)) rfl kr kr kr (fun _ _ _ h=>h) (.inl ⟨rfl,?_⟩) hHeld ?_
   ·(intro w hSw; go_simp; try exact wrap64 og)
   go_frame;refine tk 5 (Mt b off m c) rfl hHeld ?_;go_frame;refine aa6 (i:=6) (v:= Qt b (off+1)) rfl kr kr kr (fun _ _ _ h=>h) (.inl ⟨rfl,?_⟩) hHeld ?_
   ·(intro w hSw; go_simp; try (intro e0; omega))
   go_frame;refine tk 7 (Yy (x1:Nat)) rfl hHeld ?_;go_frame;refine aa6 (i:=8) (v:= I (x1:Nat)) rfl kr kr kr (fun _ _ _ h=>h) (.inl ⟨rfl,?_⟩) hHeld ?_
   ·(intro w hSw; go_simp; try exact wrap64 og)
   go_frame;refine aa6 (i:=9) (v:= I (2*(x1:Int))) rfl kr kr kr (fun _ _ _ h=>h) (.inl ⟨rfl,?_⟩) hHeld ?_
   ·(intro w hSw; go_simp; try (rw [IntKind.wrap_i64]; omega))
   go_frame;refine tk 10 (Mt b off m c) rfl hHeld ?_;go_frame;refine tk 11 (Mt b (off+2) 4 (c - 2)) rfl hHeld ?_;go_frame;refine rl 12 rfl fun K hK=>?_
   go_simp;refine HG.mono ?_;rintro e u ⟨rfl,rfl⟩;refine hK.out _ _ ⟨q0,q1⟩ (fun hHeld=>?_);clear hK K HG;try go_frame
   refine tk 13 (.agg #[I (x0:Nat),I (2*(x1:Int)),U (t:Nat)]) rfl hHeld ?_;go_frame;refine rl 14 rfl fun K hK=>?_
   go_simp;refine hK.out _ _ ⟨a0,a1⟩ (fun hHeld=>?_);clear hK K;try go_frame
   refine rl 15 rfl fun K hK=>?_
   refine ac6 rfl _ _ _ rfl _ _ _ _ _ ?_ ?_ ?_ hrun2 ?_<;>first|rfl|skip
   refine hK.out _ _ ⟨e7,f7⟩ (fun hHeld=>?_);clear hK K a0 a1 hrun2 q0 q1;try go_frame
   refine rl 16 rfl fun K hK=>?_
   go_simp;refine hK.out _ _ ⟨e7,f7⟩ (fun hHeld=>?_);clear hK K e7 f7 hHeld;refine wpAnyH_done kr ?_ _;try go_frame
   go_wp2_with fail;go_roundw
   case rel=>exact ⟨j+1,j+1,cap',m6,c6',some (Aa g' 0),A6,rfl,rfl,by have:=M.out; omega,Zq ⟨rfl,by have:=R.out.2.2.1; have:=R.out.2.1; omega,by have:=M.out; have:=R.out.2.2.1; omega,by have:=R.out.2.2.1; omega,Z.out.1,by have:=Z.out.2.1; rw [show 6*(j+1)=6*j+6 by omega]; exact this,Z.out.2.2.1,Z.out.2.2.2.1,Z.out.2.2.2.2⟩⟩
   case measure=>have:=M.out; simp [lenOf]; omega
  ·have d1:=df ((6:Int)<=(m:Int))
   have hj:j=L / 6:=by have:=R.out.2.2.1; have:=R.out.2.1; omega
   have hfull:(Sc.picksOf (Sc.nats p)).take j=Sc.picksOf (Sc.nats p):=List.take_of_length_le (by rw [bs9,Sc.nats_length,<- X.out.2.2.1,hj]; exact Nat.le_refl _);have hO:=R.out.2.2.2.2.1;rw [hfull] at hO;have Z:=Zq (And.intro (hO.mono (show w.heap.size<=G+1 by omega)) R.out.2.2.2.2.2.2.1);clear hO hfull hj R;go_wp2_with fail;go_ret;exact ⟨_,rfl,Z.out.1,Z.out.2⟩
end
end Go.Proofs.YtafkfnodcemefaaGreat.Sp
