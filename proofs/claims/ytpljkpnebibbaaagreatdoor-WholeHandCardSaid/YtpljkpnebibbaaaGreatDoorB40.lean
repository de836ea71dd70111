import Derived.Test.YtpljkpnebibbaaaGreatDoorB39
/-
  WholeHand: the walk.
  WholeHand: two machines, a link of whatever cost, what each owns, so many rounds, a crash or none: what is told is what is reckoned by hand; the arguments read as they did. The listed tables of the library hold what its text says (tied by the card). No other condition.
-/
set_option maxHeartbeats 8000000
set_option maxRecDepth 100000
namespace Go.Proofs.YtpljkpnebibbaaaGreatDoor
open _root_.Go.Proofs.Tryz (prog)
section
open Go.RowKit Go.Maps Rm Fm Sb
attribute [local go_sem] Oper.semAt_some
theorem Ol.fresh {α:Type} {e:TypeId} {cl:α->List Value} {k:Nat} (hk:∀ x,(cl x).length=k) (W:World) {B:Nat} (hB:B<=W.heap.size) (xs:List α) (hs:xs.length<=1000):Ol e cl k B (.slice (some ⟨W.heap.size,0,none⟩) xs.length xs.length) xs (W.alloc (.cells (xs.flatMap cl).toArray e)):=
 ⟨aa9 hk xs,.inr ⟨W.heap.size,xs.length,(xs.flatMap cl).toArray,rfl,hB,Blk.new W e _,Nat.le_refl _,by unfold maxLen; omega,by rw [List.size_toArray,aa9 hk],by rw [<- aa9 hk]; exact List.take_of_length_le (Nat.le_refl _)⟩⟩
section
variable {w wr w1:World} {v7 v8:Value} {es:List Sc.Ev} {ls:List ByteArray}
theorem QwR.more {p:Option Addr} {n c cp m:Nat} {ad:Addr} (h:QwR w v7 (.slice p n c) es ls wr) (ys:List ByteArray) (hm:ys.length=m) (hy:0<m) (hx:∀ j u,(ys.flatMap stc)[j]?=some u->wr.cell? (ad.add j)=some u) (hn:n<=1000) (hm2:m<=1000):
  ∃ g' cap' W',(Builtin.append_ #[31,31] 31 #[.slice p n c,.slice (some ad) m cp]).run prog wr= .ok (.slice (some ⟨g',0,none⟩) (n+m) cap') W'/\QwR w v7 (.slice (some ⟨g',0,none⟩) (n+m) cap') es (ls++ys) W'/\Turn (Value.slice p n c).ownBlock.toList wr W':=by
 obtain ⟨p',c',e1,-⟩:=Ol.form h.ls;injection e1 with e1 e2 e3;subst e2;obtain ⟨g',cap',W',hrun,hO,hT,hat⟩:=Ol.append elemStr h.ls h.below.size (c:=cp) ys hm hy hx (by omega) 31;exact ⟨g',cap',W',hrun,⟨Ol.turn h.ev hT (fun b hb hm=>Ol.ne h.ev h.ls (by decide) hb (by simpa using hm)),hO,own_below h.ls h.below h.below.size hT⟩,hT⟩
theorem QwR.more1 {p:Option Addr} {n c m:Nat} (h:QwR w v7 (.slice p n c) es ls wr) (ys:List ByteArray) (hm:ys.length=m) (hy:0<m) (hn:n<=1000) (hm2:m<=1000):
  ∃ g' cap' W',(Builtin.append_ #[31,31] 31 #[.slice p n c,.slice (some ⟨wr.heap.size,0,none⟩) m m]).run prog (wr.alloc (.cells (ys.flatMap stc).toArray 9))= .ok (.slice (some ⟨g',0,none⟩) (n+m) cap') W'/\QwR w v7 (.slice (some ⟨g',0,none⟩) (n+m) cap') es (ls++ys) W':=by
 have hb:=aa0 wr (.cells (ys.flatMap stc).toArray 9);have hX:=Blk.new wr 9 (ys.flatMap stc).toArray;obtain ⟨g',cap',W',h1,h2,-⟩:=(h.held hb).more (cp:=m) (ad:=⟨wr.heap.size,0,none⟩) ys hm hy (fun j u hj=>by
  rw [Addr.add_mid,Nat.zero_add,hX.at_ j];simpa using hj) hn hm2
 exact ⟨g',cap',W',h1,h2⟩
theorem QwR.events {p:Option Addr} {n c m:Nat} (h:QwR w (.slice p n c) v8 es ls wr) (xs:List Sc.Ev) (hm:xs.length=m) (hy:0<m) (hn:n<=1000) (hm2:m<=1000):
  ∃ g' cap' W',(Builtin.append_ #[30,30] 30 #[.slice p n c,.slice (some ⟨wr.heap.size,0,none⟩) m m]).run prog (wr.alloc (.cells (xs.flatMap Sp.ecl).toArray 29))= .ok (.slice (some ⟨g',0,none⟩) (n+m) cap') W'/\QwR w (.slice (some ⟨g',0,none⟩) (n+m) cap') v8 (es++xs) ls W':=by
 have hb:=aa0 wr (.cells (xs.flatMap Sp.ecl).toArray 29);have hX:=Blk.new wr 29 (xs.flatMap Sp.ecl).toArray;have h':=h.held hb;obtain ⟨p',c',e1,-⟩:=Ol.form h'.ev;injection e1 with e1 e2 e3;subst e2;obtain ⟨g',cap',W',hrun,hO,hT,hat⟩:=Ol.append Sp.elemE h'.ev h'.below.size (c:=m) (ad:=⟨wr.heap.size,0,none⟩) xs hm hy (fun j u hj=>by
  rw [Addr.add_mid,Nat.zero_add,hX.at_ j];simpa using hj) (by omega) 30
 exact ⟨g',cap',W',hrun,hO,Ol.turn h'.ls hT (fun b hb hm=>Ol.ne h'.ls h'.ev (by decide) hb (by simpa using hm)),own_below h'.ev h'.below h'.below.size hT⟩
end
def hE5 (x:Int):List Sc.Ev:=[bev 0,bev 1,lev x,oev 0,oev 1]
def hCells (x:Int):Array Value:=#[.int .i64 0,.int .i64 0,.int .i64 0,.int .i64 0,.int .u32 0,.int .i64 0,.string ⟨#[]⟩,.int .i64 0,.int .i64 1,.int .i64 0,.int .i64 0,.int .u32 0,.int .i64 0,.string ⟨#[]⟩,
 .int .i64 3,.int .i64 0,.int .i64 1,.int .i64 x,.int .u32 0,.int .i64 0,.string ⟨#[]⟩,.int .i64 4,.int .i64 0,.int .i64 0,.int .i64 0,.int .u32 ((167772160+0*65536:Nat):Int),.int .i64 16,.string ⟨#[]⟩,.int .i64 4,.int .i64 1,.int .i64 0,.int .i64 0,.int .u32 ((167772160+1*65536:Nat):Int),.int .i64 16,.string ⟨#[]⟩]
theorem dh8 (x:Int):((hE5 x).flatMap Sp.ecl).toArray=hCells x:=rfl
theorem di9 {x:Int} {R:Nat} {crash:Bool}:2<=(hLs x R crash 0).length:=by
 unfold hLs;rw [if_pos rfl]
 cases crash
 ·exact Nat.le_succ _
 ·rw [if_pos rfl]
  unfold hLc
  cases decide (2<=R)
  ·exact Nat.le_refl _
  ·exact Nat.le_succ _
theorem dh4 {m R:Nat} (h:m=5+R):m=hEn R false:=by rw [h]; rfl
theorem dh3 {m R:Nat} (h:m=5+R):m+2=hEn R true:=by rw [h]; rfl
theorem di8 {x:Int} {R:Nat}:hE x R false=hE5 x++List.replicate R rev:=by
 unfold hE;rw [if_neg (by decide),List.append_nil];rfl
theorem di7 {x:Int} {R:Nat}:hE x R true=hE5 x++List.replicate R rev++[cev,bev 0]:=by
 unfold hE;rw [if_pos rfl];rfl
theorem di6 {m R:Nat} (h:m=5+R):List.replicate m okA++[okA,okA]=List.replicate (hEn R true) okA:=by
 rw [<- dh3 h,List.replicate_succ',List.replicate_succ',List.append_assoc];rfl
structure HwR (w:World) (x:Int) (R:Nat) (crash:Bool) (v9 v10 v13:Value) (u:World):Prop where
 ex:∃ (p7 p8 pf:Option Addr) (c7 c8 nf cf:Nat),v9= .slice p7 (hEn R crash) c7/\v10= .slice p8 (hEn R crash) c8/\v13= .slice pf nf cf/\nf=(hLs x R crash 0).length/\QwR w (.slice p7 (hEn R crash) c7) (.slice p8 (hEn R crash) c8) (hE x R crash) (List.replicate (hEn R crash) okA) u/\∃ B,w.heap.size<=B/\Lns B (.slice pf nf cf) (hLs x R crash 0) u
theorem dh7 (a b:Int) (crash:Bool) (w:World) (ht:Tab w):Calls prog 3 #[.int .i64 a,.int .i64 b,.bool crash] w fun e w'=>e= .returned (.bool true)/\Below w.heap.size w w':=by
 obtain ⟨x0,hx0,m1⟩:=dh5 a 511 (by omega);obtain ⟨y0,hy0,m2⟩:=dh5 b 7 (by omega);replace m1:bits .and .i64 a 511=(x0:Int):=m1;replace m2:bits .and .i64 b 7=(y0:Int):=m2;obtain ⟨t,htt⟩:∃ t:Nat,1+(x0:Int)=(t:Int):=⟨1+x0,by omega⟩;obtain ⟨R,hRR⟩:∃ R:Nat,1+(y0:Int)=(R:Int):=⟨1+y0,by omega⟩;have ht1:1<=t:=by omega
 have ht2:t<=512:=by omega
 have hR1:1<=R:=by omega
 have hR8:R<=8:=by omega
 have k1:wrap64 (1+(x0:Int))=1+(x0:Int):=IntWalk.wrap64_in _ (by omega);have k2:wrap64 (1+(y0:Int))=1+(y0:Int):=IntWalk.wrap64_in _ (by omega);have HA:=dh9 w;have HT:=Lib.hid ht;clear ht;go_enter Tryz.func3,Tryz.ntmps3;go_upto_region 5 with (go_at_call 4; refine HA.mono ?_; rintro e w1 ⟨rfl,hb1⟩);have HP:=cg9 0 (by omega) w1;replace HP:Calls prog 5 #[.int .i64 0,.int .i64 0] w1 fun e w'=>e= .returned (.agg #[.int .u32 ((167772160+0*65536:Nat):Int),.int .i64 16])/\Below w1.heap.size w1 w':=HP
 clear HA m1 m2 htt hRR k1 k2 hx0 hy0;go_upto_region 6 with (go_at_call 5; refine HP.mono ?_; rintro e w2 ⟨rfl,hb2⟩);have PB:=Blk.new w2 25 #[.int .u32 ((167772160+0*65536:Nat):Int),.int .i64 16];have hb3:=next (next hb1 hb2) (aa0 w2 (.cells #[.int .u32 ((167772160+0*65536:Nat):Int),.int .i64 16] 25));clear HP hb1 hb2;generalize w2.alloc _=w3 at*;generalize w2.heap.size=pb at*;have HP:=cg9 1 (by omega) w3;replace HP:Calls prog 5 #[.int .i64 1,.int .i64 0] w3 fun e w'=>e= .returned (.agg #[.int .u32 ((167772160+1*65536:Nat):Int),.int .i64 16])/\Below w3.heap.size w3 w':=HP
 go_upto_region 7 with (go_at_call 5; refine HP.mono ?_; rintro e w4 ⟨rfl,hb4⟩);obtain ⟨hbn,QB⟩:=nw w4 25 #[.int .u32 ((167772160+1*65536:Nat):Int),.int .i64 16];have PB4:=(PB.held hb4).held hbn;have hb5:=next (next hb3 hb4) hbn;clear HP hb3 hb4 hbn PB;generalize w4.alloc _=w5 at*;generalize w4.heap.size=qb at*;have c0:=PB4.at_ 0;have c1:=PB4.at_ 1;have d0:=QB.at_ 0;have d1:=QB.at_ 1;have B5:=Lib.hid hb5;have S5:=Ol.fresh (e:=29) Sp.elemE.len w5 (Nat.le_refl _) (hE5 t) (Nat.le_of_ble_eq_true rfl);rw [dh8] at S5;have hbe:=aa0 w5 (.cells (hCells t) 29);unfold hCells at S5 hbe;clear hb5 PB4 QB;go_upto_region 8 with fail;generalize w5.alloc _=w6 at*;clear c0 c1 d0 d1;have S6:=Ol.fresh (e:=9) elemStr.len w6 hbe.size (List.replicate 5 okA) (by decide);have hbs:=aa0 w6 (.cells ((List.replicate 5 okA).flatMap stc).toArray 9);have e5:((List.replicate 5 okA).flatMap stc).toArray=#[.string ⟨#[111,107]⟩,.string ⟨#[111,107]⟩,.string ⟨#[111,107]⟩,.string ⟨#[111,107]⟩,.string ⟨#[111,107]⟩]:=rfl;rw [e5] at S6 hbs;have S0:Hid (QwR w5 (.slice (some ⟨w5.heap.size,0,none⟩) (5+0) 5) (.slice (some ⟨w6.heap.size,0,none⟩) (5+0) 5) (hE5 t++List.replicate 0 rev) (List.replicate (5+0) okA) (w6.alloc (.cells #[.string ⟨#[111,107]⟩,.string ⟨#[111,107]⟩,.string ⟨#[111,107]⟩,.string ⟨#[111,107]⟩,.string ⟨#[111,107]⟩] 9))):=Lib.hid ⟨by rw [List.replicate_zero,List.append_nil]; exact Ol.held S5 hbs,S6,next hbe hbs⟩;clear S5 S6 hbe hbs e5;go_upto_region 9 with fail;generalize w6.alloc _=w7 at*;generalize w5.heap.size=g5 at S0 ⊢;generalize w6.heap.size=g6 at S0 ⊢;go_wp2_with fail;go_loopw [9,10,11] (fun v9 v10 i wr=>∃ (r:Nat) (p7 p8:Option Addr) (m7 c7 c8:Nat),i= .int .i64 (r:Nat)/\v9= .slice p7 m7 c7/\v10= .slice p8 m7 c8/\r<=R/\Hid (m7=5+r/\QwR w5 (.slice p7 m7 c7) (.slice p8 m7 c8) (hE5 t++List.replicate r rev) (List.replicate m7 okA) wr)) (fun _ _ i _=>R - (intOf i).toNat)
 case atStart=>exact ⟨0,_,_,_,_,_,rfl,rfl,rfl,Nat.zero_le _,Lib.hid ⟨rfl,S0.out⟩⟩
 case round=>
  clear S0;obtain ⟨r,p7,p8,m7,c7,c8,rfl,rfl,rfl,hr,M7⟩:=hrel;have Y:=Lib.hid M7.out.2;have hm7:m7<=13:=by have:=M7.out.1; omega
  by_cases hlt:r<R
  ·have hrz:(r:Int)<(R:Int):=by omega
   obtain ⟨g',cap',W',hrun,h1⟩:=Y.out.event rev (by omega);replace hrun:(Builtin.append_ #[30,30] 30 #[.slice p7 m7 c7,.slice (some ⟨_,0,none⟩) 1 1]).run prog (World.alloc _ (.cells #[.int .i64 10,.int .i64 0,.int .i64 0,.int .i64 0,.int .u32 0,.int .i64 0,.string ⟨#[]⟩] 29))=_:=hrun;obtain ⟨g2,cap2,W2,hrun2,h2⟩:=h1.line okA (by omega);rw [List.append_assoc,<- List.replicate_succ',<- List.replicate_succ'] at h2;have Z:=Lib.hid (show m7+1=5+(r+1)/\_ from ⟨by have:=M7.out.1; omega,h2⟩);clear h1 h2 Y hm7 M7;unfold okA at hrun2;go_wp2_with (first|(at_builtin; refine Lib.wpList_append_run _ rfl (.tmp 41) (.tmp 43) 30 30 rfl _ _ rfl rfl _ _ hrun ?_)|(at_builtin; refine Lib.wpList_append_run _ rfl (.tmp 45) (.tmp 46) 31 31 rfl _ _ rfl rfl _ _ hrun2 ?_)|fail);go_roundw
   case rel=>exact ⟨r+1,_,_,_,_,_,by go_num,rfl,rfl,by omega,Z⟩
   case measure=>simp [intOf]; omega
  ·obtain rfl:r=R:=by omega
   have hrz:¬ ((r:Int)<(r:Int)):=by omega
   clear hlt hr;have HI:Calls prog 6 #[.int .i64 (t:Nat)] wr fun e w'=>e= .returned (.string (nS t))/\Below wr.heap.size wr w':=(Tryz.strconv_Itoa t (by omega) (by omega) wr ((HT.out.held B5.out).held Y.out.below)).mono fun _ _ ⟨he,k,os,hw⟩=>⟨he,hw ▸ ay6 wr k os⟩
   have hnl:(nS t).size<=100:=by
    rw [<- di4];have:=ch9 t (by omega) (by omega);simp only [nS,List.toList_toArray];omega
   obtain ⟨N,hN⟩:∃ N,nS t=N:=⟨_,rfl⟩;have NN:=Lib.hid hN;rw [hN] at HI hnl;clear hN;go_wp2_with fail;refine HI.mono ?_;rintro e w8 ⟨rfl,hb8⟩;have Y8:=Lib.hid (Y.out.held hb8);clear HI hb8 Y;have Sf:Lns w8.heap.size (.slice (some ⟨w8.heap.size,0,none⟩) 3 3) (hL0 t) _:=Ol.fresh (e:=9) elemStr.len w8 (Nat.le_refl _) (hL0 t) (Nat.le_of_ble_eq_true rfl);have hbf:=aa0 w8 (.cells ((hL0 t).flatMap stc).toArray 9);have ef:((hL0 t).flatMap stc).toArray=#[.string ⟨#[114,111,117,116,101,114,32,48,32,115,101,113,32,49,32,108,101,97,115,101,32,56]⟩,.string ⟨#[49,48,46,48,46,48,46,48,47,49,54,32,104,101,114,101,32,97,116,32,48]⟩,.string (⟨#[49,48,46,49,46,48,46,48,47,49,54,32,118,105,97,32,49]⟩++(⟨#[32,97,116,32]⟩++N))]:=by rw [<- NN.out]; rfl
   rw [ef] at Sf hbf;have S9:=H3 (Y8.out.held hbf) Sf Y8.out.below.size;clear Sf hbf ef Y8;go_upto_if 54 with fail;generalize w8.alloc _=w9 at*;generalize w8.heap.size=g8 at*;go_cut [9,10,13] from 16 (fun v9 v10 v13 u=>Hid (HwR w5 t r crash v9 v10 v13 u))
   case first=>
    cases crash with
    |false=>
     go_wp2_with fail;go_meet
     case rel=>
      refine Lib.hid ⟨_,_,_,_,_,_,_,by rw [dh4 M7.out.1],by rw [dh4 M7.out.1],rfl,rfl,?_,_,S9.out.2.2,S9.out.2.1⟩;have h:=S9.out.1;rw [dh4 M7.out.1,<- di8] at h;exact h
    |true=>
     obtain ⟨g1,cap1,W1,hrun1,h1⟩:=S9.out.1.events (m:=2) [cev,bev 0] rfl (by omega) (by omega) (by omega);replace hrun1:(Builtin.append_ #[30,30] 30 #[.slice p7 m7 c7,.slice (some ⟨w9.heap.size,0,none⟩) 2 2]).run prog (w9.alloc (.cells #[.int .i64 1,.int .i64 0,.int .i64 0,.int .i64 0,.int .u32 0,.int .i64 0,.string ⟨#[]⟩,.int .i64 0,.int .i64 0,.int .i64 0,.int .i64 0,.int .u32 0,.int .i64 0,.string ⟨#[]⟩] 29))=_:=hrun1;obtain ⟨g2,cap2,W2,hrun2,h2⟩:=h1.more1 (m:=2) [okA,okA] rfl (by omega) (by omega) (by omega);replace hrun2:(Builtin.append_ #[31,31] 31 #[.slice p8 m7 c8,.slice (some ⟨W1.heap.size,0,none⟩) 2 2]).run prog (W1.alloc (.cells #[.string ⟨#[111,107]⟩,.string ⟨#[111,107]⟩] 9))=_:=hrun2;have Sf:Lns W2.heap.size (.slice (some ⟨W2.heap.size,0,none⟩) 2 2) [headS 0 0,here 0] (W2.alloc (.cells #[.string ⟨#[114,111,117,116,101,114,32,48,32,115,101,113,32,48,32,108,101,97,115,101,32,56]⟩,.string ⟨#[49,48,46,48,46,48,46,48,47,49,54,32,104,101,114,101,32,97,116,32,48]⟩] 9)):=Ol.fresh (e:=9) elemStr.len W2 (Nat.le_refl _) [headS 0 0,here 0] (by decide);have hbf:=aa0 W2 (.cells #[.string ⟨#[114,111,117,116,101,114,32,48,32,115,101,113,32,48,32,108,101,97,115,101,32,56]⟩,.string ⟨#[49,48,46,48,46,48,46,48,47,49,54,32,104,101,114,101,32,97,116,32,48]⟩] 9);rw [dh3 M7.out.1,<- di7,di6 M7.out.1] at h2;have hn2:=dh3 M7.out.1;have T2:=H4 h2 Sf hbf hn2;clear h1 h2 S9 Sf hbf hn2;go_upto_if 65 with (first|(at_builtin; refine Lib.wpList_append_run _ rfl (.tmp 55) (.tmp 58) 30 30 rfl _ _ rfl rfl _ _ hrun1 ?_)|(at_builtin; refine Lib.wpList_append_run _ rfl (.tmp 60) (.tmp 61) 31 31 rfl _ _ rfl rfl _ _ hrun2 ?_)|fail);generalize W2.alloc _=W3 at*;by_cases h2r:2<=r
     ·have hrz2:(1:Int)<(r:Int):=by omega
      have hl:hLs t r true 0=[headS 0 0,here 0]++[dropS]:=by
       unfold hLs hLc;rw [if_pos rfl,if_pos rfl,decide_eq_true h2r];rfl
      obtain ⟨g3,cap3,W4,hrun3,h4,hb4⟩:=Lns.push T2.out.2.1 rfl T2.out.2.2.1 T2.out.2.2.1.size dropS (by omega);unfold dropS at hrun3;rw [<- hl] at h4;have T3:=H4 (T2.out.1.held hb4) h4 T2.out.1.below.size hl;clear h4 hb4 hl;go_wp2_with (first|(at_builtin; refine Lib.wpList_append_run _ rfl (.tmp 66) (.tmp 67) 31 31 rfl _ _ rfl rfl _ _ hrun3 ?_)|fail);go_meet
      case rel=>exact Lib.hid ⟨_,_,_,_,_,_,_,by rw [T2.out.2.2.2],by rw [T2.out.2.2.2],rfl,(congrArg List.length T3.out.2.2.2).symm,T3.out.1,_,T3.out.2.2.1,T3.out.2.1⟩
     ·have hrz2:¬ (1:Int)<(r:Int):=by omega
      have hl:hLs t r true 0=[headS 0 0,here 0]:=by
       unfold hLs hLc;rw [if_pos rfl,if_pos rfl,decide_eq_false h2r];rfl
      have Sf:=T2.out.2.1;rw [<- hl] at Sf;have T3:=H4 (T2.out.1.held T2.out.2.2.1) Sf T2.out.1.below.size hl;clear Sf hl;go_wp2_with fail;go_meet
      case rel=>exact Lib.hid ⟨_,_,_,_,_,_,_,by rw [T2.out.2.2.2],by rw [T2.out.2.2.2],rfl,(congrArg List.length T3.out.2.2.2).symm,T3.out.1,_,T3.out.2.2.1,T3.out.2.1⟩
   case rest=>
    clear S9;obtain ⟨q7,q8,pf,c7,c8,nf,cf,rfl,rfl,rfl,hnf,Q,B,hB,hF⟩:=hcut.out.ex;obtain ⟨l2,hl1,hl2⟩:∃ l,(hLs t r crash 0).length=l/\2<=l:=⟨_,rfl,di9⟩;have hl3:=cj7 (x:=t) (R:=r) (crash:=crash) (i:=0) (by omega);obtain ⟨gf,cf',ef,-,hx⟩:=Ol.cells elemStr.len hF (by omega);injection ef with q1 q2 q3;subst q1 q3;have hm15:=di3 (R:=r) (crash:=crash) hR8;obtain ⟨m,hm⟩:∃ m,hEn r crash=m:=⟨_,rfl⟩;rw [hm] at Q hm15 ⊢;have e3:((hL1 t).flatMap stc).toArray=#[.string ⟨#[114,111,117,116,101,114,32,49,32,115,101,113,32,49,32,108,101,97,115,101,32,56]⟩,.string (⟨#[49,48,46,48,46,48,46,48,47,49,54,32,118,105,97,32,48]⟩++(⟨#[32,97,116,32]⟩++N)),.string ⟨#[49,48,46,49,46,48,46,48,47,49,54,32,104,101,114,101,32,97,116,32,48]⟩]:=by rw [<- NN.out]; rfl
    have hto:hTold t r crash=List.replicate m okA++hLs t r crash 0++hL1 t:=by
     unfold hTold;rw [hm,List.append_assoc];rfl
    have hm1:m<=1000:=by omega
    obtain ⟨gA,cA,WA,hrA,hA,-⟩:=Q.more (ad:=⟨gf,0,none⟩) (cp:=cf) (hLs t r crash 0) hnf.symm (by omega) hx hm1 (by omega);obtain ⟨gA2,cA2,WA2,hrA2,hA2⟩:=hA.more1 (m:=3) (hL1 t) rfl (by omega) (by omega) (by omega);rw [e3] at hrA2;rw [<- hto] at hA2;have M:=H2 hm hto;obtain ⟨A',cap',eA,hEl⟩:=Sp.Oe.el hA2.ev (de4 (by omega) (by omega));rw [av9,hm] at eA hEl;injection eA with z1 z2 z3;subst z1 z3;have HE:=Sp.encode_good (nn:=2) (ss:=128) hEl (by omega) (by decide+kernel) (hE_all (by omega) (by omega)) (by rw [de9,hm]; omega);replace HE:Calls prog 7 #[.int .i64 2,.int .i64 128,.slice q7 m c7] WA2 fun x w'=>∃ g c q,x= .returned (.tuple #[.slice (some ⟨g,0,none⟩) q c,.int .i64 0])/\q=(Sc.script 2 128 (hE t r crash)).length/\Sp.Ob WA2.heap.size (.slice (some ⟨g,0,none⟩) q c) (Sc.script 2 128 (hE t r crash)) w'/\Below WA2.heap.size WA2 w':=HE
    have Y:=Lib.hid hA2;clear hF hx Q hcut hB hto hnf q2 hl1 hl2 hl3 e3 hA hA2 hEl z2 hm;go_wp2_with (first|(at_builtin; refine Lib.wpList_append_run _ rfl (.tmp 69) (.tmp 70) 31 31 rfl _ _ rfl rfl _ _ hrA ?_)|(at_builtin; refine Lib.wpList_append_run _ rfl (.tmp 71) (.tmp 74) 31 31 rfl _ _ rfl rfl _ _ hrA2 ?_)|fail);refine HE.mono ?_;rintro e w11 ⟨g,cc,ql,rfl,hql,hO,hb11⟩;have hql2:ql<=262144:=by rw [hql,Sc.script_length,de9,M.out.1]; omega
    have Y6:=Lib.hid (Y.out.held hb11);have HR:=di2 (t:=t) (x:=t) (by omega) (by omega) rfl hR1 hR8 (sl_ob hO (Sc.script_lt _ _ _)) hql2 ((HT.out.held B5.out).held Y6.out.below);clear HE hO hb11 hql Y;go_wp2_with fail;refine HR.mono ?_;rintro e w12 ⟨p12,n12,c12,rfl,hL,hb12⟩;have hls:=Y6.out.ls.held hb12;obtain ⟨px,cx,ex,-⟩:=Ol.form hL;injection ex with ex1 ex2 ex3;obtain ⟨py,cy,ey,-⟩:=Ol.form hls;injection ey with ey1 ey2 ey3;obtain rfl:n12=m+nf+3:=ex2.trans ey2.symm;have hl3:=cj7 (x:=t) (R:=r) (crash:=crash) (i:=0) (by omega);have htl:(hTold t r crash).length<=100000:=by
     rw [M.out.2,List.length_append,List.length_append,List.length_replicate];show _+_+3<=_;omega
    have HLs:=dh6 hL hls ey2.symm (by omega);have Z:=Lib.hid (next B5.out (Y6.out.held hb12).below);clear HR hL hls hb12 ex1 ex2 ex3 ey1 ey2 ey3;go_wp2_with fail;refine HLs.mono ?_;rintro e w13 ⟨rfl,hb13⟩;have Z2:=Lib.hid (next Z.out hb13);clear HLs hb13;go_wp2_with fail;go_ret;exact ⟨rfl,Z2.out⟩
end
section
open Go.ChangeShapes Go.WideShapes Go.ChangeAt Go.RowKit Go.Joins
theorem dh2 (os:Os):laidMet prog Rows.wholeHandRow.laid ((World.doorLaid prog 400 os).forCall (fun _ _=>0) ⟨#[],#[.int .i64 0,.int .i64 0,.bool false],[]⟩).memory:=
 laidMet_of_run' 8 (by kernel_rfl) (by kernel_rfl)
theorem dg8 (os:Os) {H:Type} (enc:TypeId×Value->H):∃ places,DataW.whole enc prog ((World.doorLaid prog 400 os).forCall (fun _ _=>0) ⟨#[],#[.int .i64 0,.int .i64 0,.bool false],[]⟩).memory Tryz.f3.params.toList Rows.wholeHandSpec.vars false #[Value.int .i64 0,Value.int .i64 0,Value.bool false].toList 8=some ([.lit (.int .i64 0),.lit (.int .i64 0),.lit (.bool false)],[],places):=
 ⟨[],by kernel_rfl⟩
theorem dg7 (os:Os) (started:os.Started) (H:Type) (enc:TypeId×Value->H) (F:Stop.Interp):
  ReturnsInHanded {} Tryz.checked os 3 .any ((OpenSpec.ofChange Rows.wholeHandSpec).preRow enc prog Tryz.f3 Rows.wholeHandRow.domain false Rows.wholeHandRow.laid) (((OpenSpec.ofChange Rows.wholeHandSpec).at F).post enc prog Tryz.f3 false true false false):=by
 obtain ⟨places,hx0⟩:=dg8 os enc;refine returnsInHanded_of_row (C:=Tryz.checked) (s:=OpenSpec.ofChange Rows.wholeHandSpec) di5 started (by kernel_rfl) Tryz.func3
  (witness_row_at (enc:=enc) (C:=Tryz.checked) false (World.doorLaid prog 400 os) #[.int .i64 0,.int .i64 0,.bool false] rfl (by kernel_rfl) (by kernel_rfl) (by kernel_rfl)
   (OpenSpec.preRow_of_cond 8 hx0 (by kernel_rfl) (fun k hk=>by cases hk) (by kernel_rfl) (dh2 os))) ?_
 intro W base args ds gs before hval0 hW _ _ _ hL _ _;have hval:∀ (j:Nat) t v,Tryz.f3.params[j]?=some t->args[j]?=some v->Value.okWide prog W .any base t v:=hval0;obtain ⟨p,q,hA0,hV,rfl,hfz,hnd⟩:=id hW;have hA:DataW.TrodAll enc prog W 0 (fun _=>true) true Tryz.f3.params.toList args.toList ds p:=hA0;rw [Tryz.params3] at hA hval;obtain ⟨v0,vs0,d0,ds0,p0,q0,hargs,rfl,rfl,h0,r0⟩:=trodAll_cons hA;obtain ⟨v1,vs1,d1,ds1,p1,q1,rfl,rfl,rfl,h1,r1⟩:=trodAll_cons r0;obtain ⟨v2,vs2,d2,ds2,p2,q2,rfl,rfl,rfl,h2,r2⟩:=trodAll_cons r1;obtain ⟨rfl,rfl,rfl⟩:=trodAll_nil r2;obtain rfl:args=#[v0,v1,v2]:=by cases args; simp_all
 obtain ⟨a0,rfl,-,-,-⟩:=open_int Tryz.underlying3 (hval 0 3 v0 rfl rfl) h0;obtain ⟨a1,rfl,-,-,-⟩:=open_int Tryz.underlying3 (hval 1 3 v1 rfl rfl) h1;obtain ⟨a2,rfl,-⟩:=open_bool Tryz.underlying4 (hval 2 4 v2 rfl rfl) h2;refine (dh7 a0 a1 a2 W (ca6 hL)).mono fun e W' ⟨he,hb⟩=>?_
 subst he;exact ⟨_,rfl,di1 da6 (by rw [Tryz.params3]; decide+kernel) rfl Tryz.underlying4 rfl rfl hW hb⟩
theorem dh1:Rows.WholeHandSaid:=
 OpenClaim.holds_of_cond 3 Tryz.f3 rfl rfl rfl rfl rfl rfl rfl ⟨rfl,rfl,rfl,rfl,rfl⟩ rfl rfl rfl rfl rfl (by kernel_rfl) Tryz.func3 (by kernel_rfl)
  (of_decide_eq_true (by kernel_rfl)) (by unfold Func.isWrapper; first|(rw [if_pos (by decide+kernel)]; kernel_rfl)|(rw [if_neg (by decide+kernel)]; exact ⟨rfl,rfl⟩))
  (fun os started H enc _ F=>by rw [OpenClaim.pre_eq_preRow]; exact dg7 os started H enc F)
theorem dg9 (f:FuncId) (fn:Func) (hf:Tryz.pinned.checked.prog.funcNamed "wayfarer/wayfarertop.WholeHand" =some f) (hfn:Tryz.pinned.checked.prog.funcs[f]?=some fn):
  true=Tryz.pinned.checked.prog.looks []/\∀ (j:Nat) t,fn.params[j]?=some t->Tryz.pinned.checked.prog.wantsStandIn t=false:=by
 obtain rfl:f=3:=Option.some.inj ((show prog.funcNamed "wayfarer/wayfarertop.WholeHand" =some 3 by kernel_rfl).symm.trans hf)|>.symm
 obtain rfl:fn=Tryz.f3:=(Option.some.inj (Tryz.func3.symm.trans hfn)).symm;refine ⟨by kernel_rfl,fun j t ht=>?_⟩;rw [Tryz.params3] at ht;have hm:t∈[3,3,4]:=by simpa using Array.mem_of_getElem? ht
 have hall:([3,3,4].all fun u=>!prog.wantsStandIn u)=true:=by kernel_rfl
 exact (show prog.wantsStandIn t=false by simpa using List.all_eq_true.1 hall t hm)
theorem wholeHand_card:Rows.WholeHandCardSaid:=
 Claim7.holds_tied_plain_at .later [] _ _ _ _ dh1 (fun _ h=>by cases h) (by kernel_rfl) (fun _ h=>by cases h) wholeHand_row_tie rfl ⟨rfl,rfl⟩ (by kernel_rfl) rfl dg9 (by kernel_rfl)
#print axioms wholeHand_card
end
end Go.Proofs.YtpljkpnebibbaaaGreatDoor
