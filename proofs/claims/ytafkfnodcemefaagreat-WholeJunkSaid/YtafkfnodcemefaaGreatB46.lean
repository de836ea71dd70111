import Derived.Test.YtafkfnodcemefaaGreatB45
import Derived.Test.YtafkfnodcemefaaGreatB44
import Derived.Test.YtafkfnodcemefaaGreatB32
import Derived.Test.YtafkfnodcemefaaGreatB42
section
set_option maxHeartbeats 8000000
set_option maxRecDepth 100000
namespace Go.Proofs.YtafkfnodcemefaaGreat
open _root_.Go.Proofs.Tryz (prog)
section
open Go.RowKit Go.Maps Rm Fm Sb
attribute [local go_sem] Oper.semAt_some
theorem ret4p {fn:Func} {a b c d:Tmp} (h:fn.results=#[.tmp a,.tmp b,.tmp c,.tmp d]) (tmps:Array Value) (P:Program) (w:World):
  (results fn tmps).run P w= .ok (.tuple #[tmps.getD a undef,tmps.getD b undef,tmps.getD c undef,tmps.getD d undef]) w:=by
 simp [results,h]
theorem as3 {e:Sc.Ev} (h:Sc.right e=true) (ha:e.a<4294967296):e.Good:=by
 have h1:=cv4 h;obtain ⟨h2,h3,h4,h5,h6⟩:=du8 h;have hp:e.p.length<=240:=by
  unfold Sc.right at h;simp only [Bool.and_eq_true,decide_eq_true_eq] at h;exact h.1.2
 exact ⟨⟨by omega,G,G,G,G,G,G,G,ha,G,G⟩,by unfold maxLen; omega⟩
theorem as6 {bs:List Nat} (h:Sc.headed bs=true):3<=bs.length/\(1<=bs.getD 0 0/\bs.getD 0 0<=8)/\1<=bs.getD 1 0*256+bs.getD 2 0/\bs.getD 1 0*256+bs.getD 2 0<=512:=by
 unfold Sc.headed Sc.scripted at h;simp only [Bool.and_eq_true,decide_eq_true_eq] at h;omega
theorem ay7 {A:Option Addr} {n cap nn sec:Nat} {bs:List Nat} {l:List Sc.Ev} {k e:Nat} {w:World} (h:Sp.Sl w A n cap bs) (hn:n<=262144) (hh:Sc.headed bs=true) (hnn:bs.getD 0 0=nn) (hsec:bs.getD 1 0*256+bs.getD 2 0=sec) (hE:Sc.Evs bs l k e) (hf:l.length<=150):
  Q 29 #[.slice A n cap] w fun x w'=>∃ N v w1,x= .returned (.tuple #[K N,v,I (k:Nat),I (e:Nat)])/\EvG (evOf l) (nNew sec) w1 N nn l.length v w'/\Bw w w1:=by
 obtain ⟨-,⟨h1,h8⟩,hs1,hs2⟩:=as6 hh;have HD0:=Sp.decode_good h hn hh;rw [hnn] at HD0 h1 h8;rw [hsec] at HD0 hs1 hs2;have HD:Q 59 #[.slice A n cap] w fun x w'=>∃ (A':Option Addr) (m c':Nat),x= .returned (.tuple #[I (nn:Nat),I (sec:Nat),.slice A' m c',I (k:Nat),I (e:Nat)])/\Hid (Sp.El w' A' m c' l/\Bw w w'/\m=l.length):=by
  refine HD0.mono ?_;rintro x w' ⟨v,l',k',e',rfl,hO,hE',hB⟩;obtain ⟨rfl,rfl,rfl⟩:=aw9 hE hE';obtain ⟨A',c',rfl,hEl⟩:=hO.el (fun x hx=>as3 (hE.right x hx).1 (hE.right x hx).2);exact ⟨A',_,c',rfl,Z ⟨hEl,hB,rfl⟩⟩
 have H:=H6 hE hf h1 h8 hs1 hs2;have i0:((nn:Int)==0)=false:=by
  have:(nn:Int)≠0:=G
  simpa using this
 clear HD0 h hE hf hh hnn hsec h1 h8 hs1 hs2;go_enter Tryz.func29,Tryz.ntmps29;go_upto_region 2 with (go_at_call 59; refine HD.mono ?_; rintro x w1 ⟨A',m,c',rfl,X⟩);have HE:=ae3 X.out.1 (by have:=X.out.2.2; have:=H.out.2.1; omega) H.out.2.2.1 H.out.2.2.2.1 H.out.2.2.2.2.1 H.out.2.2.2.2.2 (by have:=H.out.2.1; omega) (by have:=H.out.2.1; omega) (fun e he=>(H.out.1.right e he).2);clear HD;go_upto_region 5 with (go_at_call 8; refine HE.mono ?_; rintro x w2 ⟨N,v,rfl,hR⟩);have R:=Z hR;clear HE hR;go_wp2_with fail;refine bodyPost_ret (ret4p rfl _ _ _) rfl ⟨N,v,w1,rfl,by rw [<- X.out.2.2]; exact R.out,X.out.2.1⟩
noncomputable def nWait (n:Nat) (ev:Nat->Sc.Ev) (x:NsG) (k:Nat):Nat:=(nAt n ev x k).2.length
section
variable {ev:Nat->Sc.Ev} {x:NsG} {n k N:Nat} {v:Value} {w1 w2 W:World}
theorem EvG.at_ (h:EvG ev x w1 N n k v w2) (hb:Below w2.heap.size w2 W) {j:Nat} (hj:j<k):∃ g c,v= Lt g k c/\W.cell? (Y g j)=some (I (nZ n ev x j)):=by
 obtain ⟨g,c,e,-,-,hc⟩:=Ol.at_ elemI.len (h.came.held hb) (i:=j) (by simpa using hj);have:=hc 0 G;simp only [List.length_map,List.length_range,List.getElem_map,List.getElem_range,Nat.mul_one,Nat.add_zero] at e this;exact ⟨g,c,e,this⟩
theorem EvG.waits (h:EvG ev x w1 N n k v w2) (hb:Below w2.heap.size w2 W):Q 9 #[K N] W (Rw W (I (nWait n ev x k))):=dh4 (h.net.held hb)
end
end
end Go.Proofs.YtafkfnodcemefaaGreat
end
section
set_option maxHeartbeats 8000000
set_option maxRecDepth 100000
namespace Go.Proofs.YtafkfnodcemefaaGreat.Sp
open _root_.Go.Proofs.Tryz (prog)
section
open Go.RowKit Go.Maps Sc
theorem be9 {es:List Ev} {k:Nat} (hk:k<es.length):flat (es.take (k+1))=flat (es.take k)++ebytes es[k]:=by
 rw [List.take_succ_eq_append_getElem hk,dh0]
theorem bq3 (es:List Ev) (k:Nat):(flat (es.take k)).length<=(flat es).length:=by
 have h:flat es=flat (es.take k)++flat (es.drop k):=by rw [<- bv7,List.take_append_drop]
 rw [h,List.length_append]; omega
theorem bw0 {es:List Ev} (h:Sc.allRight es=true) {k:Nat} (hk:k<es.length):right es[k]=true:=by
 unfold Sc.allRight at h;rw [List.all_eq_true] at h;exact h _ (List.getElem_mem hk)
def z3:List Nat:=[0,0,0]
theorem make3 (w:World):(Instr.makeSlice 45 (I 3) (I 3)).run prog w= .ok (Lt w.heap.size 3 3) (w.alloc (.cells (cls z3) 5)):=X
theorem encode_good {A:Option Addr} {n cap:Nat} {es:List Ev} {nn ss:Nat} {w:World} (h:El w A n cap es) (hn:n<=8192) (hs:Sc.scripted nn ss=true) (hr:Sc.allRight es=true) (hbig:(flat es).length<=900000):
  Q 28 #[I (nn:Nat),I (ss:Nat),.slice A n cap] w fun x w'=>∃ g c q,x= .returned (.tuple #[Lt g q c,I 0])/\q=(script nn ss es).length/\Ob w.heap.size (Lt g q c) (script nn ss es) w'/\Bw w w':=by
 have d1:=df ((8192:Int)<(n:Int));have HS:=fun u=>ar3 hs u
 have HC:=bt3 h;rw [hr] at HC;have hlen:=h.len;unfold Sc.scripted at hs;simp only [Bool.and_eq_true,decide_eq_true_eq] at hs;obtain ⟨⟨⟨h1,h2⟩,h3⟩,h4⟩:=hs;have h2':nn<=8:=og;have h4':ss<=512:=og;have H:=H4 h hr hbig hlen;clear h hr hbig hlen h1 h2 h3 h4;have mk:=make3;go_enter Tryz.func28,Tryz.ntmps28;go_upto_region 6 with (first|(go_at_call 54; refine (HS _).mono ?_; rintro e5 w5 ⟨rfl,rfl⟩)|(go_at_call 55; refine HC.mono ?_; rintro e6 w6 ⟨rfl,hb6⟩));have BG:=Blk.new w6 5 (cls z3);have hb7:=next hb6 (aa0 w6 (.cells (cls z3) 5));have hG:w.heap.size<=w6.heap.size:=hb6.size;generalize w6.alloc _=w7 at*;generalize w6.heap.size=G at*;have g0:w7.cell? (Aa G 0)=some (Yy 0):=BG.at_ 0;have f0:=BG.free 0;have BG8:=BG.bset 0 nn;have hb8:=hb7.setCell (p:=⟨G,0,none⟩) hG (cell nn);unfold cell at BG8 hb8;have Y:=H3 BG8 hb8 hG;clear BG hb6 hb7 hG BG8 hb8 HS HC mk;go_upto_region 7 with fail;clear g0 f0;generalize w7.setCell (Aa G 0) (Yy (nn:Int))=w8 at*;have HP:=put_l2 G 1 2 ss og (z3.set 0 nn) w8 Y.out.1 (by simp [z3]);have q1:IntKind.u32.wrap (ss:Int)=ss:=wrap32 og;go_wp2_with (go_at_call 57; refine HP.mono ?_; rintro e9 w9 ⟨rfl,BG9,T9⟩);have hscr:((z3.set 0 nn).set 1 (ss / 256 % 256)).set (1+1) (ss % 256)=script nn ss []:=by
  show [nn,ss / 256 % 256,ss % 256]=[nn % 256,ss / 256 % 256,ss % 256];rw [Nat.mod_eq_of_lt (show nn<256 by omega)]
 rw [hscr] at BG9;have hO9:=Ob.of_blk BG9 Y.out.2.2 (by simp [script,Sc.two,ar0]) (n:=3) (by simp [script,Sc.two,ar0]);have hb9:=Y.out.2.1.trans (T9.below (B:=w.heap.size) (by simp; exact Y.out.2.2) Y.out.2.1.size);have S:=H2 hO9 hb9;clear HP BG9 T9 hscr hO9 hb9 Y q1;go_loopw [8,34] (fun v i wr=>∃ k g q c:Nat,i= I (k:Nat)/\v= Lt g q c/\k<=n/\Hid (q=(script nn ss (es.take k)).length/\Ob w.heap.size (Lt g q c) (script nn ss (es.take k)) wr/\Bw w wr)) (fun _ i _=>n - (intOf i).toNat)
 case atStart=>exact ⟨0,G,3,3,rfl,rfl,Nat.zero_le _,Zq ⟨by simp [script,Sc.two,ar0],S.out.1,S.out.2⟩⟩
 case round=>
  clear S;obtain ⟨k,g,q,c,rfl,rfl,hkn,R⟩:=hrel;by_cases hlt:k<n
  ·have d2:=dT ((k:Int)<(n:Int))
   have hk:k<es.length:=by rw [H.out.2.2.2]; exact hlt
   obtain ⟨e,he⟩:=ey (es[k]);obtain ⟨b,off,rfl⟩:=H.out.1.plain og;have hfit:=(H.out.1.good e (by rw [<- he]; exact List.getElem_mem hk)).fits;obtain ⟨c0,c1,c2,c3,c4,c5,c6⟩:=(H.out.1.held R.out.2.2).at_ hk he;have hright:right e=true:=by rw [<- he]; exact bw0 H.out.2.1 hk
   have HB:∀ u,Q 58 #[.agg #[I e.kind,I e.i,I e.k,I e.n,U (e.a:Nat),I e.len,Ss ⟨e.p.toArray⟩]] u fun x w'=>∃ g cap q,x= .returned (Lt g q cap)/\q=(ebytes e).length/\Ob u.heap.size (Lt g q cap) (ebytes e) w'/\Bw u w':=fun u=>cb5 hright hfit.a u
   have EH:=H2 hk he;have i1:(k:Int)<(n:Int):=og;clear hright hfit he;generalize hy0:e.kind=y0 at*;generalize hy1:e.i=y1 at*;generalize hy2:e.k=y2 at*;generalize hy3:e.n=y3 at*;generalize hy4:e.a=y4 at*;generalize hy5:e.len=y5 at*;generalize hy6:(⟨e.p.toArray⟩:ByteArray)=s at*;clear hy0 hy1 hy2 hy3 hy4 hy5 hy6;obtain ⟨hbx,BX⟩:=nw wr 30 #[I y0,I y1,I y2,I y3,U (y4:Nat),I y5,Ss s];have X:=H2 hbx BX;clear hbx BX;go_upto_region 11 with fail;generalize wr.alloc _=w10 at*;have x0:w10.cell? (Aa wr.heap.size 0)=some (I y0):=X.out.2.at_ 0;have x1:w10.cell? (Aa wr.heap.size 1)=some (I y1):=X.out.2.at_ 1;have x2:w10.cell? (Aa wr.heap.size 2)=some (I y2):=X.out.2.at_ 2;have x3:w10.cell? (Aa wr.heap.size 3)=some (I y3):=X.out.2.at_ 3;have x4:w10.cell? (Aa wr.heap.size 4)=some (U (y4:Nat)):=X.out.2.at_ 4;have x5:w10.cell? (Aa wr.heap.size 5)=some (I y5):=X.out.2.at_ 5;have x6:w10.cell? (Aa wr.heap.size 6)=some (Ss s):=X.out.2.at_ 6;have HB10:=HB w10;clear HB c0 c1 c2 c3 c4 c5 c6;go_wp2_with fail;refine HB10.mono ?_;rintro e11 w11 ⟨g1,cp1,q1,rfl,hq1,hO1,hb11⟩;have hbw:=R.out.2.2.trans (X.out.1.mono R.out.2.2.size);have hbw2:=hbw.trans (hb11.mono hbw.size);have hOb:=(R.out.2.1.held X.out.1).held hb11;have hBy:=Ob.bytes hO1 (ck4 e);have hstep:=be9 EH.out.1;rw [EH.out.2] at hstep;have hsc:script nn ss (es.take (k+1))=script nn ss (es.take k)++ebytes e:=by
    unfold script;rw [hstep];simp
   have hle:=bq3 es (k+1);have hl2:(script nn ss (es.take (k+1))).length=3+(flat (es.take (k+1))).length:=bk6 _ _ _;have hbg:=H.out.2.2.1;have hlen2:(script nn ss (es.take k)).length+q1=(script nn ss (es.take (k+1))).length:=by rw [hsc,List.length_append,hq1]
   have hpos:0<q1:=by rw [hq1,dg6]; omega
   obtain ⟨g',cap',w12,hrun,hO12,hgr,hat⟩:=Ob.app hOb hbw2.size hBy hpos og (c:=cp1) 45;rw [<- R.out.1] at hrun hO12;rw [<- hsc] at hO12;have hb12:=hbw2.grown hgr hbw2.size (fun kk e5=>(hOb.lt e5).2);have Z:=Zq (And.intro (show q+q1=(script nn ss (es.take (k+1))).length by rw [R.out.1]; exact hlen2) (And.intro hO12 hb12));clear HB10 hbw hbw2 hOb hBy hstep hsc hle hl2 hbg hlen2 hpos hO12 hgr hat hb12 hO1 hb11 hq1 X R x0 x1 x2 x3 x4 x5 x6;go_wp2_with (first|(at_builtin; refine Lib.wpList_append_run _ rfl (.tmp 38) (.tmp 40) 45 45 rfl _ _ rfl rfl _ _ hrun ?_)|fail);go_roundw
   case rel=>exact ⟨k+1,g',q+q1,cap',by go_num,rfl,og,Z⟩
   case measure=>simp [intOf]; omega
  ·obtain rfl:k=n:=og
   have d2:=df ((k:Int)<(k:Int));have e1:es.take k=es:=List.take_of_length_le (by rw [H.out.2.2.2]; exact Nat.le_refl _);have R2:=R.out;rw [e1] at R2;have R3:=Zq R2;clear R R2 e1;go_wp2_with fail;go_ret2;exact ⟨g,c,q,rfl,R3.out.1,R3.out.2.1,R3.out.2.2⟩
end
end Go.Proofs.YtafkfnodcemefaaGreat.Sp
end
section
set_option maxHeartbeats 8000000
namespace Go.Proofs.YtafkfnodcemefaaGreat
section
open Go.RowKit Go.Maps Rm Fm Sb
def way1 (p:Pk) (r:Rt):Ways:=putR (fun _=>none) ⟨p.a,p.n,r.fr⟩ r
section
variable {p:Pk} {d id fr k s m:Nat} {c:Nat->Int} {now e:Int}
theorem ad3 (p:Pk) (r:Rt) (z:Rk):way1 p r z=if z=⟨p.a,p.n,r.fr⟩ then some r else none:=rfl
theorem cd9 {r:Rt} {t:Int} (h:t<r.exp):lessF (way1 p r) (deadAt (way1 p r) t)=way1 p r:=by
 funext z;unfold lessF deadAt;rw [ad3];by_cases hz:z=⟨p.a,p.n,r.fr⟩
 ·rw [if_pos hz]
  rw [if_neg];simp;omega
 ·rw [if_neg hz]
  simp
theorem bf2 {r:Rt} (h:now+1<r.exp) {M2:Mr} (ht:Ticks (Ms d id c (way1 p r) now) M2):M2=Ms d id c (way1 p r) (now+1):=by
 rcases ht with ⟨⟨q,-,hq⟩,-⟩|⟨-,rfl⟩
 ·cases hq
 ·unfold Mr.aged Ms
  simp only [cd9 h]
theorem cd7 {r:Rt} (hp:p.ok) (hr:0<=r.fr/\r.fr<=8) {rs:List En} (h:Subj (Ms d id c (way1 p r) now) rs):rs=[⟨p.a,p.n,false⟩]:=by
 refine h.way (a:=p.a) (len:=p.n) (fun q ha=>?_) (fun q=>⟨fun hw=>?_,fun hq=>?_⟩)
 ·rcases ha with ⟨_,h⟩|⟨_,_,h⟩
  ·cases h
  ·cases h
 ·obtain ⟨f,-,hf⟩:=hw
  have hf':(way1 p r ⟨q.a,q.n,f⟩).isSome=true:=hf;rw [ad3] at hf';by_cases hz:(⟨q.a,q.n,f⟩:Rk)=⟨p.a,p.n,r.fr⟩
  ·injection hz with h1 h2 h3
   cases q;simp only at h1 h2;rw [h1,h2]
  ·rw [if_neg hz] at hf'
   cases hf'
 ·subst hq
  refine ⟨r.fr,⟨hp.1,hp.2,by show (-9223372036854775808:Int)<=r.fr; omega,by show r.fr<=9223372036854775807; omega⟩,?_⟩;show (way1 p r ⟨p.a,p.n,r.fr⟩).isSome=true;rw [ad3,if_pos rfl];rfl
theorem bp2 {z:Int} (hk:fr<8) (hc:c fr=z) (h1:1<=z) (h2:z<=1000) (hm:m<=8000):(Ms d id c (way1 p ⟨fr,k,s,m,e⟩) now).pick p.a p.n=some ⟨fr,k,s,m,e⟩/\far (m:Int) (cAt c (fr:Int))=(m:Int)+z:=by
 have hcA:cAt c (fr:Int)=z:=by
  unfold cAt;rw [if_neg G];simpa using hc
 have hfar:far (m:Int) z=(m:Int)+z:=by
  unfold far clampCost
  (repeat' split)<;>omega
 refine ⟨?_,by rw [hcA,hfar]⟩;have hr:(Ms d id c (way1 p ⟨fr,k,s,m,e⟩) now).reachF p.a p.n fr=some (⟨fr,k,s,m,e⟩,(m:Int)+z):=by
  unfold Mr.reachF;rw [show (Ms d id c (way1 p ⟨fr,k,s,m,e⟩) now).f ⟨p.a,p.n,fr⟩=some ⟨fr,k,s,m,e⟩ from by show way1 p _ _=_; rw [ad3,if_pos rfl]];simp only;rw [show (Ms d id c (way1 p ⟨fr,k,s,m,e⟩) now).c=c from rfl,hcA,hfar,if_neg];rintro (e|e|e)
  ·omega
  ·refine e ?_
   show fea none s m=true;unfold fea bet;simp
  ·omega
 exact bz1 G (fun q hq=>by
  show way1 p _ _=_;rw [ad3,if_neg];intro hz;injection hz with h1 h2 h3;have h4:(q:Int)=(fr:Int):=h3;omega) hr
theorem cd5 {z:Int} {t:Nat} (hk:fr<8) (hc:c fr=z) (h1:1<=z) (h2:z<=1000) (hm:m<=8000) (ht:(m:Int)+z=(t:Int)):
  (Ms d id c (way1 p ⟨fr,k,s,m,e⟩) now).tellS [⟨p.a,p.n,false⟩]=([⟨p.a,p.n,k,s,t⟩],(Ms d id c (way1 p ⟨fr,k,s,m,e⟩) now).covered p.a p.n k s t):=by
 obtain ⟨hp,hf⟩:=bp2 (p:=p) (d:=d) (id:=id) (now:=now) (k:=k) (s:=s) (e:=e) hk hc h1 h2 hm;have hw:(Ms d id c (way1 p ⟨fr,k,s,m,e⟩) now).owns ⟨p.a,p.n⟩=false:=rfl;have h:=Mr.tell1_way (e:=⟨p.a,p.n,false⟩) hw hp;have hn:(Ms d id c (way1 p ⟨fr,k,s,m,e⟩) now).farN ⟨fr,k,s,m,e⟩=t:=by
  unfold Mr.farN;show (far (m:Int) (cAt c (fr:Int))).toNat=t;rw [hf,ht];rfl
 rw [hn] at h;simp only [Mr.tellS,h,List.append_nil]
def Mf (d id:Nat) (c:Nat->Int) (p:Pk) (k s t:Nat) (f:Ways) (now:Int):Mr:=⟨id,⟨0,fun _=>none,fun q=>if q=⟨p.a,p.n,k⟩ then some (s,t) else none⟩,f,c,now,0,0,d⟩
theorem bp3 {f:Ways} {t:Nat} (ht:t<65535):(Ms d id c f now).covered p.a p.n k s t=Mf d id c p k s t f now:=by
 have h:cov ((Ms d id c f now).sm.floor ⟨p.a,p.n,k⟩) s t=false:=by
  show cov none s t=false;unfold cov bet;simp;omega
 unfold Mr.covered;rw [h,if_neg (by decide)];rfl
end
section
variable {O:Nat->Prop} {w0 w w':World} {N n:Nat} {st:Nat->Sv} {os:List Dg}
end
def pgm (p:Pk) (k s m:Nat):List Nat:=T.Tm.page (T.Tm.parts ⟨p.a,p.n,k,s,m⟩ 0)
section
variable {p:Pk} {k s m:Nat}
theorem bs1 (hp:Am.right p.a p.n=true) (hi:k≠0) (hs:s<=1073741824) (hm:m<65535):T.Tm.right ⟨p.a,p.n,k,s,m⟩=true:=by
 unfold T.Tm.right;have h1:¬ m=65535:=G
 simp [hi,hs,hp,h1]
theorem cq1 (hp:p.ok) (hi:k<4294967296) (hs:s<=1073741824) (hm:m<65535):T.Tm.Up.Fits ⟨p.a,p.n,k,s,m⟩:=⟨hp.1,hp.2.1,hp.2.2,hi,by show s<4294967296; omega,by show m<65536; omega⟩
theorem bm7 (hp:Am.right p.a p.n=true) (hi:k≠0) (hs:s<=1073741824) (hm:m<65535):T.Tm.encode [⟨p.a,p.n,k,s,m⟩]=[pgm p k s m]:=cb3 (bs1 hp hi hs hm)
theorem cs3 (hp:Am.right p.a p.n=true) (hk:p.ok) (hi:k≠0) (hi2:k<4294967296) (hs:s<=1073741824) (hm:m<65535):T.Tm.decode (pgm p k s m)=some [⟨p.a,p.n,k,s,m⟩]:=decode_one (bs1 hp hi hs hm) (cq1 hk hi2 hs hm)
theorem co1 (hp:Am.right p.a p.n=true) (hi:k≠0) (hs:s<=1073741824) (hm:m<65535):4<(pgm p k s m).length/\(pgm p k s m).length<=1024/\∀ c∈pgm p k s m,c<256:=by
 have h:=T.Tm.encode_fine [⟨p.a,p.n,k,s,m⟩] (pgm p k s m) (by rw [bm7 hp hi hs hm]; simp);exact ⟨h.1,h.2.1,h.2.2.1⟩
end
section
variable {O:Nat->Prop} {w0 w:World} {N n:Nat} {st:Nat->Sv} {os:List Dg}
end
def three (a b c:Sv):Nat->Sv:=fun i=>if i=0 then a else if i=1 then b else c
def c102:Nat->Int:=fun i=>if i=2 then 5 else cL 0 4 i
theorem ce7 (b:List Nat):sends c102 [b] 8=[(0,b),(2,b)]:=by
 simp [sends,c102,cL,List.range_succ]
def fN:Ways:=fun _=>none
section
variable {O:Nat->Prop} {w0 w:World} {N:Nat} {d:Nat->Nat}
end
theorem co9 {d id:Nat} {now':Int} {p:Pk} {k fr s m:Nat} {c:Nat->Int} {f:Ways} (hid:k≠id) (hm:m≠65535):
  ((Ms d id c f now').hear fr p.a p.n k s m)=Ms d id c (putR f ⟨p.a,p.n,fr⟩ ⟨fr,k,s,m,now'+3⟩) now':=by
 unfold Mr.hear;have ho:(Ms d id c f now').owns ⟨p.a,p.n⟩=false:=rfl;rw [if_neg (by rw [ho]; exact fun e=>e.elim (fun x=>Bool.noConfusion x) hid),if_neg hm];refine if_pos ?_;show fea none s m=true;unfold fea bet;simp
theorem co8 {p:Pk} {d id:Nat} {c:Nat->Int} {now:Int} {seq:Nat} {since:Int} {lease fr k s m:Nat}:(Mo1 p d id c now seq since lease).hear fr p.a p.n k s m=Mo1 p d id c now seq since lease:=by
 unfold Mr.hear;exact if_pos (.inl Mo1.owns_ten)
def w2 (e:Int):Ways:=way1 (pz 2) ⟨2,3,1,0,e⟩
def w0f:Ways:=way1 (pz 2) ⟨1,3,1,5,5⟩
theorem cw0 (d:Nat->Nat):(Mf (d 1) 2 c102 (pz 2) 3 1 5 (w2 4) 2).hear 2 (pz 2).a (pz 2).n 3 1 0=Mf (d 1) 2 c102 (pz 2) 3 1 5 (w2 5) 2:=by
 have e:putR (w2 4) ⟨(pz 2).a,(pz 2).n,2⟩ ⟨2,3,1,0,5⟩=w2 5:=by
  funext z;show (if z=_ then _ else way1 _ _ z)=way1 _ _ z;rw [ad3,ad3];by_cases h:z=⟨(pz 2).a,(pz 2).n,2⟩
  ·rw [if_pos h]; exact (if_pos h).symm
  ·rw [if_neg h]; exact (if_neg h).trans (if_neg h).symm
 unfold Mr.hear;have ho:(Mf (d 1) 2 c102 (pz 2) 3 1 5 (w2 4) 2).owns ⟨(pz 2).a,(pz 2).n⟩=false:=rfl;have hi:¬ 3=(Mf (d 1) 2 c102 (pz 2) 3 1 5 (w2 4) 2).id:=by show ¬ 3=2; decide
 rw [if_neg (by rw [ho]; exact fun e=>e.elim (fun x=>Bool.noConfusion x) hi),if_neg (by decide)];refine (if_pos ?_).trans ?_
 ·show fea (if (⟨(pz 2).a,(pz 2).n,3⟩:Ky)=⟨(pz 2).a,(pz 2).n,3⟩ then some (1,5) else none) 1 0=true
  rw [if_pos rfl];decide
 ·show (⟨2,_,putR (w2 4) ⟨(pz 2).a,(pz 2).n,2⟩ ⟨2,3,1,0,5⟩,_,_,_,_,_⟩:Mr)=_
  rw [e];rfl
section
variable {O:Nat->Prop} {w0 w:World} {N:Nat} {d:Nat->Nat}
end
theorem cr4 (d:Nat->Nat):(Ms (d 0) 1 (cL 1 4) w0f 2).dist (pz 2).a (pz 2).n=(9,true):=by
 obtain ⟨hp,hf⟩:=bp2 (p:=pz 2) (d:=d 0) (id:=1) (now:=2) (k:=3) (s:=1) (e:=5) (fr:=1) (m:=5) (c:=cL 1 4) (z:=4) G rfl G G G;have hw:(Ms (d 0) 1 (cL 1 4) w0f 2).owns ⟨(pz 2).a,(pz 2).n⟩=false:=rfl;unfold Mr.dist;rw [hw,show (Ms (d 0) 1 (cL 1 4) w0f 2).pick (pz 2).a (pz 2).n=some ⟨1,3,1,5,5⟩ from hp];show (far ((5:Nat):Int) (cAt (cL 1 4) ((1:Nat):Int)),true)=(9,true);rw [hf];rfl
theorem cr1 (d:Nat->Nat):(Mf (d 1) 2 c102 (pz 2) 3 1 5 (w2 5) 2).dist (pz 2).a (pz 2).n=(5,true):=by
 have hr:(Mf (d 1) 2 c102 (pz 2) 3 1 5 (w2 5) 2).reachF (pz 2).a (pz 2).n 2=some (⟨2,3,1,0,5⟩,5):=by
  unfold Mr.reachF;rw [show (Mf (d 1) 2 c102 (pz 2) 3 1 5 (w2 5) 2).f ⟨(pz 2).a,(pz 2).n,((2:Nat):Int)⟩=some ⟨2,3,1,0,5⟩ from by show w2 5 ⟨(pz 2).a,(pz 2).n,((2:Nat):Int)⟩=_; unfold w2; rw [ad3]; exact if_pos rfl];simp only;rw [if_neg]
  ·rfl
  ·rintro (e|e|e)
   ·revert e; show ¬ cAt c102 2<1; decide
   ·refine e ?_
    show fea (if (⟨(pz 2).a,(pz 2).n,3⟩:Ky)=⟨(pz 2).a,(pz 2).n,3⟩ then some (1,5) else none) 1 0=true;rw [if_pos rfl];decide
   ·revert e; show ¬ far ((0:Nat):Int) (cAt c102 2)=65535; decide
 have hp:=bz1 (M:=Mf (d 1) 2 c102 (pz 2) 3 1 5 (w2 5) 2) (fr:=2) G (fun q hq=>by
  show w2 5 ⟨(pz 2).a,(pz 2).n,(q:Int)⟩=_;unfold w2;rw [ad3,if_neg];intro hz;injection hz with h1 h2 h3;have h4:(q:Int)=2:=h3;omega) hr
 have hw:(Mf (d 1) 2 c102 (pz 2) 3 1 5 (w2 5) 2).owns ⟨(pz 2).a,(pz 2).n⟩=false:=rfl;unfold Mr.dist;rw [hw,hp];rfl
end
section
open Go.RowKit Go.Maps Rm Fm Sb
attribute [local go_sem] Oper.semAt_some
end
section
open Go.RowKit Go.Maps Rm Fm Sb
def alE:List Sc.Ev:=[⟨0,0,0,0,0,0,[]⟩,⟨0,1,0,0,0,0,[]⟩,⟨0,2,0,0,0,0,[]⟩,⟨3,0,1,4,0,0,[]⟩,⟨3,1,2,5,0,0,[]⟩,⟨4,2,0,0,167772160+2*65536,16,[]⟩,⟨10,0,0,0,0,0,[]⟩,⟨10,0,0,0,0,0,[]⟩]
def c00:Nat->Int:=fun _=>0
section
variable {O:Nat->Prop} {w0 w:World} {N:Nat} {d:Nat->Nat}
end
section
variable {O:Nat->Prop} {wx:World} {N:Nat} {d:Nat->Nat} {st:Nat->Sv}
end
end
section
open Go.RowKit Go.Maps Rm Fm Sb
attribute [local go_sem] Oper.semAt_some
end
section
open Go.RowKit Go.Maps Rm Fm Sb
end
section
open Go.RowKit Go.Maps Rm Fm Sb
attribute [local go_sem] Oper.semAt_some
theorem el_blk {W:World} {g:Nat} {es:List Sc.Ev} (h:Blk 30 W g (es.flatMap Sp.ecl).toArray) (hl:es.length<=1000) (hg:∀ e∈es,e.Good):Sp.El W (some (Y g 0)) es.length es.length es:=by
 refine ⟨rfl,by unfold maxLen; omega,Nat.le_refl _,fun _=>⟨_,_,rfl⟩,fun b off e i hi j hj=>?_,hg⟩
 cases e;have e2:=ai1 (cl:=Sp.ecl) (k:=7) (fun _=>rfl) es i hi j hj;rw [h.at_,Nat.zero_add,show 7*i+j=i*7+j by omega,show (Sp.ecs es[i])[j]?=(Sp.ecl es[i])[j]? by rw [<- Sp.dx6]; simp,<- e2];simp
theorem sl_ob {B:Nat} {p:Option Addr} {n cap:Nat} {bs:List Nat} {W:World} (h:Sp.Ob B (.slice p n cap) bs W) (hb:∀ c∈bs,c<256):Sp.Sl W p n cap bs:=by
 have hB:=Sp.Ob.bytes h hb;rcases h.2 with ⟨h0,h1⟩|⟨g',cap',cur,e,h4,h5,h6,h7,h8,h9⟩
 ·cases h0
  exact ⟨hB,Nat.le_refl _,fun h=>absurd h G⟩
 ·cases e
  exact ⟨hB,h6,fun _=>⟨_,_,rfl⟩⟩
theorem cr5:∀ e∈alE,e.Good:=by
 intro e he;simp only [alE,List.mem_cons,List.not_mem_nil,or_false] at he;rcases he with rfl|rfl|rfl|rfl|rfl|rfl|rfl|rfl<;>exact ⟨by constructor<;>decide,by unfold maxLen; decide⟩
theorem cl6:∀ e∈alE,Sc.right e=true/\e.a<4294967296:=by
 intro e he;simp only [alE,List.mem_cons,List.not_mem_nil,or_false] at he;rcases he with rfl|rfl|rfl|rfl|rfl|rfl|rfl|rfl<;>exact ⟨by decide+kernel,by decide⟩
def alB:List Nat:=Sc.script 3 128 alE
theorem alB_lt:∀ c∈alB,c<256:=by decide+kernel
end
end Go.Proofs.YtafkfnodcemefaaGreat
end
section
set_option maxHeartbeats 8000000
namespace Go.Proofs.YtafkfnodcemefaaGreat
section
open Go.RowKit Go.Maps Rm Fm Sb
def Jm.Calm (J:Jm) (room:Nat):Prop:=J.D.well=-1/\J.len+room+1<=J.size
theorem by5 {D:Dm} (h:D.well=-1) (i:Nat) (bs:List UInt8):(D.put i bs).1=0/\(D.put i bs).2.well=-1:=by
 have h1:(D.write i bs)=(0,{ D with wn:=updD D.wn i bs,well:=dec D.well }):=by
  unfold Dm.write;rw [if_neg G]
 have h2:dec (-1)=-1:=by decide
 unfold Dm.put;rw [h1,if_pos rfl];simp only;unfold Dm.sync;rw [if_neg (by show ¬ dec D.well=0; rw [h,h2]; decide)];exact ⟨rfl,by show dec (dec D.well)=-1; rw [h,h2,h2]⟩
theorem az3 {J:Jm} {room:Nat} (h:J.Calm (room+1)) (id:Nat) (T:Sm) (r:Rc):∃ J',J.append id T r=(0,J',app T r)/\J'.Calm room:=by
 obtain ⟨h1,h2⟩:=h;obtain ⟨q1,q2⟩:=by5 h1 (J.first+(1+J.len)) (u8s (Rm.bytes (inAt J.gen (1+J.len) r)));rw [Jm.append_room (show ¬ J.size<=1+J.len by omega)];unfold Jm.more;dsimp only;rw [if_neg (by rw [q1]; simp)];exact ⟨_,rfl,q2,by show J.len+1+room+1<=J.size; omega⟩
theorem Jm.Calm.less {J:Jm} {a b:Nat} (h:J.Calm a) (hb:b<=a):J.Calm b:=⟨h.1,by have:=h.2; omega⟩
theorem bt2 {M:Mr} {J:Jm} {room:Nat} (h:J.Calm (room+1)) (a:Nat) (len:Int) (id seq met:Nat):∃ J',M.coveredG J a len id seq met=(true,J',M.covered a len id seq met)/\J'.Calm room:=by
 unfold Mr.coveredG Mr.covered;split
 ·exact ⟨J,rfl,h.less G⟩
 ·obtain ⟨J',e,hJ⟩:=az3 h M.id M.sm ⟨4,0,0,id,a,len,false,seq,met⟩
  simp only [e];exact ⟨J',rfl,hJ⟩
theorem bv6 {M:Mr} {J:Jm} {room:Nat} (h:J.Calm (room+1)) (s:Nat):∃ J',M.leasedG J s=(true,J',M.leased s)/\J'.Calm room:=by
 unfold Mr.leasedG Mr.leased;split
 ·exact ⟨J,rfl,h.less G⟩
 ·obtain ⟨J',e,hJ⟩:=az3 h M.id M.sm ⟨3,0,0,0,0,0,false,min (s+7) 1073741824,0⟩
  simp only [e];exact ⟨J',rfl,hJ⟩
theorem bt5 {M:Mr} {J:Jm} {room:Nat} (h:J.Calm (room+1)):∃ J',M.advanceG J=(J',M.advance)/\J'.Calm room:=by
 unfold Mr.advanceG Mr.advance;split
 ·exact ⟨J,rfl,h.less G⟩
 ·split
  ·obtain ⟨J',e,hJ⟩:=bv6 (M:=M) h M.next
   rw [e];exact ⟨J',rfl,hJ⟩
  ·exact ⟨J,rfl,h.less G⟩
theorem ce2 {M:Mr} {J:Jm} {room:Nat} (h:J.Calm (room+1)):∃ J' M2,M.stepG J=(J',M2)/\Ticks M M2/\J'.Calm room:=by
 by_cases hq:M.aged.ownsAny
 ·rw [Mr.stepG_on hq]
  obtain ⟨J',e,hJ⟩:=bt5 (M:=M.aged) h;rw [e];exact ⟨J',_,rfl,.inl ⟨hq,rfl⟩,hJ⟩
 ·rw [Mr.stepG_off hq]
  exact ⟨J,_,rfl,.inr ⟨hq,rfl⟩,h.less G⟩
theorem bz7 {M:Mr} {J:Jm} {room:Nat} (h:J.Calm (room+1)) (e:En):∃ J',M.tell1G J e=((M.tell1 e).1,J',(M.tell1 e).2)/\J'.Calm room:=by
 unfold Mr.tell1G Mr.tell1;split
 ·exact ⟨J,rfl,h.less G⟩
 ·cases hr:M.pick e.a e.n with
  |some r=>
   obtain ⟨J',e1,hJ⟩:=bt2 (M:=M) h e.a e.n r.id r.seq (M.farN r);simp only;rw [e1];exact ⟨J',sn,hJ⟩
  |none=>exact ⟨J,rfl,h.less G⟩
theorem bf6:∀ (l:List En) {M:Mr} {J:Jm} {room:Nat} (_:J.Calm (room+l.length)),∃ J',M.tellSG J l=((M.tellS l).1,J',(M.tellS l).2)/\J'.Calm room
 |[],M,J,room,h=>⟨J,rfl,h⟩
 |e::r,M,J,room,h=>by
  obtain ⟨J1,e1,h1⟩:=bz7 (M:=M) (room:=room+r.length) (h.less (by simp only [List.length_cons]; omega)) e;obtain ⟨J2,e2,h2⟩:=bf6 r (M:=(M.tell1 e).2) h1;refine ⟨J2,?_,h2⟩;rw [Mr.tellSG,Mr.tellS,e1];simp only;rw [e2]
theorem bd7 {M:Mr} {J:Jm} {room p:Nat} (h:J.Calm (room+p+1)) (hS:∀ M2,Ticks M M2->∃ rs,Subj M2 rs/\rs.length<=p):∃ J' M2 rs,Ticks M M2/\Subj M2 rs/\M.tickG J=(sends M.c (T.Tm.encode (M2.tellS rs).1) 8,J',(M2.tellS rs).2)/\J'.Calm room:=by
 obtain ⟨J1,M2,e1,hT,h1⟩:=ce2 (M:=M) h;obtain ⟨rs,hs,hl⟩:=hS M2 hT;obtain ⟨J2,e2,h2⟩:=bf6 rs (M:=M2) (room:=room) (h1.less G);refine ⟨J2,M2,rs,hT,hs,?_,h2⟩;rw [Mr.tickG_is e1 hs,e2]
section
variable {p:Pk} {d id:Nat} {c:Nat->Int} {now:Int} {J:Jm} {room:Nat}
theorem ch5 (f:Ways) (q:Pk):¬ (Ms d id c f now).ans q:=by
 rintro (⟨-,h⟩|⟨k,-,h⟩)<;>simp [Ms,sm0] at h
theorem cr6:Subj (Ms d id c (fun _=>none) now) []:=by
 refine ⟨by simp,fun e=>⟨fun h=>(by cases h),fun h=>?_⟩⟩;rcases h with ⟨h,-⟩|⟨-,⟨fr,-,h⟩,-⟩
 ·exact absurd h (ch5 _ _)
 ·cases h
theorem cr7 {seq:Nat} {since:Int} {lease:Nat} (hp:p.ok):Subj (Mo1 p d id c now seq since lease) [⟨p.a,p.n,true⟩]:=by
 have ha:∀ q,(Mo1 p d id c now seq since lease).ans q↔q=p:=fun q=>by
  constructor
  ·rintro (⟨-,h⟩|⟨k,-,h⟩)
   ·by_cases e:q=p
    ·exact e
    ·simp [Mo1,e] at h
   ·simp [Mo1] at h
  ·rintro rfl
   exact .inl ⟨hp,by simp [Mo1]⟩
 refine ⟨by simp,fun e=>?_⟩;rw [ha,List.mem_singleton];constructor
 ·rintro rfl
  exact .inl ⟨rfl,rfl⟩
 ·rintro (⟨h,h2⟩|⟨-,⟨fr,-,h⟩,-⟩)
  ·obtain ⟨a,n,on⟩:=e
   simp only at h2;subst h2;rw [<- h];rfl
  ·cases h
theorem cm9 {fr k s m:Nat} {ex:Int} (hp:p.ok) (hk:fr<8):Subj (Ms d id c (way1 p ⟨fr,k,s,m,ex⟩) now) [⟨p.a,p.n,false⟩]:=by
 refine ⟨by simp,fun e=>?_⟩;rw [List.mem_singleton];constructor
 ·rintro rfl
  refine .inr ⟨ch5 _ _,⟨fr,⟨hp.1,hp.2,by show (-9223372036854775808:Int)<=fr; omega,by show (fr:Int)<=9223372036854775807; omega⟩,?_⟩,rfl⟩;show (way1 p _ ⟨p.a,p.n,fr⟩).isSome=true;rw [ad3,if_pos rfl];rfl
 ·rintro (⟨h,-⟩|⟨-,⟨f,-,h⟩,h2⟩)
  ·exact absurd h (ch5 _ _)
  ·have h':(way1 p ⟨fr,k,s,m,ex⟩ ⟨e.a,e.n,f⟩).isSome=true:=h
   rw [ad3] at h';by_cases hz:(⟨e.a,e.n,f⟩:Rk)=⟨p.a,p.n,fr⟩
   ·injection hz with h3 h4 h5
    obtain ⟨a,n,on⟩:=e;simp only at h2 h3 h4;rw [h2,h3,h4]
   ·rw [if_neg hz] at h'
    cases h'
theorem bi9 (h:J.Calm (room+1)):∃ J',(Ms d id c (fun _=>none) now).tickG J=([],J',Ms d id c (fun _=>none) (now+1))/\J'.Calm room:=by
 obtain ⟨J',M2,rs,h1,h2,h3,h4⟩:=bd7 (M:=Ms d id c (fun _=>none) now) (p:=0) (room:=room) h (fun M2 hM=>⟨[],by rw [Ms.ticks hM]; exact cr6,Nat.le_refl _⟩);have e1:=Ms.ticks h1;subst e1;have e2:=Ms.subj h2;subst e2;refine ⟨J',?_,h4⟩;rw [h3];show (sends _ (T.Tm.encode []) 8,J',_)=_;rw [cb4,ce3];rfl
theorem bx9 {seq:Nat} {since:Int} {lease s':Nat} {t':Int} {l':Nat} (h:J.Calm (room+2)) (hp:p.ok) (hadv:(Mo1 p d id c (now+1) seq since lease).advance=Mo1 p d id c (now+1) s' t' l') (hs0:s'≠0):
  ∃ J',(Mo1 p d id c now seq since lease).tickG J=(sends c (T.Tm.encode [⟨p.a,p.n,id,s',0⟩]) 8,J',Mo1 p d id c (now+1) s' t' l')/\J'.Calm room:=by
 have hT:∀ M2,Ticks (Mo1 p d id c now seq since lease) M2->M2=Mo1 p d id c (now+1) s' t' l':=fun M2 h=>by
  rcases h with ⟨-,rfl⟩|⟨h,-⟩
  ·rw [Mo1.aged,hadv]
  ·rw [Mo1.aged] at h
   exact absurd (Mo1.any hp) h
 obtain ⟨J',M2,rs,h1,h2,h3,h4⟩:=bd7 (M:=Mo1 p d id c now seq since lease) (p:=1) (room:=room) h (fun M2 hM=>⟨[⟨p.a,p.n,true⟩],by rw [hT M2 hM]; exact cr7 hp,Nat.le_refl _⟩);have e1:=hT M2 h1;subst e1;have e2:=Mo1.subj hp h2;subst e2;refine ⟨J',?_,h4⟩;rw [h3,Mo1.tell hs0];rfl
theorem ce1 {fr k s m t:Nat} {ex x:Int} (h:J.Calm (room+2)) (hp:p.ok) (hex:now+1<ex) (hk:fr<8) (hc:c fr=x) (h1:1<=x) (h2:x<=1000) (hm:m<=8000) (ht:(m:Int)+x=(t:Int)):
  ∃ J',(Ms d id c (way1 p ⟨fr,k,s,m,ex⟩) now).tickG J=(sends c (T.Tm.encode [⟨p.a,p.n,k,s,t⟩]) 8,J',Mf d id c p k s t (way1 p ⟨fr,k,s,m,ex⟩) (now+1))/\J'.Calm room:=by
 obtain ⟨J',M2,rs,q1,q2,q3,q4⟩:=bd7 (M:=Ms d id c (way1 p ⟨fr,k,s,m,ex⟩) now) (p:=1) (room:=room) h (fun M2 hM=>⟨[⟨p.a,p.n,false⟩],by rw [bf2 hex hM]; exact cm9 hp hk,Nat.le_refl _⟩);have e1:=bf2 hex q1;subst e1;have e2:=cd7 hp (by show 0<=(fr:Int)/\(fr:Int)<=8; omega) q2;subst e2;refine ⟨J',?_,q4⟩;rw [q3,cd5 hk hc h1 h2 hm ht,bp3 G];rfl
theorem cs8 {k:Nat} (h:J.Calm (room+1)) (hk:k<=7):∃ J',(Ms d id c (fun _=>none) now).ownG J (167772160+k*65536) 16 true=(0,J',Mo1 (pz k) d id c now 0 0 0)/\J'.Calm room:=by
 have hn:(Ms d id c (fun _=>none) now).noted=0:=Mr.noted_is (xs:=[]) sn (fun x=>by simp [Ms,sm0]);obtain ⟨J',e,hJ⟩:=az3 h id sm0 ⟨2,0,0,0,167772160+k*65536,16,true,0,0⟩;refine ⟨J',?_,hJ⟩;have hr:Am.right (167772160+k*65536) 16=true:=ac3 hk;unfold Mr.ownG;rw [if_neg (by rw [hr]; simp),if_neg (by rintro ⟨-,h⟩; cases h),if_neg (by rintro ⟨h,-⟩; cases h),if_neg (by rw [hn]; rintro ⟨-,h⟩; omega)];show ((J.append id sm0 ⟨2,0,0,0,167772160+k*65536,16,true,0,0⟩).1,(J.append id sm0 ⟨2,0,0,0,167772160+k*65536,16,true,0,0⟩).2.1,{ Ms d id c (fun _=>none) now with sm:=(J.append id sm0 ⟨2,0,0,0,167772160+k*65536,16,true,0,0⟩).2.2 })=_;rw [e,<- own_ms (pz k) d id c now];rfl
end
end
end Go.Proofs.YtafkfnodcemefaaGreat
end
section
set_option maxHeartbeats 8000000
namespace Go.Proofs.YtafkfnodcemefaaGreat
section
open Go.RowKit Go.Maps Rm Fm Sb
structure AlS (x:NsG) (a b c:SvG) (os:List Dg):Prop where
 e0:x.1 0=a
 e1:x.1 1=b
 e2:x.1 2=c
 os:x.2=os
section
variable {x:NsG} {a b c s':SvG} {os:List Dg}
theorem AlS.put0 (h:AlS x a b c os) (s:SvG) (os':List Dg):AlS (setg x.1 0 s,os') s b c os':=⟨ak8 x.1 0 s,(aj4 (st:=x.1) (i:=0) (k:=1) (by decide) s).trans h.e1,(aj4 (st:=x.1) (i:=0) (k:=2) (by decide) s).trans h.e2,rfl⟩
theorem AlS.put1 (h:AlS x a b c os) (s:SvG) (os':List Dg):AlS (setg x.1 1 s,os') a s c os':=⟨(aj4 (st:=x.1) (i:=1) (k:=0) (by decide) s).trans h.e0,ak8 x.1 1 s,(aj4 (st:=x.1) (i:=1) (k:=2) (by decide) s).trans h.e2,rfl⟩
theorem AlS.put2 (h:AlS x a b c os) (s:SvG) (os':List Dg):AlS (setg x.1 2 s,os') a b s os':=⟨(aj4 (st:=x.1) (i:=2) (k:=0) (by decide) s).trans h.e0,(aj4 (st:=x.1) (i:=2) (k:=1) (by decide) s).trans h.e1,ak8 x.1 2 s,rfl⟩
end
theorem bv0 {k:Nat} (hk:4<=k) (id:Nat):∃ E J,(zDisk k).opened id=(0,E,some (J,sm0))/\J.Calm (k / 2 - 1):=by
 have hj:(zDisk k).journal id=none:=by
  unfold Dm.journal;rw [be4,be4]
 have hp:∀ bs,((zDisk k).put 0 bs).1=0/\((zDisk k).put 0 bs).2.well=-1:=fun bs=>by5 rfl 0 bs
 unfold Dm.opened;rw [if_neg (by show ¬ k / 2<2; omega),hj];simp only;rw [if_neg (by rw [(hp _).1]; simp)];exact ⟨_,_,rfl,(hp _).2,by show 0+(k / 2 - 1)+1<=k / 2; omega⟩
def dnS:SvG:=⟨none,fun _=>0,zDisk 128⟩
def upS (_:Nat) (J:Jm) (c:Nat->Int) (sp:Nat) (M:Mr):SvG:=⟨some ⟨J,sp,M⟩,c,zDisk 128⟩
theorem bv5 {i:Nat} (hi:i<3) (x:NsG):(nStep 3 ⟨0,(i:Int),0,0,0,0,[]⟩ x).2=(setg x.1 i ((x.1 i).boot i).2,x.2):=by
 have:i=0\/i=1\/i=2:=G
 rcases this with rfl|rfl|rfl
 ·unfold nStep
  rw [if_pos (by decide)];exact congrArg Prod.snd (if_pos (by decide))
 ·unfold nStep
  rw [if_pos (by decide)];exact congrArg Prod.snd (if_pos (by decide))
 ·unfold nStep
  rw [if_pos (by decide)];exact congrArg Prod.snd (if_pos (by decide))
theorem bv8 (i:Nat):∃ J,(dnS.boot i).2=upS (i+1) J c00 100000000 (Ms 0 (i+1) c00 fN 0)/\J.Calm 63:=by
 obtain ⟨E,J,hX,hJ⟩:=bv0 (k:=128) (by decide) (i+1);refine ⟨J,?_,hJ⟩;rw [SvG.boot_on (s:=dnS) rfl hX];show (⟨some ⟨J,100000000,mrB (i+1) 0 sm0 (fun _=>0)⟩,fun _=>0,zDisk 128⟩:SvG)=_;rw [co3];rfl
theorem bi3 (id i:Nat) (J:Jm) (c:Nat->Int) (sp k:Nat) (z:Int):(upS i J c sp (Ms 0 id c fN 0)).link k z=upS i J (fun q=>if q=k then z else c q) sp (Ms 0 id (fun q=>if q=k then z else c q) fN 0):=by
 show (⟨some ⟨J,sp,(Ms 0 id c fN 0).link k z⟩,fun q=>if q=k then z else c q,zDisk 128⟩:SvG)=_;rw [show (Ms 0 id c fN 0).link k z=_ from cu8 0 id c 0 k z];rfl
theorem ck7 (k:Nat) (z:Int):(fun q=>if q=k then z else c00 q)=cL k z:=by
 funext q;unfold cL c00;rfl
theorem cg7 (x:NsG):(nStep 3 ⟨3,0,1,4,0,0,[]⟩ x).2=(setg (setg x.1 0 ((x.1 0).link 1 4)) 1 ((x.1 1).link 0 4),x.2):=by
 unfold nStep;rw [if_pos (by decide)];exact congrArg Prod.snd (if_pos (by decide))
theorem cg6 (x:NsG):(nStep 3 ⟨3,1,2,5,0,0,[]⟩ x).2=(setg (setg x.1 1 ((x.1 1).link 2 5)) 2 ((x.1 2).link 1 5),x.2):=by
 unfold nStep;rw [if_pos (by decide)];exact congrArg Prod.snd (if_pos (by decide))
theorem ns_own (x:NsG):(nStep 3 ⟨4,2,0,0,167772160+2*65536,16,[]⟩ x).2=(setg x.1 2 ((x.1 2).own (167772160+2*65536) 16 true).2,x.2):=by
 unfold nStep;rw [if_pos (by decide)];exact congrArg Prod.snd (if_pos (by decide))
theorem bz2 (x:NsG):(nStep 3 ⟨10,0,0,0,0,0,[]⟩ x).2=(roundG 3 x.1 x.2,[]):=by
 unfold nStep;rw [if_pos (by decide)];rfl
theorem al_six:∃ J0 J1 J2,AlS (nAt 3 (evOf alE) (nNew 128) 6) (upS 1 J0 (cL 1 4) 100000000 (Ms 0 1 (cL 1 4) fN 0)) (upS 2 J1 c102 100000000 (Ms 0 2 c102 fN 0)) (upS 3 J2 (cL 1 5) 100000000 (Mo1 (pz 2) 0 3 (cL 1 5) 0 0 0 0)) []/\J0.Calm 63/\J1.Calm 63/\J2.Calm 62:=by
 have h0:AlS (nAt 3 (evOf alE) (nNew 128) 0) dnS dnS dnS []:=⟨rfl,rfl,rfl,rfl⟩;obtain ⟨J0,f0,c0⟩:=bv8 0;obtain ⟨J1,f1,c1⟩:=bv8 1;obtain ⟨J2,f2,c2⟩:=bv8 2;have n1:nAt 3 (evOf alE) (nNew 128) 1=_:=bv5 (i:=0) (by decide) (nAt 3 (evOf alE) (nNew 128) 0);have h1:=h0.put0 (upS 1 J0 c00 100000000 (Ms 0 1 c00 fN 0)) [];rw [h0.e0,h0.os,f0] at n1;rw [<- n1] at h1;have n2:nAt 3 (evOf alE) (nNew 128) 2=_:=bv5 (i:=1) (by decide) (nAt 3 (evOf alE) (nNew 128) 1);have h2:=h1.put1 (upS 2 J1 c00 100000000 (Ms 0 2 c00 fN 0)) [];rw [h1.e1,h1.os,f1] at n2;rw [<- n2] at h2;have n3:nAt 3 (evOf alE) (nNew 128) 3=_:=bv5 (i:=2) (by decide) (nAt 3 (evOf alE) (nNew 128) 2);have h3:=h2.put2 (upS 3 J2 c00 100000000 (Ms 0 3 c00 fN 0)) [];rw [h2.e2,h2.os,f2] at n3;rw [<- n3] at h3;have n4:nAt 3 (evOf alE) (nNew 128) 4=_:=cg7 (nAt 3 (evOf alE) (nNew 128) 3);rw [h3.e0,h3.e1,h3.os,bi3,bi3,ck7,ck7] at n4;have h4:AlS (nAt 3 (evOf alE) (nNew 128) 4) (upS 1 J0 (cL 1 4) 100000000 (Ms 0 1 (cL 1 4) fN 0)) (upS 2 J1 (cL 0 4) 100000000 (Ms 0 2 (cL 0 4) fN 0)) (upS 3 J2 c00 100000000 (Ms 0 3 c00 fN 0)) []:=by
  rw [n4];exact (h3.put0 (upS 1 J0 (cL 1 4) 100000000 (Ms 0 1 (cL 1 4) fN 0)) []).put1 (upS 2 J1 (cL 0 4) 100000000 (Ms 0 2 (cL 0 4) fN 0)) []
 have n5:nAt 3 (evOf alE) (nNew 128) 5=_:=cg6 (nAt 3 (evOf alE) (nNew 128) 4);rw [h4.e1,h4.e2,h4.os,bi3,bi3,ck7] at n5;have h5:AlS (nAt 3 (evOf alE) (nNew 128) 5) (upS 1 J0 (cL 1 4) 100000000 (Ms 0 1 (cL 1 4) fN 0)) (upS 2 J1 c102 100000000 (Ms 0 2 c102 fN 0)) (upS 3 J2 (cL 1 5) 100000000 (Ms 0 3 (cL 1 5) fN 0)) []:=by
  rw [n5];exact (h4.put1 (upS 2 J1 c102 100000000 (Ms 0 2 c102 fN 0)) []).put2 (upS 3 J2 (cL 1 5) 100000000 (Ms 0 3 (cL 1 5) fN 0)) []
 have n6:nAt 3 (evOf alE) (nNew 128) 6=_:=ns_own (nAt 3 (evOf alE) (nNew 128) 5);obtain ⟨J2',f3,c3⟩:=cs8 (d:=0) (id:=3) (c:=cL 1 5) (now:=0) (J:=J2) (room:=62) (k:=2) c2 G;have h6:=h5.put2 (upS 3 J2' (cL 1 5) 100000000 (Mo1 (pz 2) 0 3 (cL 1 5) 0 0 0 0)) [];rw [h5.e2,h5.os] at n6;have e6:((upS 3 J2 (cL 1 5) 100000000 (Ms 0 3 (cL 1 5) fN 0)).own (167772160+2*65536) 16 true).2=upS 3 J2' (cL 1 5) 100000000 (Mo1 (pz 2) 0 3 (cL 1 5) 0 0 0 0):=by
  show (⟨some ⟨((Ms 0 3 (cL 1 5) (fun _=>none) 0).ownG J2 (167772160+2*65536) 16 true).2.1,100000000,((Ms 0 3 (cL 1 5) (fun _=>none) 0).ownG J2 (167772160+2*65536) 16 true).2.2⟩,cL 1 5,zDisk 128⟩:SvG)=_;rw [f3];rfl
 rw [e6] at n6;rw [<- n6] at h6;exact ⟨J0,J1,J2',h6,c0,c1,c3⟩
section
variable {x:NsG} {a b c:SvG} {os ds:List Dg} {i sp:Nat} {J J':Jm} {cc:Nat->Int} {M M':Mr}
theorem bu1 {dt:List (Nat×List Nat)} (e:M.tickG J=(dt,J',M')):(upS i J cc sp M).tick=(0,upS i J' cc sp M',dt):=by
 show (0,(⟨some ⟨(M.tickG J).2.1,sp,(M.tickG J).2.2⟩,cc,zDisk 128⟩:SvG),(M.tickG J).1)=_;rw [e];rfl
theorem AlS.tick0 (h:AlS x (upS i J cc sp M) b c os) {dt:List (Nat×List Nat)} (e:M.tickG J=(dt,J',M')):AlS (tick1 x 0) (upS i J' cc sp M') b c (sendAll 0 os dt):=by
 unfold tick1;rw [h.e0,bu1 e,h.os];exact h.put0 _ _
theorem AlS.tick1' (h:AlS x a (upS i J cc sp M) c os) {dt:List (Nat×List Nat)} (e:M.tickG J=(dt,J',M')):AlS (tick1 x 1) a (upS i J' cc sp M') c (sendAll 1 os dt):=by
 unfold tick1;rw [h.e1,bu1 e,h.os];exact h.put1 _ _
theorem AlS.tick2 (h:AlS x a b (upS i J cc sp M) os) {dt:List (Nat×List Nat)} (e:M.tickG J=(dt,J',M')):AlS (tick1 x 2) a b (upS i J' cc sp M') (sendAll 2 os dt):=by
 unfold tick1;rw [h.e2,bu1 e,h.os];exact h.put2 _ _
theorem bu2 {fr:Nat} {bs:List Nat} (hl:bs.length<=1024) (e:M.receive fr bs=M'):(upS i J cc sp M).recv fr (bs.take (min (max 1024 0) (bs.length:Int)).toNat)=upS i J cc (sp - 1100) M':=by
 rw [show (min (max 1024 0) (bs.length:Int)).toNat=bs.length by omega,List.take_length,<- e];rfl
theorem AlS.recv0 {fr:Nat} {bs:List Nat} {r:List Dg} (h:AlS x (upS i J cc sp M) b c ((fr,0,bs)::r)) (hl:bs.length<=1024) (e:M.receive fr bs=M'):AlS (recvAll 3 x.1 (fr,0,bs) 1024,r) (upS i J cc (sp - 1100) M') b c r:=by
 unfold recvAll;rw [if_pos (show (0:Nat)<3 by decide)];show AlS (setg x.1 0 ((x.1 0).recv fr (bs.take (min (max 1024 0) (bs.length:Int)).toNat)),r) _ _ _ _;rw [h.e0,bu2 hl e];exact h.put0 _ _
theorem AlS.recv1 {fr:Nat} {bs:List Nat} {r:List Dg} (h:AlS x a (upS i J cc sp M) c ((fr,1,bs)::r)) (hl:bs.length<=1024) (e:M.receive fr bs=M'):AlS (recvAll 3 x.1 (fr,1,bs) 1024,r) a (upS i J cc (sp - 1100) M') c r:=by
 unfold recvAll;rw [if_pos (show (1:Nat)<3 by decide)];show AlS (setg x.1 1 ((x.1 1).recv fr (bs.take (min (max 1024 0) (bs.length:Int)).toNat)),r) _ _ _ _;rw [h.e1,bu2 hl e];exact h.put1 _ _
theorem AlS.recv2 {fr:Nat} {bs:List Nat} {r:List Dg} (h:AlS x a b (upS i J cc sp M) ((fr,2,bs)::r)) (hl:bs.length<=1024) (e:M.receive fr bs=M'):AlS (recvAll 3 x.1 (fr,2,bs) 1024,r) a b (upS i J cc (sp - 1100) M') r:=by
 unfold recvAll;rw [if_pos (show (2:Nat)<3 by decide)];show AlS (setg x.1 2 ((x.1 2).recv fr (bs.take (min (max 1024 0) (bs.length:Int)).toNat)),r) _ _ _ _;rw [h.e2,bu2 hl e];exact h.put2 _ _
end
theorem bl3 {M:Mr} {fr:Nat} {p:Pk} {k s m:Nat} (hp:Am.right p.a p.n=true) (hpk:p.ok) (hid:k≠0) (hid2:k<4294967296) (hse:s<=1073741824) (hm:m<65535) (hc:cAt M.c fr≠0):M.receive fr (pgm p k s m)=M.hear fr p.a p.n k s m:=by
 unfold Mr.receive;rw [if_neg hc,cs3 hp hpk hid hid2 hse hm];rfl
theorem bm1 {p:Pk} {k s m:Nat} (hp:Am.right p.a p.n=true) (hi:k≠0) (hs:s<=1073741824) (hm:m<65535):(pgm p k s m).length<=1024:=(co1 hp hi hs hm).2.1
theorem cq2:∃ J0 J1 J2,AlS (nAt 3 (evOf alE) (nNew 128) 7) (upS 1 J0 (cL 1 4) 100000000 (Ms 0 1 (cL 1 4) fN 1)) (upS 2 J1 c102 (100000000 - 1100) (Ms 0 2 c102 (w2 4) 1)) (upS 3 J2 (cL 1 5) 100000000 (Mo1 (pz 2) 0 3 (cL 1 5) 1 1 1 8)) []/\J0.Calm 62/\J1.Calm 62/\J2.Calm 60:=by
 obtain ⟨J0,J1,J2,h6,c0,c1,c2⟩:=al_six;have n7:nAt 3 (evOf alE) (nNew 128) 7=_:=bz2 (nAt 3 (evOf alE) (nNew 128) 6);generalize nAt 3 (evOf alE) (nNew 128) 6=x at*;obtain ⟨K0,e0,k0⟩:=bi9 (d:=0) (id:=1) (c:=cL 1 4) (now:=0) (J:=J0) (room:=62) c0;obtain ⟨K1,e1,k1⟩:=bi9 (d:=0) (id:=2) (c:=c102) (now:=0) (J:=J1) (room:=62) c1;obtain ⟨K2,e2,k2⟩:=bx9 (p:=pz 2) (d:=0) (id:=3) (c:=cL 1 5) (now:=0) (J:=J2) (room:=60) (s':=1) (t':=0+1) (l':=8) c2 (bl6 G) Mo1.first G;rw [bm7 (ac3 G) G G G,by0 G (by decide)] at e2;have t0:=h6.tick0 e0;have t1:=t0.tick1' e1;have t2:=t1.tick2 e2;have t3:AlS (ticksN 3 (x.1,x.2)) (upS 1 K0 (cL 1 4) 100000000 (Ms 0 1 (cL 1 4) fN 1)) (upS 2 K1 c102 100000000 (Ms 0 2 c102 fN 1)) (upS 3 K2 (cL 1 5) 100000000 (Mo1 (pz 2) 0 3 (cL 1 5) 1 1 1 8)) [(2,1,pgm (pz 2) 3 1 0)]:=t2;have r1:=t3.recv1 (bm1 (ac3 G) G G G) (bl3 (ac3 G) (bl6 G) G G G G (by show cAt c102 2≠0; decide));rw [show (Ms 0 2 c102 fN 1).hear 2 (pz 2).a (pz 2).n 3 1 0=_ from cv0 G] at r1;refine ⟨K0,K1,K2,?_,k0,k1,k2⟩;have e7:nAt 3 (evOf alE) (nNew 128) 7=(recvAll 3 (ticksN 3 (x.1,x.2)).1 (2,1,pgm (pz 2) 3 1 0) 1024,[]):=by
  rw [n7];unfold roundG;rw [t3.os];rfl
 rw [e7];exact r1
theorem cq8:∃ J0 J1 J2,AlS (nAt 3 (evOf alE) (nNew 128) 8) (upS 1 J0 (cL 1 4) (100000000 - 1100) (Ms 0 1 (cL 1 4) w0f 2)) (upS 2 J1 c102 (100000000 - 1100 - 1100) (Mf 0 2 c102 (pz 2) 3 1 5 (w2 5) 2)) (upS 3 J2 (cL 1 5) (100000000 - 1100) (Mo1 (pz 2) 0 3 (cL 1 5) 2 1 1 8)) []:=by
 obtain ⟨J0,J1,J2,h7,c0,c1,c2⟩:=cq2;have n8:nAt 3 (evOf alE) (nNew 128) 8=_:=bz2 (nAt 3 (evOf alE) (nNew 128) 7);generalize nAt 3 (evOf alE) (nNew 128) 7=x at*;obtain ⟨K0,e0,k0⟩:=bi9 (d:=0) (id:=1) (c:=cL 1 4) (now:=1) (J:=J0) (room:=61) c0;obtain ⟨K1,e1,k1⟩:=ce1 (p:=pz 2) (d:=0) (id:=2) (c:=c102) (now:=1) (J:=J1) (room:=60) (fr:=2) (k:=3) (s:=1) (m:=0) (t:=5) (ex:=4) (x:=5) c1 (bl6 G) (by decide) G rfl (by decide) (by decide) G rfl;rw [bm7 (ac3 G) G G G,ce7] at e1;obtain ⟨K2,e2,k2⟩:=bx9 (p:=pz 2) (d:=0) (id:=3) (c:=cL 1 5) (now:=1) (J:=J2) (room:=58) (s':=1) (t':=1) (l':=8) c2 (bl6 G) (Mo1.next_big ⟨by omega,by decide⟩) G;rw [bm7 (ac3 G) G G G,by0 G (by decide)] at e2;have t0:=h7.tick0 e0;have t1:=t0.tick1' e1;have t2:=t1.tick2 e2;have t3:AlS (ticksN 3 (x.1,x.2)) (upS 1 K0 (cL 1 4) 100000000 (Ms 0 1 (cL 1 4) fN 2)) (upS 2 K1 c102 (100000000 - 1100) (Mf 0 2 c102 (pz 2) 3 1 5 (w2 4) 2)) (upS 3 K2 (cL 1 5) 100000000 (Mo1 (pz 2) 0 3 (cL 1 5) 2 1 1 8)) [(1,0,pgm (pz 2) 3 1 5),(1,2,pgm (pz 2) 3 1 5),(2,1,pgm (pz 2) 3 1 0)]:=t2;have r1:=t3.recv0 (bm1 (ac3 G) G G G) (bl3 (ac3 G) (bl6 G) G G G G (by show cAt (cL 1 4) 1≠0; decide));rw [show (Ms 0 1 (cL 1 4) fN 2).hear 1 (pz 2).a (pz 2).n 3 1 5=_ from co9 G G] at r1;have r2:=r1.recv2 (bm1 (ac3 G) G G G) (bl3 (ac3 G) (bl6 G) G G G G (by show cAt (cL 1 5) 1≠0; decide));rw [show (Mo1 (pz 2) 0 3 (cL 1 5) 2 1 1 8).hear 1 (pz 2).a (pz 2).n 3 1 5=_ from co8] at r2;have r3:=r2.recv1 (bm1 (ac3 G) G G G) (bl3 (ac3 G) (bl6 G) G G G G (by show cAt c102 2≠0; decide));rw [show (Mf 0 2 c102 (pz 2) 3 1 5 (w2 4) 2).hear 2 (pz 2).a (pz 2).n 3 1 0=_ from cw0 (fun _=>0)] at r3;refine ⟨K0,K1,K2,?_⟩;have e8:nAt 3 (evOf alE) (nNew 128) 8=(recvAll 3 (recvAll 3 (recvAll 3 (ticksN 3 (x.1,x.2)).1 (1,0,pgm (pz 2) 3 1 5) 1024) (1,2,pgm (pz 2) 3 1 5) 1024) (2,1,pgm (pz 2) 3 1 0) 1024,[]):=by
  rw [n8];unfold roundG;rw [t3.os];rfl
 rw [e8];exact r3
end
end Go.Proofs.YtafkfnodcemefaaGreat
end
section
set_option maxHeartbeats 8000000
set_option maxRecDepth 100000
namespace Go.Proofs.YtafkfnodcemefaaGreat
open _root_.Go.Proofs.Tryz (prog)
section
open Go.RowKit Go.Maps Rm Fm Sb
attribute [local go_sem] Oper.semAt_some
theorem EvG.at_router {ev:Nat->Sc.Ev} {x:NsG} {n k N:Nat} {v:Value} {w1 w2:World} (h:EvG ev x w1 N n k v w2) {i:Nat} (hi:i<n) {x':RvG} (hx:((nAt n ev x k).1 i).r=some x'):
  ∃ R F M,M.un=x'.M/\Gz F w2 R x'.J x'.sp M/\∀ w',Below w2.heap.size w2 w'->Q 12 #[K N,I i] w' (Rr0 w' (K R)):=by
 obtain ⟨MB,ms,v1,xs,hW,hst,-⟩:=h.net.ex;obtain ⟨R,M,hm,hu⟩:=MaG.sv_some (hst i hi) hx;have hk:=hW.nt.mas.ok i hi;rw [hm] at hk;refine ⟨R,_,M,hu,hk.some rfl,fun w' hb=>?_⟩;have H:=bd0 (hW.nt.held hb) hi;rw [hm] at H;refine H.mono ?_;rintro e w3 ⟨rfl,rfl⟩;exact ⟨rfl,.refl _ _⟩
theorem Gz.at_dist {F:List Nat} {w:World} {R sp:Nat} {J:Jm} {M:Mr} (h:Gz F w R J sp M) {a:Nat} {len:Int} (hp:Pk.ok ⟨a,len⟩) {z:Int} {ok:Bool} (hz:M.dist a len=(z,ok)) (w':World) (hb:Below w.heap.size w w'):
  Q 30 #[K R,.agg #[U a,I len]] w' (Rr0 w' (.tuple #[I z,Tt ok])):=by
 obtain ⟨o,fl,tb,j,N0,n0,hR⟩:=(h.held hb).rr;exact cr9 hR hp hz
theorem cw1:Sc.Evs alB alE 131 0:=⟨cl6,by decide,by decide+kernel,by decide+kernel,by decide+kernel,.inl ⟨rfl,by decide+kernel⟩⟩
theorem cl3 {A:Option Addr} {n cap:Nat} {w:World} (h:Sp.Sl w A n cap alB) (hn:n<=262144):
  Q 29 #[.slice A n cap] w fun x w'=>∃ N v w1,x= .returned (.tuple #[K N,v,I 131,I 0])/\EvG (evOf alE) (nNew 128) w1 N 3 8 v w'/\Bw w w1:=
 ay7 (nn:=3) (sec:=128) h hn (by decide+kernel) (by decide+kernel) (by decide+kernel) cw1 (by decide)
theorem bp0:alE.length=8:=rfl
def alCellsG:Array Value:=#[I 0,I 0,I 0,I 0,U 0,I 0,Ss ⟨#[]⟩,I 0,I 1,I 0,I 0,U 0,I 0,Ss ⟨#[]⟩,I 0,I 2,I 0,I 0,U 0,I 0,Ss ⟨#[]⟩,
 I 3,I 0,I 1,I 4,U 0,I 0,Ss ⟨#[]⟩,I 3,I 1,I 2,I 5,U 0,I 0,Ss ⟨#[]⟩,I 4,I 2,I 0,I 0,U ((167772160+2*65536:Nat):Int),I 16,Ss ⟨#[]⟩,
 I 10,I 0,I 0,I 0,U 0,I 0,Ss ⟨#[]⟩,I 10,I 0,I 0,I 0,U 0,I 0,Ss ⟨#[]⟩]
theorem bw3:(alE.flatMap Sp.ecl).toArray=alCellsG:=rfl
theorem cv9 (w:World):Q 6 #[] w (Rr0 w (Tt true)):=by
 have HP:=cg9 2 G w;replace HP:Q 22 #[I 2,I 0] w (Rr0 w (.agg #[U ((167772160+2*65536:Nat):Int),I 16])):=HP
 go_enter Tryz.func6,Tryz.ntmps6;go_upto_region 2 with (go_at_call 22; refine HP.mono ?_; rintro e w1 ⟨rfl,hb1⟩);have PB:=Blk.new w1 28 #[U ((167772160+2*65536:Nat):Int),I 16];have hb2:=next hb1 (aa0 w1 (.cells #[U ((167772160+2*65536:Nat):Int),I 16] 28));have hlt:w1.heap.size<(w1.alloc (.cells #[U ((167772160+2*65536:Nat):Int),I 16] 28)).heap.size:=by rw [aa1]; omega
 clear HP hb1;generalize w1.alloc _=w2 at*;generalize w1.heap.size=pb at*;have c0:=PB.at_ 0;have c1:=PB.at_ 1;have LB:=Blk.new w2 30 alCellsG;have hb3:=aa0 w2 (.cells alCellsG 30);unfold alCellsG at LB hb3;go_upto_region 3 with fail;have PB3:=PB.held hb3;have hB3:=Z (next hb2 hb3);clear hb2 hb3 PB c0 c1 hlt;generalize w2.alloc _=w3 at*;generalize w2.heap.size=lb at*;have LB':Blk 30 w3 lb (alE.flatMap Sp.ecl).toArray:=by rw [bw3]; exact LB
 have HE:=Sp.encode_good (nn:=3) (ss:=128) (el_blk LB' (by rw [bp0]; decide) cr5) (by rw [bp0]; decide) (by decide+kernel) (by decide+kernel) (by decide+kernel);rw [bp0] at HE;replace HE:Q 28 #[I 3,I 128,Lt lb 8 8] w3 fun x w'=>∃ g c q,x= .returned (.tuple #[Lt g q c,I 0])/\q=alB.length/\Sp.Ob w3.heap.size (Lt g q c) alB w'/\Bw w3 w':=HE
 have Z3:=Z PB3;clear LB LB' PB3;go_upto_region 4 with (go_at_call 28; refine HE.mono ?_; rintro e w4 ⟨g,c,q,rfl,hq,hO,hb4⟩);have hq2:q=131:=hq.trans (by decide+kernel);subst hq2;have HBy:=cl3 (sl_ob hO alB_lt) (by decide);have Z4:=H2 (Z3.out.held hb4) (next hB3.out hb4);clear HE hO hb4 hq;go_upto_region 5 with (go_at_call 29; refine HBy.mono ?_; rintro x w5 ⟨N,v,w0,rfl,hR,hb5⟩);have hb6:=hb5.trans (hR.below.mono hb5.size);obtain ⟨vp,vc,rfl⟩:=hR.len;obtain ⟨J0,J1,J2,hA⟩:=cq8;obtain ⟨R0,F0,M0,hu0,hR0,HR0⟩:=hR.at_router (i:=0) G (x':=⟨J0,100000000 - 1100,Ms 0 1 (cL 1 4) w0f 2⟩) (by rw [hA.e0]; rfl);obtain ⟨R1,F1,M1,hu1,hR1,HR1⟩:=hR.at_router (i:=1) G (x':=⟨J1,100000000 - 1100 - 1100,Mf 0 2 c102 (pz 2) 3 1 5 (Go.Proofs.YtafkfnodcemefaaGreat.w2 5) 2⟩) (by rw [hA.e1]; rfl);have HD0:=hR0.at_dist (a:=167772160+2*65536) (len:=16) (bl6 (i:=2) G) (show M0.un.dist (pz 2).a (pz 2).n=(9,true) by rw [hu0]; exact cr4 (fun _=>0));have HD1:=hR1.at_dist (a:=167772160+2*65536) (len:=16) (bl6 (i:=2) G) (show M1.un.dist (pz 2).a (pz 2).n=(5,true) by rw [hu1]; exact cr1 (fun _=>0));have PB5:=Z4.out.1.held hb6;have HB5:=Z (next Z4.out.2 hb6);have H00:=HR0 w5 (.refl _ _);replace H00:Q 12 #[Pt N,I 0] w5 (Rr0 w5 (Pt R0)):=H00
 have K:=H5 HR0 HR1 HD0 HD1 PB5;clear HBy hR hA hu0 hu1 hR0 hR1 HR0 HR1 HD0 HD1 PB5 hb5 hb6 Z3 Z4 hB3;go_upto_region 7 with (go_at_call 12; refine H00.mono ?_; rintro e w6 ⟨rfl,hb6⟩);have hB6:=Z (next HB5.out hb6);have HRa:∀ (q:Nat) (os:Array Obj),Q 12 #[Pt N,I 0] (Sort.grow (redrawn w6 q) os) fun e w2=>e= .returned (Pt R0)/\Below (Sort.grow (redrawn w6 q) os).heap.size (Sort.grow (redrawn w6 q) os) w2:=fun q os=>K.out.1 _ (next hb6 (below_regrown w6 q os))
 have HDa:∀ (q:Nat) (os:Array Obj),Q 30 #[Pt R0,.agg #[U ((167772160+2*65536:Nat):Int),I 16]] (Sort.grow (redrawn w6 q) os) fun e w2=>e= .returned (.tuple #[I 9,Tt true])/\Below (Sort.grow (redrawn w6 q) os).heap.size (Sort.grow (redrawn w6 q) os) w2:=fun q os=>K.out.2.2.1 _ (next hb6 (below_regrown w6 q os))
 have p0:=fun q os=>cell_regrown ((K.out.2.2.2.2.held hb6).at_ 0) q os
 have p1:=fun q os=>cell_regrown ((K.out.2.2.2.2.held hb6).at_ 1) q os
 have B6:=Z hb6;clear H00 hb6;refine wp_region_quiet_below X X ?_
 repeat (go_big_quiet_step (first|(go_at_call 12; exact Calls.regrown_of (HRa _ _))|(go_at_call 30; exact Calls.regrown_of (HDa _ _))))
 refine wpQuiet_nil ?_;intro _ hw';obtain ⟨⟨dq,osq⟩,hw''⟩:=hw';subst hw'';have hb7:=next B6.out (below_regrown w6 dq osq);have hB7:=Z (next hB6.out (below_regrown w6 dq osq));clear HRa HDa p0 p1 B6 hB6;generalize Sort.grow (redrawn w6 dq) osq=w7 at*;have HRb:∀ (q:Nat) (os:Array Obj),Q 12 #[Pt N,I 1] (Sort.grow (redrawn w7 q) os) fun e w2=>e= .returned (Pt R1)/\Below (Sort.grow (redrawn w7 q) os).heap.size (Sort.grow (redrawn w7 q) os) w2:=fun q os=>K.out.2.1 _ (next hb7 (below_regrown w7 q os))
 have HDb:∀ (q:Nat) (os:Array Obj),Q 30 #[Pt R1,.agg #[U ((167772160+2*65536:Nat):Int),I 16]] (Sort.grow (redrawn w7 q) os) fun e w2=>e= .returned (.tuple #[I 5,Tt true])/\Below (Sort.grow (redrawn w7 q) os).heap.size (Sort.grow (redrawn w7 q) os) w2:=fun q os=>K.out.2.2.2.1 _ (next hb7 (below_regrown w7 q os))
 have p0:=fun q os=>cell_regrown ((K.out.2.2.2.2.held hb7).at_ 0) q os
 have p1:=fun q os=>cell_regrown ((K.out.2.2.2.2.held hb7).at_ 1) q os
 clear hb7;go_upto_region 8 with fail;refine wp_region_quiet_below X X ?_
 repeat (go_big_quiet_step (first|(go_at_call 12; exact Calls.regrown_of (HRb _ _))|(go_at_call 30; exact Calls.regrown_of (HDb _ _))))
 refine wpQuiet_nil ?_;intro _ hw';obtain ⟨⟨dq,osq⟩,hw''⟩:=hw';subst hw'';have hB8:=next hB7.out (below_regrown w7 dq osq);clear HRb HDb p0 p1 K hB7;go_wp2;go_ret;exact ⟨rfl,hB8⟩
end
end Go.Proofs.YtafkfnodcemefaaGreat
end
