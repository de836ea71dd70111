import Derived.Test.YtafkfnodcemefaaGreatB68
import Derived.Test.YtafkfnodcemefaaGreatB62
import Derived.Test.YtafkfnodcemefaaGreatB46
set_option maxHeartbeats 8000000
namespace Go.Proofs.YtafkfnodcemefaaGreat
open _root_.Go.Proofs.Tryz (prog)
section
open Go.RowKit Go.Maps Rm Fm Sb
def moT (k:Nat):Mr:=if k=0 then Mo1 (pz 0) 0 1 (cL 1 3) 0 0 0 0 else Mo1 (pz 0) 0 1 (cL 1 3) k (1+(k - 1) / 12) ((1+12*((k - 1) / 12):Nat):Int) 8
theorem moT_owns (k:Nat):(moT k).owns (pz 0)=true:=by
 unfold moT;split
 ·exact Mo1.owns_ten (p:=pz 0)
 ·exact Mo1.owns_ten (p:=pz 0)
theorem mo_good {p:Pk} {d id:Nat} {c:Nat->Int} {now:Int} {s:Nat} {t:Int} {l:Nat}:(Mo1 p d id c now s t l).Good:=fun k r h=>by cases h
theorem ms_good {d id:Nat} {c:Nat->Int} {now:Int}:(Ms d id c fN now).Good:=fun k r h=>by cases h
theorem moT_good (k:Nat):(moT k).Good:=by
 unfold moT;split<;>exact mo_good
theorem pz0_ok:(pz 0).ok:=bl6 G
def upZ (s:Nat):T.Tm.Up:=⟨(pz 0).a,(pz 0).n,1,s,0⟩
theorem moT_step (k:Nat) (hk40:k<=40) {J:Jm} (h:k=0->J.Calm 62):∃ J',(moT k).tickG J=(sends (cL 1 3) (T.Tm.encode [upZ (1+k / 12)]) 8,J',moT (k+1)):=by
 by_cases hk:k=0
 ·subst hk
  obtain ⟨J',e,-⟩:=bx9 (p:=pz 0) (d:=0) (id:=1) (c:=cL 1 3) (now:=0) (J:=J) (room:=60) (seq:=0) (since:=0) (lease:=0) (s':=1) (t':=1) (l':=8) (h rfl) pz0_ok (Mo1.advance_to (nx:=1) G rfl G) G;exact ⟨J',e⟩
 ·have e1:moT k=Mo1 (pz 0) 0 1 (cL 1 3) k (1+(k - 1) / 12) ((1+12*((k - 1) / 12):Nat):Int) 8:=if_neg hk
  have e2:moT (k+1)=Mo1 (pz 0) 0 1 (cL 1 3) ((k+1:Nat):Int) (1+k / 12) ((1+12*(k / 12):Nat):Int) 8:=if_neg G;have h8:1+(k - 1) / 12<=7:=G
  have ha:=mo_advance (p:=pz 0) (d:=0) (id:=1) (c:=cL 1 3) (now:=(k:Int)+1) (J:=J) (s:=1+(k - 1) / 12) (t:=((1+12*((k - 1) / 12):Nat):Int)) G h8;have hb:(Mo1 (pz 0) 0 1 (cL 1 3) ((k:Int)+1) (1+(k - 1) / 12) ((1+12*((k - 1) / 12):Nat):Int) 8).advanceG J=(J,Mo1 (pz 0) 0 1 (cL 1 3) ((k:Int)+1) (1+k / 12) ((1+12*(k / 12):Nat):Int) 8):=by
   rw [ha];by_cases hn:((k:Int)+1) - ((1+12*((k - 1) / 12):Nat):Int)<12
   ·rw [if_pos hn,show k / 12=(k - 1) / 12 by omega]
   ·rw [if_neg hn,show 1+(k - 1) / 12+1=1+k / 12 by omega,show ((k:Int)+1)=((1+12*(k / 12):Nat):Int) by omega]
  have ht:=mo_tick pz0_ok hb;rw [if_neg G] at ht;refine ⟨J,?_⟩;rw [e1,e2,ht];rfl
theorem sends_one (b:List Nat):sends (cL 1 3) [b] 8=[(1,b)]:=rfl
def Dm1 (g:Dg):Prop:=(∀ c∈g.2.2,c<256)/\g.2.2.length<=5000/\∃ s,T.Tm.decode g.2.2=some [upZ s]/\1<=s/\s<=8
theorem upZ_fits {s:Nat} (h:s<=8):(upZ s).Fits:=⟨pz0_ok.1,pz0_ok.2.1,pz0_ok.2.2,by show 1<4294967296; omega,by show s<4294967296; omega,by show 0<65536; omega⟩
theorem upZ_right {s:Nat} (h:s<=8):T.Tm.right (upZ s)=true:=by
 have hp:Am.right (pz 0).a (pz 0).n=true:=ac3 (i:=0) G;unfold upZ T.Tm.right;simp [hp];omega
theorem sent_one {s:Nat} (h1:1<=s) (h8:s<=8):∃ b,sendAll 0 [] (sends (cL 1 3) (T.Tm.encode [upZ s]) 8)=[(0,1,b)]/\Dm1 (0,1,b):=by
 have he:=cb3 (upZ_right h8);have hd:=decode_one (upZ_right h8) (upZ_fits h8);obtain ⟨a1,a2,a3,-⟩:=T.Tm.encode_fine [upZ s] (T.Tm.page (T.Tm.parts (upZ s) 0)) (by rw [he]; exact List.mem_singleton.2 rfl);refine ⟨T.Tm.page (T.Tm.parts (upZ s) 0),?_,a3,by show (T.Tm.page (T.Tm.parts (upZ s) 0)).length<=5000; omega,s,hd,h1,h8⟩;rw [he,sends_one];rfl
def Wa (st:Nat->SvG) (os:List Dg):Prop:=(∀ i,st i=dnS)/\os=[]
def Wb (st:Nat->SvG) (os:List Dg):Prop:=(∃ J,st 0=upS 1 J c00 100000000 (Ms 0 1 c00 fN 0)/\J.Calm 63)/\st 1=dnS/\os=[]
def Wc (st:Nat->SvG) (os:List Dg):Prop:=(∃ J,st 0=upS 1 J c00 100000000 (Ms 0 1 c00 fN 0)/\J.Calm 63)/\(∃ J,st 1=upS 2 J c00 100000000 (Ms 0 2 c00 fN 0))/\os=[]
def Wd (st:Nat->SvG) (os:List Dg):Prop:=(∃ J,st 0=upS 1 J (cL 1 3) 100000000 (Ms 0 1 (cL 1 3) fN 0)/\J.Calm 63)/\(∃ J,st 1=upS 2 J (cL 0 3) 100000000 (Ms 0 2 (cL 0 3) fN 0))/\os=[]
structure Wr (k:Nat) (st:Nat->SvG) (os:List Dg):Prop where
 os:os=[]
 inv:InvG 2 (8*(16 - k)) (256*(16 - k)) st []
 m0:∃ J,Runs (st 0) J (moT k)/\(k=0->J.Calm 62)
 m1:RunsO (pz 0) (st 1)
def wM (A k:Nat):Mr:=if A=0 then Mo1 (pz 0) 0 1 (cL 1 3) k 0 0 0 else moT (A+k)
structure Wt (A k:Nat) (st:Nat->SvG) (os:List Dg):Prop where
 os:os=[]
 m0:∃ J,Runs (st 0) J (wM A k)/\(A=0->¬ J.size<=1+J.len)
structure Wu (A k:Nat) (st:Nat->SvG) (os:List Dg):Prop where
 os:os=[]
 m0:∃ J,Runs (st 0) J (wM A k)/\(A=0->¬ J.size<=1+J.len/\J.D.well=0)
structure Wi (A k g:Nat) (st:Nat->SvG) (os:List Dg):Prop where
 len:os.length=g
 all:∀ d∈os,Dm1 d
 m0:∃ J,Runs (st 0) J (wM A k)/\(A=0->¬ J.size<=1+J.len)
theorem wr_wt {A:Nat} (st:Nat->SvG) (os:List Dg) (h:Wr A st os):Wt A 0 st os:=by
 obtain ⟨J,h1,h2⟩:=h.m0;refine ⟨h.os,J,?_,fun e=>?_⟩
 ·unfold wM
  split
  ·rename_i e
   rw [e] at h1;exact h1
  ·exact h1
 ·have:=(h2 e).2; omega
theorem wi_wt {A k:Nat} (st:Nat->SvG) (os:List Dg) (h:Wi A k 0 st os):Wt A k st os:=⟨List.length_eq_zero_iff.1 h.len,h.m0⟩
def Ww (w0 w:World) (N:Nat) (Ph:(Nat->SvG)->List Dg->Prop):Prop:=∃ st os,Ph st os/\BoG (fun x=>w0.heap.size<=x) w0 w N 2 st os
section
variable {w0 w w':World} {N A k g:Nat} {Ph Ph':(Nat->SvG)->List Dg->Prop}
theorem Ww.held (h:Ww w0 w N Ph) (hb:Below w.heap.size w w'):Ww w0 w' N Ph:=by
 obtain ⟨st,os,h1,h2⟩:=h;exact ⟨st,os,h1,h2.held hb⟩
theorem Ww.below (h:Ww w0 w N Ph):Below w0.heap.size w0 w:=by
 obtain ⟨st,os,h1,h2⟩:=h;exact h2.tu.below
theorem Ww.mono (h:Ww w0 w N Ph) (hp:∀ st os,Ph st os->Ph' st os):Ww w0 w N Ph':=by
 obtain ⟨st,os,h1,h2⟩:=h;exact ⟨st,os,hp _ _ h1,h2⟩
theorem ww_new (w:World):Q 18 #[I 2,I 128] w fun e w'=>∃ N:Nat,e= .returned (K N)/\Ww w w' N Wa:=by
 have H:Q 18 #[I 2,I 128] w fun e w'=>∃ N:Nat,e= .returned (K N)/\BoG (fun x=>w.heap.size<=x) w w' N 2 (fun _=>⟨none,fun _=>0,zDisk 128⟩) []:=bg_new 2 G G 128 G G w
 refine H.mono ?_;rintro e w' ⟨N,rfl,h⟩;exact ⟨N,rfl,_,_,⟨fun _=>rfl,rfl⟩,h⟩
theorem dn_low (k:Nat):0<=dnS.c k/\dnS.c k<=1000:=⟨Int.le_refl _,by show (0:Int)<=1000; omega⟩
theorem ww_boot0 (h:Ww w0 w N Wa):Q 19 #[K N,I 0] w fun e w'=>∃ z,e= .returned (I z)/\Ww w0 w' N Wb:=by
 obtain ⟨st,os,⟨h1,h2⟩,h⟩:=h;have H:=eb0 h (i:=0) G (by rw [h1]; exact dn_low);refine H.mono ?_;rintro e w' ⟨rfl,h⟩;obtain ⟨J,f,c⟩:=bv8 0;exact ⟨_,rfl,_,_,⟨⟨J,by rw [ak8,h1]; exact f,c⟩,by rw [aj4 (by decide)]; exact h1 1,h2⟩,h⟩
theorem ww_boot1 (h:Ww w0 w N Wb):Q 19 #[K N,I 1] w fun e w'=>∃ z,e= .returned (I z)/\Ww w0 w' N Wc:=by
 obtain ⟨st,os,⟨h1,h2,h3⟩,h⟩:=h;have H:=eb0 h (i:=1) G (by rw [h2]; exact dn_low);refine H.mono ?_;rintro e w' ⟨rfl,h⟩;obtain ⟨J,f,c⟩:=bv8 1;exact ⟨_,rfl,_,_,⟨by rw [aj4 (by decide)]; exact h1,⟨J,by rw [ak8,h2]; exact f⟩,h3⟩,h⟩
theorem ww_link (h:Ww w0 w N Wc):Q 20 #[K N,I 0,I 1,I 3] w fun e w'=>∃ z,e= .returned (I z)/\Ww w0 w' N Wd:=by
 obtain ⟨st,os,⟨⟨J0,h1,c1⟩,⟨J1,h2⟩,h3⟩,h⟩:=h;have H:=ea8 h (a:=0) (b:=1) G G G (cost:=3) G G;refine H.mono ?_;rintro e w' ⟨rfl,h⟩;refine ⟨_,rfl,_,_,⟨⟨J0,?_,c1⟩,⟨J1,?_⟩,h3⟩,h⟩
 ·rw [aj4 (by decide),ak8,h1,bi3,ck7]
 ·rw [ak8,h2,bi3,ck7]
theorem npfx0 (w:World):Q 22 #[I 0,I 0] w (Rr0 w (.agg #[U 167772160,I 16])):=cg9 0 G w
theorem ww_own (h:Ww w0 w N Wd):Q 21 #[K N,I 0,.agg #[U 167772160,I 16],O true] w fun e w'=>∃ z,e= .returned (I z)/\Ww w0 w' N (Wr 0):=by
 obtain ⟨st,os,⟨⟨J0,h1,c1⟩,⟨J1,h2⟩,h3⟩,h⟩:=h;have H:Q 21 #[K N,I 0,.agg #[U 167772160,I 16],O true] w fun e w'=>e= .returned (I ((st 0).own 167772160 16 true).1)/\BoG (fun x=>w0.heap.size<=x) w0 w' N 2 (setg st 0 ((st 0).own 167772160 16 true).2) os:=dy6 h (i:=0) G pz0_ok true
 refine H.mono ?_;rintro e w' ⟨rfl,h⟩;obtain ⟨J',f,c⟩:=cs8 (d:=0) (id:=1) (c:=cL 1 3) (now:=0) (J:=J0) (room:=62) (k:=0) c1 G;have f:(Ms 0 1 (cL 1 3) (fun _=>none) 0).ownG J0 167772160 16 true=(0,J',Mo1 (pz 0) 0 1 (cL 1 3) 0 0 0 0):=f;have e0:((st 0).own 167772160 16 true).2=upS 1 J' (cL 1 3) 100000000 (Mo1 (pz 0) 0 1 (cL 1 3) 0 0 0 0):=by
  rw [h1];show (⟨some ⟨((Ms 0 1 (cL 1 3) (fun _=>none) 0).ownG J0 167772160 16 true).2.1,100000000,((Ms 0 1 (cL 1 3) (fun _=>none) 0).ownG J0 167772160 16 true).2.2⟩,cL 1 3,zDisk 128⟩:SvG)=_;rw [f];rfl
 rw [e0] at h;have s0:setg st 0 (upS 1 J' (cL 1 3) 100000000 (Mo1 (pz 0) 0 1 (cL 1 3) 0 0 0 0)) 0=upS 1 J' (cL 1 3) 100000000 (Mo1 (pz 0) 0 1 (cL 1 3) 0 0 0 0):=ak8 _ _ _;have s1:setg st 0 (upS 1 J' (cL 1 3) 100000000 (Mo1 (pz 0) 0 1 (cL 1 3) 0 0 0 0)) 1=upS 2 J1 (cL 0 3) 100000000 (Ms 0 2 (cL 0 3) fN 0):=by rw [aj4 (by decide)]; exact h2
 have cl:∀ a k,0<=cL a 3 k/\cL a 3 k<=1000:=fun a k=>by unfold cL; split<;>omega
 refine ⟨_,rfl,_,_,⟨h3,⟨fun i hi=>?_,fun i hi x hx=>?_,fun g hg=>(by cases hg)⟩,⟨J',?_,fun _=>c⟩,?_⟩,h⟩
 ·have:i=0\/i=1:=G
  rcases this with rfl|rfl
  ·rw [s0]; exact cl 1
  ·rw [s1]; exact cl 0
 ·have:i=0\/i=1:=G
  rcases this with rfl|rfl
  ·rw [s0] at hx
   cases hx;exact ⟨mo_good,by show (0:Int)+_<1000000; omega,by show 1100*(256*(16 - 0))<=100000000; omega⟩
  ·rw [s1] at hx
   cases hx;exact ⟨ms_good,by show (0:Int)+_<1000000; omega,by show 1100*(256*(16 - 0))<=100000000; omega⟩
 ·rw [s0]; exact ⟨_,rfl⟩
 ·rw [s1]
  exact ⟨_,rfl,⟨fun q=>rfl,fun a n id h=>(by cases h),fun a n fr h=>(by cases h)⟩⟩
theorem BoG.fits {O:Nat->Prop} {n:Nat} {st:Nat->SvG} {os:List Dg} (h:BoG O w0 w N n st os) {i:Nat} (hi:i<n) {x:RvG} (hx:(st i).r=some x):x.M.Fits:=by
 obtain ⟨MB,ms,v,xs,hW,hst,-⟩:=h.ex;obtain ⟨R,M,hm,hu⟩:=MaG.sv_some (hst i hi) hx;have hk:=hW.nt.mas.ok i hi;rw [hm] at hk;have hf:=(hk.some rfl).fits;rw [<- hu];exact ⟨hf.id,hf.f,hf.c,hf.now,hf.seq,hf.since⟩
theorem ww_round (h:Ww w0 w N (Wr k)) (hk:k<15):Q 23 #[K N] w fun e w'=>e= .returned (.tuple #[])/\Ww w0 w' N (Wr (k+1)):=by
 obtain ⟨st,os,⟨h1,h2,⟨J,h3,h4⟩,h5⟩,h⟩:=h;subst h1;have e1:8*(16 - k)=8*(16 - (k+1))+8:=G
 have e2:256*(16 - k)=256*(16 - (k+1))+256:=G
 have hI:=h2;rw [e1,e2] at hI;refine (dv3 h hI).mono ?_;rintro e w' ⟨rfl,h'⟩;obtain ⟨J',ht⟩:=moT_step k G h4;have hc:(moT k).c=cL 1 3:=by unfold moT; split<;>rfl
 have hs:1+k / 12<=8:=G
 obtain ⟨r1,r2⟩:=round_two (p:=pz 0) (L:=[upZ (1+k / 12)]) h3 h5 (by rw [ht,hc]) sn (fun u hu=>by rw [List.mem_singleton.1 hu]; rfl) (fun u hu=>by rw [List.mem_singleton.1 hu]; exact upZ_fits hs) (moT_owns _) (fun x hx=>⟨h.fits G hx,by have:=(h2.run 1 G x hx).2.1; omega⟩);exact ⟨rfl,_,_,⟨rfl,di6 hI sn G,⟨J',r1,fun e=>by omega⟩,r2⟩,h'⟩
structure Askl (w:World) (N l:Nat):Prop where
 ex:∃ R:Nat,(∀ w',Below w.heap.size w w'->Q 12 #[K N,I 0] w' (Rw w' (K R)))/\
  (∀ w',Below w.heap.size w w'->Q 24 #[K R] w' (Rr0 w' (K R)))/\
  ∀ w',Below w.heap.size w w'->Q 25 #[K R] w' fun e w2=>e= .returned (U l)/\w'=w2
theorem bo_asks {O:Nat->Prop} {n l:Nat} {st:Nat->SvG} {os:List Dg} (h:BoG O w0 w N n st os) (h0:0<n) {J:Jm} {M:Mr} (hr:Runs (st 0) J M) (hl:M.sm.lease=l):Askl w N l:=by
 obtain ⟨sp,hr⟩:=hr;obtain ⟨MB,ms,v,xs,hW,hst,-⟩:=h.ex;obtain ⟨R,M',hm,hu⟩:=MaG.sv_some (hst 0 h0) hr;have hk:=hW.nt.mas.ok 0 h0;rw [hm] at hk;have hz:=hk.some rfl;have hl':M'.sm.lease=l:=by
  have e:M'.un.sm.lease=M.sm.lease:=by rw [hu]
  exact e.trans hl
 refine ⟨R,fun w' hb=>?_,fun w' hb=>?_,fun w' hb=>?_⟩
 ·have H:=bd0 (hW.nt.held hb) h0
  unfold MaG.rv at H;rw [hm] at H;exact H
 ·obtain ⟨o,fl,tb,j,N0,n0,hR⟩:=(hz.held hb).rr
  exact ac4 hR
 ·obtain ⟨o,fl,tb,j,N0,n0,hR⟩:=(hz.held hb).rr
  obtain ⟨cn,cm,hnm,hS⟩:=hR.nt;have:=an8 hS;rw [hl'] at this;exact this
theorem ww_asks1 (h:Ww w0 w N (Wr k)):Askl w N (if k=0 then 0 else 8):=by
 obtain ⟨st,os,⟨h1,h2,⟨J,h3,h4⟩,h5⟩,h⟩:=h;refine bo_asks h G h3 ?_;unfold moT;split<;>rfl
theorem ww_asks2 (h:Ww w0 w N (Wt A k)):Askl w N (if A=0 then 0 else 8):=by
 obtain ⟨st,os,⟨h1,⟨J,h3,h4⟩⟩,h⟩:=h;refine bo_asks h G h3 ?_;unfold wM;split
 ·rfl
 ·unfold moT
  rw [if_neg G];rfl
theorem ww_fail (h:Ww w0 w N (Wt A k)):Q 26 #[K N,I 0,I 0] w fun e w'=>e= .returned (I 0)/\Ww w0 w' N (Wu A k):=by
 obtain ⟨st,os,⟨h1,⟨J,⟨sp,h3⟩,h4⟩⟩,h⟩:=h;refine (ea9 h (i:=0) G (a:=0) G).mono ?_;rintro e w' ⟨rfl,h⟩;refine ⟨rfl,_,_,⟨h1,J.fail 0,⟨sp,?_⟩,fun e=>⟨h4 e,rfl⟩⟩,h⟩;rw [ak8];unfold SvG.fail;rw [h3]
theorem ww_tick (h:Ww w0 w N (Wu A k)) (hk:k<16) (hA:A<16):Q 27 #[K N,I 0] w fun e w'=>∃ z,e= .returned (I z)/\Ww w0 w' N (Wi A (k+1) (if A=0 then 0 else 1)):=by
 obtain ⟨st,os,⟨h1,⟨J,⟨sp,h3⟩,h4⟩⟩,h⟩:=h;subst h1;refine (dv2 h (i:=0) G (fun x hx=>?_)).mono ?_
 ·rw [h3] at hx
  cases hx;show (wM A k).Good/\(wM A k).now<1000000;unfold wM moT
  (repeat' split)
  ·exact ⟨mo_good,by show (k:Int)<1000000; omega⟩
  ·exact ⟨mo_good,by show (0:Int)<1000000; omega⟩
  ·exact ⟨mo_good,by show ((A+k:Nat):Int)<1000000; omega⟩
 ·rintro e w' ⟨rfl,h⟩
  by_cases hA0:A=0
  ·have ht:(wM A k).tickG J=([],{ J with D:={ J.D with well:=-1 } },wM A (k+1)):=by
    unfold wM;rw [if_pos hA0,if_pos hA0];have:=mo_tick (p:=pz 0) (d:=0) (id:=1) (c:=cL 1 3) (now:=(k:Int)) pz0_ok (mo_withheld (now:=(k:Int)+1) (h4 hA0).1 (h4 hA0).2);rw [if_pos rfl,cb4,ce3] at this;exact this
   have t0:(st 0).tick=(0,⟨some ⟨{ J with D:={ J.D with well:=-1 } },sp,wM A (k+1)⟩,(st 0).c,(st 0).z⟩,[]):=by unfold SvG.tick; rw [h3]; simp only [ht]
   rw [t0] at h;exact ⟨_,rfl,_,_,⟨by rw [if_pos hA0]; simp [sendAll],fun d hd=>(by cases hd),⟨{ J with D:={ J.D with well:=-1 } },⟨sp,by rw [ak8]⟩,fun e=>(h4 e).1⟩⟩,h⟩
  ·obtain ⟨J',ht0⟩:=moT_step (A+k) G (J:=J) (fun e=>absurd e G)
   have ht:(wM A k).tickG J=(sends (cL 1 3) (T.Tm.encode [upZ (1+(A+k) / 12)]) 8,J',wM A (k+1)):=by
    unfold wM;rw [if_neg hA0,if_neg hA0];exact ht0
   have t0:(st 0).tick=(0,⟨some ⟨J',sp,wM A (k+1)⟩,(st 0).c,(st 0).z⟩,sends (cL 1 3) (T.Tm.encode [upZ (1+(A+k) / 12)]) 8):=by unfold SvG.tick; rw [h3]; simp only [ht]
   obtain ⟨b,eb,hb⟩:=sent_one (s:=1+(A+k) / 12) G G;rw [t0] at h;simp only [eb] at h;exact ⟨_,rfl,_,_,⟨by rw [if_neg hA0]; rfl,fun d hd=>by rw [List.mem_singleton.1 hd]; exact hb,⟨_,⟨sp,by rw [ak8]⟩,fun e=>absurd e hA0⟩⟩,h⟩
theorem ww_waits (h:Ww w0 w N (Wi A k g)):Q 9 #[K N] w (Rw w (I g)):=by
 obtain ⟨st,os,h1,h⟩:=h;have:=dh4 h;rw [h1.len] at this;exact this
structure Rd (w:World) (A:Option Addr) (n cap:Nat):Prop where
 rd:∃ bs s,T.Sl w A n cap bs/\T.Tm.decode bs=some [upZ s]/\1<=s/\s<=8
theorem Rd.held {A:Option Addr} {n cap:Nat} (h:Rd w A n cap) (hb:Below w.heap.size w w'):Rd w' A n cap:=by
 obtain ⟨bs,s,h1,h2⟩:=h.rd;exact ⟨bs,s,h1.held hb,h2⟩
theorem Rd.ex {A:Option Addr} {n cap:Nat} (h:Rd w A n cap):∃ a len s m:Int,Q 13 #[.slice A n cap] w fun e w'=>∃ q c,e= .returned (.tuple #[Lt q 1 c,O true])/\Bw w w'/\w'.cell? (Y q 0)=some (U a)/\w'.cell? (Y q 1)=some (I len)/\w'.cell? (Y q 2)=some (U 1)/\w'.cell? (Y q 3)=some (U s)/\w'.cell? (Y q 4)=some (V m)/\1<=s/\s<=8:=by
 obtain ⟨bs,s,h1,h2,h3,h4⟩:=h.rd;refine ⟨(pz 0).a,(pz 0).n,s,0,(T.decode_any h1 h2).mono ?_⟩;rintro e w' ⟨hb,⟨e1,-⟩|⟨us,v,e1,rfl,hL⟩⟩
 ·cases e1
 ·cases e1
  have hO:Ol 71 T.ucl 5 w.heap.size v [upZ s] w':=hL.1;obtain ⟨q,c,rfl,-,-,hc⟩:=hO.at_ (cl:=T.ucl) (k:=5) (fun _=>rfl) (i:=0) sn;exact ⟨q,c,rfl,hb,hc 0 G,hc 1 G,hc 2 G,hc 3 G,hc 4 G,G,G⟩
theorem ww_packet (h:Ww w0 w N (Wi A k (g+1))):Q 15 #[K N,I 0] w fun e w'=>∃ (x y:Int) (gp m cap:Nat),e= .returned (.tuple #[.agg #[I x,I y,Lt gp m cap],O true])/\Bw w w'/\Rd w' (some (Y gp 0)) m cap:=by
 obtain ⟨st,os,h1,h⟩:=h;obtain ⟨MB,ms,v,xs,hW,-⟩:=h.ex;have h0:0<os.length:=by rw [h1.len]; omega
 obtain ⟨⟨fr,i,bs⟩,ho⟩:∃ d,os[0]=d:=⟨_,rfl⟩;obtain ⟨b1,b2,s,b3,b4,b5⟩:=h1.all os[0] (List.getElem_mem h0);rw [ho] at b1 b2 b3;refine (ng_packet hW h0 ho b1 b2).mono ?_;rintro e w' ⟨gp,cap,rfl,hO,hb⟩;exact ⟨_,_,gp,_,cap,rfl,hb,bs,s,⟨hO.bytes b1 b2,by obtain ⟨cur,q1,q2,q3,q4,q5⟩:=hO; exact q3,fun _=>⟨_,_,rfl⟩⟩,b3,b4,b5⟩
theorem ww_lose (h:Ww w0 w N (Wi A k (g+1))):Q 17 #[K N,I 0] w fun e w'=>e= .returned (I 0)/\Ww w0 w' N (Wi A k g):=by
 obtain ⟨st,os,h1,h⟩:=h;have h0:0<os.length:=by rw [h1.len]; omega
 refine (ea7 h h0).mono ?_;rintro e w' ⟨rfl,h⟩;exact ⟨rfl,_,_,⟨by rw [List.length_eraseIdx,if_pos h0,h1.len]; rfl,fun d hd=>h1.all d (List.mem_of_mem_eraseIdx hd),h1.m0⟩,h⟩
end
end
end Go.Proofs.YtafkfnodcemefaaGreat
