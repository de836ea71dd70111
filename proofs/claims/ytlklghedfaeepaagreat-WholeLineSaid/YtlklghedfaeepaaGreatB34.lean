import Derived.Test.YtlklghedfaeepaaGreatB33
import Derived.Test.YtlklghedfaeepaaGreatB24
set_option maxHeartbeats 8000000
set_option maxRecDepth 100000
namespace Go.Proofs.YtlklghedfaeepaaGreat
open _root_.Go.Proofs.Tryz (prog)
section
open Go.RowKit Go.Maps Rm Fm Sb
def way1 (p:Pk) (r:Rt):Ways:=putR (fun _=>none) ⟨p.a,p.n,r.fr⟩ r
section
variable {p:Pk} {d id fr k s m:Nat} {c:Nat->Int} {now e:Int}
theorem ab7 (p:Pk) (r:Rt) (z:Rk):way1 p r z=if z=⟨p.a,p.n,r.fr⟩ then some r else none:=rfl
theorem be2 {r:Rt} {t:Int} (h:t<r.exp):lessF (way1 p r) (deadAt (way1 p r) t)=way1 p r:=by
 funext z;unfold lessF deadAt;rw [ab7];by_cases hz:z=⟨p.a,p.n,r.fr⟩
 ·rw [if_pos hz]
  rw [if_neg];simp;omega
 ·rw [if_neg hz]
  simp
theorem ao9 {r:Rt} (h:now+1<r.exp) {M2:Mr} (ht:Ticks (Ms d id c (way1 p r) now) M2):M2=Ms d id c (way1 p r) (now+1):=by
 rcases ht with ⟨⟨q,-,hq⟩,-⟩|⟨-,rfl⟩
 ·cases hq
 ·unfold Mr.aged Ms
  simp only [be2 h]
theorem be0 {r:Rt} (hp:p.ok) (hr:0<=r.fr/\r.fr<=8) {rs:List En} (h:Subj (Ms d id c (way1 p r) now) rs):rs=[⟨p.a,p.n,false⟩]:=by
 refine h.way (a:=p.a) (len:=p.n) (fun q ha=>?_) (fun q=>⟨fun hw=>?_,fun hq=>?_⟩)
 ·rcases ha with ⟨_,h⟩|⟨_,_,h⟩
  ·cases h
  ·cases h
 ·obtain ⟨f,-,hf⟩:=hw
  have hf':(way1 p r ⟨q.a,q.n,f⟩).isSome=true:=hf;rw [ab7] at hf';by_cases hz:(⟨q.a,q.n,f⟩:Rk)=⟨p.a,p.n,r.fr⟩
  ·injection hz with h1 h2 h3
   cases q;simp only at h1 h2;rw [h1,h2]
  ·rw [if_neg hz] at hf'
   cases hf'
 ·subst hq
  refine ⟨r.fr,⟨hp.1,hp.2,by show (-9223372036854775808:Int)<=r.fr; omega,by show r.fr<=9223372036854775807; omega⟩,?_⟩;show (way1 p r ⟨p.a,p.n,r.fr⟩).isSome=true;rw [ab7,if_pos rfl];rfl
theorem co8 {r:Rt}:Few (Ms d id c (way1 p r) now) 0 1:=⟨[],[],[⟨p.a,p.n,r.fr⟩],by simp,by simp,(fun q h=>by simp [Ms,sm0] at h),(fun q h=>by simp [Ms,sm0] at h),(fun q h=>by
 have h':(way1 p r q).isSome=true:=h;rw [ab7] at h';by_cases hz:q=⟨p.a,p.n,r.fr⟩
 ·rw [hz]; simp
 ·rw [if_neg hz] at h'; cases h')⟩
theorem cb5 {r:Rt} (hp:Am.right p.a p.n=true) (h0:r.id≠0) (hs:r.seq<=1073741824):(Ms d id c (way1 p r) now).Good:=fun q r' h=>by
 have h':way1 p r q=some r':=h;rw [ab7] at h';by_cases hz:q=⟨p.a,p.n,r.fr⟩
 ·rw [if_pos hz] at h'
  injection h' with h';subst h' hz;exact ⟨rfl,hp,h0,hs⟩
 ·rw [if_neg hz] at h'; cases h'
theorem be1 {z:Int} (hk:fr<8) (hc:c fr=z) (h1:1<=z) (h2:z<=1000) (hm:m<=8000):(Ms d id c (way1 p ⟨fr,k,s,m,e⟩) now).pick p.a p.n=some ⟨fr,k,s,m,e⟩/\far (m:Int) (cAt c (fr:Int))=(m:Int)+z:=by
 have hcA:cAt c (fr:Int)=z:=by
  unfold cAt;rw [if_neg (by omega)];simpa using hc
 have hfar:far (m:Int) z=(m:Int)+z:=by
  unfold far clampCost
  (repeat' split)<;>omega
 refine ⟨?_,by rw [hcA,hfar]⟩;have hr:(Ms d id c (way1 p ⟨fr,k,s,m,e⟩) now).reachF p.a p.n fr=some (⟨fr,k,s,m,e⟩,(m:Int)+z):=by
  unfold Mr.reachF;rw [show (Ms d id c (way1 p ⟨fr,k,s,m,e⟩) now).f ⟨p.a,p.n,fr⟩=some ⟨fr,k,s,m,e⟩ from by show way1 p _ _=_; rw [ab7,if_pos rfl]];simp only;rw [show (Ms d id c (way1 p ⟨fr,k,s,m,e⟩) now).c=c from rfl,hcA,hfar,if_neg];rintro (e|e|e)
  ·omega
  ·refine e ?_
   show fea none s m=true;unfold fea bet;simp
  ·omega
 exact ba9 (by omega) (fun q hq=>by
  show way1 p _ _=_;rw [ab7,if_neg];intro hz;injection hz with h1 h2 h3;have h4:(q:Int)=(fr:Int):=h3;omega) hr
theorem cb3 {z:Int} {t:Nat} (hk:fr<8) (hc:c fr=z) (h1:1<=z) (h2:z<=1000) (hm:m<=8000) (ht:(m:Int)+z=(t:Int)):
  (Ms d id c (way1 p ⟨fr,k,s,m,e⟩) now).tellS [⟨p.a,p.n,false⟩]=([⟨p.a,p.n,k,s,t⟩],(Ms d id c (way1 p ⟨fr,k,s,m,e⟩) now).covered p.a p.n k s t):=by
 obtain ⟨hp,hf⟩:=be1 (p:=p) (d:=d) (id:=id) (now:=now) (k:=k) (s:=s) (e:=e) hk hc h1 h2 hm;have hw:(Ms d id c (way1 p ⟨fr,k,s,m,e⟩) now).owns ⟨p.a,p.n⟩=false:=rfl;have h:=Mr.tell1_way (e:=⟨p.a,p.n,false⟩) hw hp;have hn:(Ms d id c (way1 p ⟨fr,k,s,m,e⟩) now).farN ⟨fr,k,s,m,e⟩=t:=by
  unfold Mr.farN;show (far (m:Int) (cAt c (fr:Int))).toNat=t;rw [hf,ht];rfl
 rw [hn] at h;simp only [Mr.tellS,h,List.append_nil]
theorem cb4:(Ms d id c (way1 p ⟨fr,k,s,m,e⟩) now).needS [⟨p.a,p.n,false⟩]<=1:=by
 simpa using Mr.needS_le [⟨p.a,p.n,false⟩] (Ms d id c (way1 p ⟨fr,k,s,m,e⟩) now)
def Mf (d id:Nat) (c:Nat->Int) (p:Pk) (k s t:Nat) (f:Ways) (now:Int):Mr:=⟨id,⟨0,fun _=>none,fun q=>if q=⟨p.a,p.n,k⟩ then some (s,t) else none⟩,f,c,now,0,0,d⟩
theorem be3 {f:Ways} {t:Nat} (ht:t<65535):(Ms d id c f now).covered p.a p.n k s t=Mf d id c p k s t f now:=by
 have h:cov ((Ms d id c f now).sm.floor ⟨p.a,p.n,k⟩) s t=false:=by
  show cov none s t=false;unfold cov bet;simp;omega
 unfold Mr.covered;rw [h,if_neg (by decide)];rfl
end
section
variable {O:Nat->Prop} {w0 w w':World} {N n:Nat} {st:Nat->Sv} {os:List Dg}
theorem aq9 (h:Bo O w0 w N n st os) {i:Nat} (hi:i<n) {d d' id room sp:Nat} {c:Nat->Int} {now:Int} {cc:Nat->Int} {z:Dz} (hs:st i=⟨d,some ⟨room+1,sp,Ms d' id c (fun _=>none) now⟩,cc,z⟩) (hnow:now<1000000):
  Calls prog 19 #[.pointer (some ⟨N,0,none⟩),.int .i64 i] w fun e w'=>e= .returned (.int .i64 0)/\Bo O w0 w' N n (sets st i ⟨d,some ⟨room,sp,Ms d' id c (fun _=>none) (now+1)⟩,cc,z⟩) os:=by
 have hs':st i=⟨d,some ⟨room+0+1,sp,Ms d' id c (fun _=>none) now⟩,cc,z⟩:=hs;refine (bd7 h hi hs' Ms.good hnow (by show 0<=1073741824; omega) (p:=0) (r:=0) (fun M2 h2=>by rw [Ms.ticks h2]; exact Ms.few) (by omega) (Mr.advN_le1 _) (fun M2 rs h2 h3=>by
  rw [Ms.ticks h2] at h3;rw [Ms.subj h3];exact Nat.le_refl _)).mono ?_
 rintro e w' ⟨rfl,M2,rs,h2,h3,hB⟩;have e1:=Ms.ticks h2;subst e1;have e2:=Ms.subj h3;subst e2;refine ⟨rfl,?_⟩;have e3:sendAll i os (sends (Ms d' id c (fun _=>none) now).c (T.Tm.encode ((Ms d' id c (fun _=>none) (now+1)).tellS []).1) 8)=os:=by
  show sendAll i os (sends _ (T.Tm.encode []) 8)=os;rw [bz2,cd5];rfl
 rw [e3] at hB;exact hB
theorem al7 (h:Bo O w0 w N n st os) {i:Nat} (hi:i<n) {d d' id room sp m:Nat} {p:Pk} {c:Nat->Int} {now:Int} {seq:Nat} {since:Int} {lease s':Nat} {t':Int} {l':Nat} {cc:Nat->Int} {z:Dz}
  (hs:st i=⟨d,some ⟨room+m,sp,Mo1 p d' id c now seq since lease⟩,cc,z⟩) (hp:p.ok) (hnow:now<1000000) (hl:lease<=1073741824)
  (hadv:(Mo1 p d' id c (now+1) seq since lease).advance=Mo1 p d' id c (now+1) s' t' l') (hs0:s'≠0) (hm:(Mo1 p d' id c (now+1) seq since lease).advN<=m):
  Calls prog 19 #[.pointer (some ⟨N,0,none⟩),.int .i64 i] w fun e w'=>e= .returned (.int .i64 0)/\Bo O w0 w' N n (sets st i ⟨d,some ⟨room,sp,Mo1 p d' id c (now+1) s' t' l'⟩,cc,z⟩) (sendAll i os (sends c (T.Tm.encode [⟨p.a,p.n,id,s',0⟩]) 8)):=by
 have hT:∀ M2,Ticks (Mo1 p d' id c now seq since lease) M2->M2=Mo1 p d' id c (now+1) s' t' l':=fun M2 h=>by
  rcases h with ⟨-,rfl⟩|⟨h,-⟩
  ·rw [Mo1.aged,hadv]
  ·rw [Mo1.aged] at h
   exact absurd (Mo1.any hp) h
 have hs':st i=⟨d,some ⟨room+0+m,sp,Mo1 p d' id c now seq since lease⟩,cc,z⟩:=hs;refine (bd7 h hi hs' Mo1.good hnow hl (p:=1) (r:=0) (fun M2 h2=>by rw [hT M2 h2]; exact Mo1.few) (by omega) (by rw [Mo1.aged]; exact hm) (fun M2 rs h2 h3=>by
  rw [hT M2 h2] at h3 ⊢;rw [Mo1.subj hp h3,Mo1.need];exact Nat.le_refl _)).mono ?_
 rintro e w' ⟨rfl,M2,rs,h2,h3,hB⟩;have e1:=hT M2 h2;subst e1;have e2:=Mo1.subj hp h3;subst e2;rw [Mo1.tell hs0] at hB;exact ⟨rfl,hB⟩
theorem aw9 (h:Bo O w0 w N n st os) {i:Nat} (hi:i<n) {d d' id room sp:Nat} {c:Nat->Int} {now:Int} {cc:Nat->Int} {z:Dz} (hs:st i=⟨d,some ⟨room+1,sp,Ms d' id c (fun _=>none) now⟩,cc,z⟩) {k:Nat} (hk:k<=7):
  Calls prog 10 #[.pointer (some ⟨N,0,none⟩),.int .i64 i,.agg #[.int .u32 ((167772160+k*65536:Nat):Int),.int .i64 16],.bool true] w fun e w'=>e= .returned (.int .i64 0)/\
   Bo O w0 w' N n (sets st i ⟨d,some ⟨room,sp,Mo1 (pz k) d' id c now 0 0 0⟩,cc,z⟩) os:=by
 have:=bo_own h hi hs (ad3 hk) (ab2 hk) (pz_rt hk) rfl (fun xs _ hx=>by
  rcases xs with _|⟨x,r⟩
  ·simp
  ·have:=((hx x).1 (List.mem_cons_self)).2
   simp [Ms,sm0] at this)
 refine this.mono fun e w' ⟨he,hb⟩=>⟨he,?_⟩
 rw [<- own_ms (pz k) d' id c now];exact hb
theorem bo3 (h:Bo O w0 w N n st os) {i:Nat} (hi:i<n) {d d' id room sp fr k s m t:Nat} {p:Pk} {c:Nat->Int} {now ex x:Int} {cc:Nat->Int} {z:Dz}
  (hs:st i=⟨d,some ⟨room+2,sp,Ms d' id c (way1 p ⟨fr,k,s,m,ex⟩) now⟩,cc,z⟩) (hp:p.ok) (hpr:Am.right p.a p.n=true) (hnow:now<1000000) (hex:now+1<ex) (hk:fr<8) (hc:c fr=x) (h1:1<=x) (h2:x<=1000) (hm:m<=8000) (ht:(m:Int)+x=(t:Int)) (hk0:k≠0) (hsq:s<=1073741824):
  Calls prog 19 #[.pointer (some ⟨N,0,none⟩),.int .i64 i] w fun e w'=>e= .returned (.int .i64 0)/\Bo O w0 w' N n (sets st i ⟨d,some ⟨room,sp,Mf d' id c p k s t (way1 p ⟨fr,k,s,m,ex⟩) (now+1)⟩,cc,z⟩) (sendAll i os (sends c (T.Tm.encode [⟨p.a,p.n,k,s,t⟩]) 8)):=by
 have hs':st i=⟨d,some ⟨room+1+1,sp,Ms d' id c (way1 p ⟨fr,k,s,m,ex⟩) now⟩,cc,z⟩:=hs;refine (bd7 h hi hs' (cb5 hpr hk0 hsq) hnow (by show 0<=1073741824; omega) (p:=0) (r:=1) (fun M2 h2=>by rw [ao9 hex h2]; exact co8) (by omega) (Mr.advN_le1 _) (fun M2 rs h2 h3=>by
  rw [ao9 hex h2] at h3 ⊢;rw [be0 hp (by show 0<=(fr:Int)/\(fr:Int)<=8; omega) h3];exact cb4)).mono ?_
 rintro y w' ⟨rfl,M2,rs,h3,h4,hB⟩;have e1:=ao9 hex h3;subst e1;have e2:=be0 hp (by show 0<=(fr:Int)/\(fr:Int)<=8; omega) h4;subst e2;rw [cb3 hk hc h1 h2 hm ht,be3 (by omega)] at hB;exact ⟨rfl,hB⟩
end
def pgm (p:Pk) (k s m:Nat):List Nat:=T.Tm.page (T.Tm.parts ⟨p.a,p.n,k,s,m⟩ 0)
section
variable {p:Pk} {k s m:Nat}
theorem ao1 (hp:Am.right p.a p.n=true) (hi:k≠0) (hs:s<=1073741824) (hm:m<65535):T.Tm.right ⟨p.a,p.n,k,s,m⟩=true:=by
 unfold T.Tm.right;have h1:¬ m=65535:=by omega
 simp [hi,hs,hp,h1]
theorem bt5 (hp:p.ok) (hi:k<4294967296) (hs:s<=1073741824) (hm:m<65535):T.Tm.Up.Fits ⟨p.a,p.n,k,s,m⟩:=⟨hp.1,hp.2.1,hp.2.2,hi,by show s<4294967296; omega,by show m<65536; omega⟩
theorem ap8 (hp:Am.right p.a p.n=true) (hi:k≠0) (hs:s<=1073741824) (hm:m<65535):T.Tm.encode [⟨p.a,p.n,k,s,m⟩]=[pgm p k s m]:=bz1 (ao1 hp hi hs hm)
theorem db3 (hp:Am.right p.a p.n=true) (hk:p.ok) (hi:k≠0) (hi2:k<4294967296) (hs:s<=1073741824) (hm:m<65535):T.Tm.decode (pgm p k s m)=some [⟨p.a,p.n,k,s,m⟩]:=decode_one (ao1 hp hi hs hm) (bt5 hk hi2 hs hm)
theorem cq8 (hp:Am.right p.a p.n=true) (hi:k≠0) (hs:s<=1073741824) (hm:m<65535):4<(pgm p k s m).length/\(pgm p k s m).length<=1024/\∀ c∈pgm p k s m,c<256:=by
 have h:=T.Tm.encode_fine [⟨p.a,p.n,k,s,m⟩] (pgm p k s m) (by rw [ap8 hp hi hs hm]; simp);exact ⟨h.1,h.2.1,h.2.2.1⟩
end
section
variable {O:Nat->Prop} {w0 w:World} {N n:Nat} {st:Nat->Sv} {os:List Dg}
theorem ac3 (h:Bo O w0 w N n st os) {j:Nat} (hj:j<os.length) {fr i:Nat} {p:Pk} {k s m:Nat} (ho:os[j]=(fr,i,pgm p k s m)) (hi:i<n) {d room sp:Nat} {M:Mr} {c:Nat->Int} {z:Dz} (hs:st i=⟨d,some ⟨room,sp+1000,M⟩,c,z⟩)
  (hp:Am.right p.a p.n=true) (hpk:p.ok) (hid:k≠0) (hid2:k<4294967296) (hse:s<=1073741824) (hm:m<65535) (hc:cAt M.c fr≠0):
  Calls prog 32 #[.pointer (some ⟨N,0,none⟩),.int .i64 j,.int .i64 1024] w fun e w'=>e= .returned (.int .i64 0)/\Bo O w0 w' N n (sets st i ⟨d,some ⟨room,sp,M.hear fr p.a p.n k s m⟩,c,z⟩) (os.eraseIdx j):=by
 have hf:=cq8 hp hid hse hm;have hd:=db3 hp hpk hid hid2 hse hm;have hD:=az1 h hj ho hi hs (most:=1024) (m:=(pgm p k s m).length) (by omega) hf.2.2 (by omega) (fun us e=>by
  rw [List.take_length,hd] at e
  cases e;simp)
 rw [List.take_length] at hD;have e:M.receive (fr:Int) (pgm p k s m)=M.hear fr p.a p.n k s m:=by
  unfold Mr.receive;rw [if_neg hc,hd];rfl
 rw [e] at hD;exact hD
end
def three (a b c:Sv):Nat->Sv:=fun i=>if i=0 then a else if i=1 then b else c
theorem Bo.three {O:Nat->Prop} {w0 w:World} {N:Nat} {st:Nat->Sv} {os:List Dg} (h:Bo O w0 w N 3 st os) {a b c:Sv} (ha:st 0=a) (hb:st 1=b) (hc:st 2=c):Bo O w0 w N 3 (three a b c) os:=
 h.same fun i hi=>by
  have:i=0\/i=1\/i=2:=by omega
  rcases this with rfl|rfl|rfl
  ·exact ha
  ·exact hb
  ·exact hc
def c102:Nat->Int:=fun i=>if i=2 then 5 else cL 0 4 i
theorem cd7 (b:List Nat):sends c102 [b] 8=[(0,b),(2,b)]:=by
 simp [sends,c102,cL,List.range_succ]
def z63 (i:Nat):Dz:=⟨i+1,63,sm0⟩
def al0 (d:Nat->Nat) (room sp:Nat) (f:Ways) (now:Int):Sv:=svS (d 0) 1 room sp (cL 1 4) f now (z63 0)
def al1 (d:Nat->Nat) (room sp:Nat) (f:Ways) (now:Int):Sv:=svS (d 1) 2 room sp c102 f now (z63 1)
def al2 (d:Nat->Nat) (room sp:Nat) (now:Int) (seq:Nat) (since:Int) (lease:Nat):Sv:=svO (pz 2) (d 2) 3 room sp (cL 1 5) now seq since lease (z63 2)
def fN:Ways:=fun _=>none
def al1P (d:Nat->Nat):Nat->(Nat->Sv)->List Dg->Prop
 |0,st,os=>st=three (al0 d 63 90000 fN 0) (al1 d 63 90000 fN 0) (al2 d 62 90000 0 0 0 0)/\os=[]
 |1,st,os=>st=three (al0 d 62 90000 fN 1) (al1 d 63 90000 fN 0) (al2 d 62 90000 0 0 0 0)/\os=[]
 |2,st,os=>st=three (al0 d 62 90000 fN 1) (al1 d 62 90000 fN 1) (al2 d 62 90000 0 0 0 0)/\os=[]
 |_,st,os=>st=three (al0 d 62 90000 fN 1) (al1 d 62 90000 fN 1) (al2 d 61 90000 1 1 1 8)/\os=[(2,1,pgm (pz 2) 3 1 0)]
def al1Q (d:Nat->Nat):Nat->(Nat->Sv)->List Dg->Prop
 |0,st,os=>st=three (al0 d 62 90000 fN 1) (al1 d 62 89000 (way1 (pz 2) ⟨2,3,1,0,4⟩) 1) (al2 d 61 90000 1 1 1 8)/\os=[]
 |1,st,os=>al1P d 3 st os
 |_,_,_=>False
section
variable {O:Nat->Prop} {w0 w:World} {N:Nat} {d:Nat->Nat}
theorem co2 (h:Bo O w0 w N 3 (three (al0 d 63 90000 fN 0) (al1 d 63 90000 fN 0) (al2 d 62 90000 0 0 0 0)) []):
  Calls prog 11 #[.pointer (some ⟨N,0,none⟩)] w fun e w'=>e= .returned (.tuple #[])/\
   Bo O w0 w' N 3 (three (al0 d 62 90000 fN 1) (al1 d 62 89000 (way1 (pz 2) ⟨2,3,1,0,4⟩) 1) (al2 d 61 90000 1 1 1 8)) []:=by
 refine (as6 (P:=al1P d) (Q:=al1Q d) h ⟨rfl,rfl⟩ (fun k st os wr hk hP hB=>?_) (fun st os hP=>?_) (fun j st os hQ=>?_) (fun j st os wr hQ hB=>?_)).mono ?_
 ·have:k=0\/k=1\/k=2:=by omega
  rcases this with rfl|rfl|rfl
  ·obtain ⟨rfl,rfl⟩:=hP
   refine (aq9 hB (i:=0) (by omega) (room:=62) rfl (by decide)).mono ?_;rintro e w' ⟨rfl,h2⟩;exact ⟨0,_,_,rfl,⟨rfl,rfl⟩,h2.three rfl rfl rfl⟩
  ·obtain ⟨rfl,rfl⟩:=hP
   refine (aq9 hB (i:=1) (by omega) (room:=62) rfl (by decide)).mono ?_;rintro e w' ⟨rfl,h2⟩;exact ⟨0,_,_,rfl,⟨rfl,rfl⟩,h2.three rfl rfl rfl⟩
  ·obtain ⟨rfl,rfl⟩:=hP
   refine (al7 hB (i:=2) (by omega) (room:=61) (m:=1) rfl (ad3 (by omega)) (by decide) (by omega) Mo1.first (by omega) (Mr.advN_le1 _)).mono ?_;rintro e w' ⟨rfl,h2⟩;rw [ap8 (ab2 (by omega)) (by omega) (by omega) (by omega),ak2 (by omega) (by decide)] at h2;exact ⟨0,_,_,rfl,⟨rfl,rfl⟩,h2.three rfl rfl rfl⟩
 ·obtain ⟨rfl,rfl⟩:=hP
  exact ⟨rfl,rfl⟩
 ·match j,hQ with
  |0,hQ=>rw [hQ.2]; rfl
  |1,hQ=>obtain ⟨-,rfl⟩:=hQ; rfl
 ·match j,hQ with
  |0,hQ=>
   obtain ⟨rfl,rfl⟩:=hQ;refine (ac3 hB (j:=0) (by simp) (fr:=2) (i:=1) rfl (by omega) (sp:=89000) rfl (ab2 (by omega)) (ad3 (by omega)) (by omega) (by omega) (by omega) (by omega) (by show cAt c102 2≠0; decide)).mono ?_;rintro e w' ⟨rfl,h3⟩;rw [show (Ms (d 1) 2 c102 fN 1).hear 2 (pz 2).a (pz 2).n 3 1 0=_ from dd5 (by omega)] at h3;exact ⟨0,_,_,rfl,⟨rfl,rfl⟩,h3.three rfl rfl rfl⟩
 ·rintro e w' ⟨rfl,st',os',⟨rfl,rfl⟩,h2⟩
  exact ⟨rfl,h2⟩
end
theorem ct8 {d id:Nat} {now':Int} {p:Pk} {k fr s m:Nat} {c:Nat->Int} {f:Ways} (hid:k≠id) (hm:m≠65535):
  ((Ms d id c f now').hear fr p.a p.n k s m)=Ms d id c (putR f ⟨p.a,p.n,fr⟩ ⟨fr,k,s,m,now'+3⟩) now':=by
 unfold Mr.hear;have ho:(Ms d id c f now').owns ⟨p.a,p.n⟩=false:=rfl;rw [if_neg (by rw [ho]; exact fun e=>e.elim (fun x=>Bool.noConfusion x) hid),if_neg hm];refine if_pos ?_;show fea none s m=true;unfold fea bet;simp
theorem dq3 {p:Pk} {d id:Nat} {c:Nat->Int} {now:Int} {seq:Nat} {since:Int} {lease fr k s m:Nat}:(Mo1 p d id c now seq since lease).hear fr p.a p.n k s m=Mo1 p d id c now seq since lease:=by
 unfold Mr.hear;exact if_pos (.inl Mo1.owns_ten)
def al1f (d:Nat->Nat) (room sp:Nat) (f:Ways) (now:Int):Sv:=⟨d 1,some ⟨room,sp,Mf (d 1) 2 c102 (pz 2) 3 1 5 f now⟩,c102,z63 1⟩
def w2 (e:Int):Ways:=way1 (pz 2) ⟨2,3,1,0,e⟩
def w0f:Ways:=way1 (pz 2) ⟨1,3,1,5,5⟩
theorem dg3 (d:Nat->Nat):(Mf (d 1) 2 c102 (pz 2) 3 1 5 (w2 4) 2).hear 2 (pz 2).a (pz 2).n 3 1 0=Mf (d 1) 2 c102 (pz 2) 3 1 5 (w2 5) 2:=by
 have e:putR (w2 4) ⟨(pz 2).a,(pz 2).n,2⟩ ⟨2,3,1,0,5⟩=w2 5:=by
  funext z;show (if z=_ then _ else way1 _ _ z)=way1 _ _ z;rw [ab7,ab7];by_cases h:z=⟨(pz 2).a,(pz 2).n,2⟩
  ·rw [if_pos h]; exact (if_pos h).symm
  ·rw [if_neg h]; exact (if_neg h).trans (if_neg h).symm
 unfold Mr.hear;have ho:(Mf (d 1) 2 c102 (pz 2) 3 1 5 (w2 4) 2).owns ⟨(pz 2).a,(pz 2).n⟩=false:=rfl;have hi:¬ 3=(Mf (d 1) 2 c102 (pz 2) 3 1 5 (w2 4) 2).id:=by show ¬ 3=2; decide
 rw [if_neg (by rw [ho]; exact fun e=>e.elim (fun x=>Bool.noConfusion x) hi),if_neg (by decide)];refine (if_pos ?_).trans ?_
 ·show fea (if (⟨(pz 2).a,(pz 2).n,3⟩:Ky)=⟨(pz 2).a,(pz 2).n,3⟩ then some (1,5) else none) 1 0=true
  rw [if_pos rfl];decide
 ·show (⟨2,_,putR (w2 4) ⟨(pz 2).a,(pz 2).n,2⟩ ⟨2,3,1,0,5⟩,_,_,_,_,_⟩:Mr)=_
  rw [e];rfl
def al2P (d:Nat->Nat):Nat->(Nat->Sv)->List Dg->Prop
 |0,st,os=>st=three (al0 d 62 90000 fN 1) (al1 d 62 89000 (w2 4) 1) (al2 d 61 90000 1 1 1 8)/\os=[]
 |1,st,os=>st=three (al0 d 61 90000 fN 2) (al1 d 62 89000 (w2 4) 1) (al2 d 61 90000 1 1 1 8)/\os=[]
 |2,st,os=>st=three (al0 d 61 90000 fN 2) (al1f d 60 89000 (w2 4) 2) (al2 d 61 90000 1 1 1 8)/\os=[(1,0,pgm (pz 2) 3 1 5),(1,2,pgm (pz 2) 3 1 5)]
 |_,st,os=>st=three (al0 d 61 90000 fN 2) (al1f d 60 89000 (w2 4) 2) (al2 d 61 90000 2 1 1 8)/\os=[(1,0,pgm (pz 2) 3 1 5),(1,2,pgm (pz 2) 3 1 5),(2,1,pgm (pz 2) 3 1 0)]
def al2Q (d:Nat->Nat):Nat->(Nat->Sv)->List Dg->Prop
 |0,st,os=>st=three (al0 d 61 89000 w0f 2) (al1f d 60 88000 (w2 5) 2) (al2 d 61 89000 2 1 1 8)/\os=[]
 |1,st,os=>st=three (al0 d 61 89000 w0f 2) (al1f d 60 89000 (w2 4) 2) (al2 d 61 89000 2 1 1 8)/\os=[(2,1,pgm (pz 2) 3 1 0)]
 |2,st,os=>st=three (al0 d 61 89000 w0f 2) (al1f d 60 89000 (w2 4) 2) (al2 d 61 90000 2 1 1 8)/\os=[(1,2,pgm (pz 2) 3 1 5),(2,1,pgm (pz 2) 3 1 0)]
 |3,st,os=>al2P d 3 st os
 |_,_,_=>False
section
variable {O:Nat->Prop} {w0 w:World} {N:Nat} {d:Nat->Nat}
theorem co1 (h:Bo O w0 w N 3 (three (al0 d 62 90000 fN 1) (al1 d 62 89000 (w2 4) 1) (al2 d 61 90000 1 1 1 8)) []):
  Calls prog 11 #[.pointer (some ⟨N,0,none⟩)] w fun e w'=>e= .returned (.tuple #[])/\
   Bo O w0 w' N 3 (three (al0 d 61 89000 w0f 2) (al1f d 60 88000 (w2 5) 2) (al2 d 61 89000 2 1 1 8)) []:=by
 refine (as6 (P:=al2P d) (Q:=al2Q d) h ⟨rfl,rfl⟩ (fun k st os wr hk hP hB=>?_) (fun st os hP=>?_) (fun j st os hQ=>?_) (fun j st os wr hQ hB=>?_)).mono ?_
 ·have:k=0\/k=1\/k=2:=by omega
  rcases this with rfl|rfl|rfl
  ·obtain ⟨rfl,rfl⟩:=hP
   refine (aq9 hB (i:=0) (by omega) (room:=61) rfl (by decide)).mono ?_;rintro e w' ⟨rfl,h2⟩;exact ⟨0,_,_,rfl,⟨rfl,rfl⟩,h2.three rfl rfl rfl⟩
  ·obtain ⟨rfl,rfl⟩:=hP
   refine (bo3 hB (i:=1) (by omega) (room:=60) (fr:=2) (k:=3) (s:=1) (m:=0) (t:=5) (ex:=4) (x:=5) (p:=pz 2) (now:=1) (c:=c102) (d':=d 1) (id:=2) (sp:=89000) rfl (ad3 (by omega)) (ab2 (by omega)) (by decide) (by decide) (by omega) rfl (by decide) (by decide) (by omega) rfl (by omega) (by omega)).mono ?_;rintro e w' ⟨rfl,h2⟩;rw [ap8 (ab2 (by omega)) (by omega) (by omega) (by omega),cd7] at h2;exact ⟨0,_,_,rfl,⟨rfl,rfl⟩,h2.three rfl rfl rfl⟩
  ·obtain ⟨rfl,rfl⟩:=hP
   refine (al7 hB (i:=2) (by omega) (room:=61) (m:=0) rfl (ad3 (by omega)) (by decide) (by omega) (Mo1.next_big ⟨by omega,by decide⟩) (by omega) (Nat.le_of_eq (Mo1.advN_zero ⟨by omega,by decide⟩))).mono ?_;rintro e w' ⟨rfl,h2⟩;rw [ap8 (ab2 (by omega)) (by omega) (by omega) (by omega),ak2 (by omega) (by decide)] at h2;exact ⟨0,_,_,rfl,⟨rfl,rfl⟩,h2.three rfl rfl rfl⟩
 ·obtain ⟨rfl,rfl⟩:=hP
  exact ⟨rfl,rfl⟩
 ·match j,hQ with
  |0,hQ=>rw [hQ.2]; rfl
  |1,hQ=>rw [hQ.2]; rfl
  |2,hQ=>rw [hQ.2]; rfl
  |3,hQ=>obtain ⟨-,rfl⟩:=hQ; rfl
 ·match j,hQ with
  |2,hQ=>
   obtain ⟨rfl,rfl⟩:=hQ;refine (ac3 hB (j:=0) (by simp) (fr:=1) (i:=0) rfl (by omega) (sp:=89000) rfl (ab2 (by omega)) (ad3 (by omega)) (by omega) (by omega) (by omega) (by omega) (by show cAt (cL 1 4) 1≠0; decide)).mono ?_;rintro e w' ⟨rfl,h3⟩;rw [show (Ms (d 0) 1 (cL 1 4) fN 2).hear 1 (pz 2).a (pz 2).n 3 1 5=_ from ct8 (by omega) (by omega)] at h3;exact ⟨0,_,_,rfl,⟨rfl,rfl⟩,h3.three rfl rfl rfl⟩
  |1,hQ=>
   obtain ⟨rfl,rfl⟩:=hQ;refine (ac3 hB (j:=0) (by simp) (fr:=1) (i:=2) rfl (by omega) (sp:=89000) rfl (ab2 (by omega)) (ad3 (by omega)) (by omega) (by omega) (by omega) (by omega) (by show cAt (cL 1 5) 1≠0; decide)).mono ?_;rintro e w' ⟨rfl,h3⟩;rw [show (Mo1 (pz 2) (d 2) 3 (cL 1 5) 2 1 1 8).hear 1 (pz 2).a (pz 2).n 3 1 5=_ from dq3] at h3;exact ⟨0,_,_,rfl,⟨rfl,rfl⟩,h3.three rfl rfl rfl⟩
  |0,hQ=>
   obtain ⟨rfl,rfl⟩:=hQ;refine (ac3 hB (j:=0) (by simp) (fr:=2) (i:=1) rfl (by omega) (sp:=88000) rfl (ab2 (by omega)) (ad3 (by omega)) (by omega) (by omega) (by omega) (by omega) (by show cAt c102 2≠0; decide)).mono ?_;rintro e w' ⟨rfl,h3⟩;rw [dg3] at h3;exact ⟨0,_,_,rfl,⟨rfl,rfl⟩,h3.three rfl rfl rfl⟩
 ·rintro e w' ⟨rfl,st',os',⟨rfl,rfl⟩,h2⟩
  exact ⟨rfl,h2⟩
end
end
section
open Go.RowKit Go.Maps Rm Fm Sb
attribute [local go_sem] Oper.semAt_some
def icl (z:Int):List Value:=[.int .i64 z]
theorem elemI:Elem prog 69 26 icl 1 8:=⟨by kernel_rfl,ae2 (z:= .int .i64 0) (by kernel_rfl) rfl,by omega,fun _=>rfl,fun x v hv=>by simp only [icl,List.mem_cons,List.not_mem_nil,or_false] at hv; rcases hv with rfl; rfl,by omega⟩
theorem Ol.blk {α:Type} {e:TypeId} {cl:α->List Value} {k B:Nat} {v:Value} {xs:List α} {W:World} (h:Ol e cl k B v xs W) {b:Nat} (hb:v.ownBlock=some b):∃ C,Blk e W b C:=by
 rcases h.2 with ⟨rfl,-⟩|⟨g,cap,cur,rfl,h4,h5,-⟩
 ·cases hb
 ·have:g=b:=by simpa [Value.ownBlock] using hb
  subst this;exact ⟨_,h5⟩
def Ov (w:World) (v:Value):Nat->Prop:=fun x=>w.heap.size<=x/\v.ownBlock≠some x
section
variable {w w2 w3 wr:World} {N nn:Nat} {st:Nat->Sv} {os:List Dg} {v:Value} {zs:List Int}
theorem Bo.here {O:Nat->Prop} (h:Bo O w2 w3 N nn st os):Bo O w3 w3 N nn st os:=h.beside (.refl [] _) (fun x hx=>by cases hx) (fun _ _ h=>h) h.tu.wide
theorem cm7 (hO:Ol 26 icl 1 w.heap.size v zs w3) (hB:Below w.heap.size w w3) (hN:Bo (Ov w v) w2 w3 N nn st os) (z:Int) (hbig:zs.length<=100000):
  ∃ g' cap' W',(Builtin.append_ #[69,69] 69 #[v,.slice (some ⟨w3.heap.size,0,none⟩) 1 1]).run prog (w3.alloc (.cells #[.int .i64 z] 26))= .ok (.slice (some ⟨g',0,none⟩) (zs.length+1) cap') W'/\
   Ol 26 icl 1 w.heap.size (.slice (some ⟨g',0,none⟩) (zs.length+1) cap') (zs++[z]) W'/\Bo (Ov w (.slice (some ⟨g',0,none⟩) (zs.length+1) cap')) W' W' N nn st os/\Below w.heap.size w W':=by
 obtain ⟨g',cap',W',hrun,h6,t,hat⟩:=hO.push1 elemI hB.size z (by omega) 69;have hb:(Value.slice (some ⟨g',0,none⟩) (zs.length+1) cap').ownBlock=some g':=rfl;have hg:=h6.lt hb;refine ⟨g',cap',W',hrun,h6,hN.beside t (fun x hx=>?_) (fun x hx ho=>⟨ho.1,fun e=>?_⟩) (fun x hx=>⟨Nat.le_trans hB.size (Nat.le_trans t.size hx),fun e=>?_⟩),own_below hO hB hB.size t⟩
 ·have hx':v.ownBlock=some x:=by simpa using hx
  obtain ⟨C,hC⟩:=hO.blk hx';exact ⟨fun ho=>ho.2 hx',_,C,by decide,hC⟩
 ·rw [hb] at e
  injection e with e;rcases hat with h|h
  ·exact ho.2 (by rw [h,e])
  ·omega
 ·rw [hb] at e
  injection e with e;omega
structure EvR (P:Nat->List Int->(Nat->Sv)->List Dg->Prop) (w:World) (N nn k:Nat) (v:Value) (wr:World):Prop where
 ex:∃ zs st os,P k zs st os/\zs.length=k/\Bo (Ov w v) wr wr N nn st os/\Ol 26 icl 1 w.heap.size v zs wr/\Below w.heap.size w wr
theorem EvR.below {P:Nat->List Int->(Nat->Sv)->List Dg->Prop} {k:Nat} (h:EvR P w N nn k v wr):Below w.heap.size w wr:=by
 obtain ⟨_,_,_,-,-,-,-,h⟩:=h.ex;exact h
theorem EvR.next {P:Nat->List Int->(Nat->Sv)->List Dg->Prop} {k:Nat} (h:EvR P w N nn k v wr) {ev:Value} {w1:World} (hb:Below wr.heap.size wr w1)
  (hs:∀ zs st os O wx,P k zs st os->Bo O wx wx N nn st os->Calls prog 85 #[.pointer (some ⟨N,0,none⟩),ev] wx fun x w'=>∃ z,x= .returned (.int .i64 z)/\∃ st' os',P (k+1) (zs++[z]) st' os'/\Bo O wx w' N nn st' os') (hk:k<=100000):
  Calls prog 85 #[.pointer (some ⟨N,0,none⟩),ev] w1 fun x w'=>∃ z,x= .returned (.int .i64 z)/\∃ g' cap' W',(Builtin.append_ #[69,69] 69 #[v,.slice (some ⟨w'.heap.size,0,none⟩) 1 1]).run prog (w'.alloc (.cells #[.int .i64 z] 26))= .ok (.slice (some ⟨g',0,none⟩) (k+1:Nat) cap') W'/\
   Hid (EvR P w N nn (k+1) (.slice (some ⟨g',0,none⟩) (k+1:Nat) cap') W'):=by
 obtain ⟨zs,st,os,hP,rfl,hN,hO,hB⟩:=h.ex;refine (hs zs st os _ w1 hP (hN.held hb).here).mono ?_;rintro x w' ⟨z,rfl,st',os',hP',hN'⟩;have T:=hN'.tu;have hB1:=hB.trans (hb.mono hB.size);have hB':Below w.heap.size w w':=hB1.trans ⟨T.os,T.tape,T.output,T.size,fun i hi=>T.block i (Nat.lt_of_lt_of_le hi hB1.size) (fun ho=>by have:=ho.1; omega)⟩;have hO':=(hO.held hb).of_block (W':=w') (fun b e=>T.block b ((hO.held hb).lt e).1 (fun ho=>ho.2 e));obtain ⟨g',cap',W',hrun,h6,h7,h8⟩:=cm7 hO' hB' hN' z hk;exact ⟨z,rfl,g',cap',W',hrun,Lib.hid ⟨zs++[z],st',os',hP',by simp,h7,h6,h8⟩⟩
end
end
section
open Go.RowKit Go.Maps Rm Fm Sb
theorem cw3 (d:Nat->Nat):(Ms (d 0) 1 (cL 1 4) w0f 2).dist (pz 2).a (pz 2).n=(9,true):=by
 obtain ⟨hp,hf⟩:=be1 (p:=pz 2) (d:=d 0) (id:=1) (now:=2) (k:=3) (s:=1) (e:=5) (fr:=1) (m:=5) (c:=cL 1 4) (z:=4) (by omega) rfl (by omega) (by omega) (by omega);have hw:(Ms (d 0) 1 (cL 1 4) w0f 2).owns ⟨(pz 2).a,(pz 2).n⟩=false:=rfl;unfold Mr.dist;rw [hw,show (Ms (d 0) 1 (cL 1 4) w0f 2).pick (pz 2).a (pz 2).n=some ⟨1,3,1,5,5⟩ from hp];show (far ((5:Nat):Int) (cAt (cL 1 4) ((1:Nat):Int)),true)=(9,true);rw [hf];rfl
theorem cw2 (d:Nat->Nat):(Mf (d 1) 2 c102 (pz 2) 3 1 5 (w2 5) 2).dist (pz 2).a (pz 2).n=(5,true):=by
 have hr:(Mf (d 1) 2 c102 (pz 2) 3 1 5 (w2 5) 2).reachF (pz 2).a (pz 2).n 2=some (⟨2,3,1,0,5⟩,5):=by
  unfold Mr.reachF;rw [show (Mf (d 1) 2 c102 (pz 2) 3 1 5 (w2 5) 2).f ⟨(pz 2).a,(pz 2).n,((2:Nat):Int)⟩=some ⟨2,3,1,0,5⟩ from by show w2 5 ⟨(pz 2).a,(pz 2).n,((2:Nat):Int)⟩=_; unfold w2; rw [ab7]; exact if_pos rfl];simp only;rw [if_neg]
  ·rfl
  ·rintro (e|e|e)
   ·revert e; show ¬ cAt c102 2<1; decide
   ·refine e ?_
    show fea (if (⟨(pz 2).a,(pz 2).n,3⟩:Ky)=⟨(pz 2).a,(pz 2).n,3⟩ then some (1,5) else none) 1 0=true;rw [if_pos rfl];decide
   ·revert e; show ¬ far ((0:Nat):Int) (cAt c102 2)=65535; decide
 have hp:=ba9 (M:=Mf (d 1) 2 c102 (pz 2) 3 1 5 (w2 5) 2) (fr:=2) (by omega) (fun q hq=>by
  show w2 5 ⟨(pz 2).a,(pz 2).n,(q:Int)⟩=_;unfold w2;rw [ab7,if_neg];intro hz;injection hz with h1 h2 h3;have h4:(q:Int)=2:=h3;omega) hr
 have hw:(Mf (d 1) 2 c102 (pz 2) 3 1 5 (w2 5) 2).owns ⟨(pz 2).a,(pz 2).n⟩=false:=rfl;unfold Mr.dist;rw [hw,hp];rfl
end
section
open Go.RowKit Go.Maps
attribute [local go_sem] Oper.semAt_some
theorem bd3 {i k n len:Int} {a:Nat} {p:List UInt8} (ha:a<4294967296) (hr:Sc.right ⟨0,i,k,n,a,len,p⟩=true) {N:Nat} {w:World} {Q:Int->World->Prop}
  (H:∀ w1,Below w.heap.size w w1->Calls prog 7 #[.pointer (some ⟨N,0,none⟩),.int .i64 i] w1 fun x w'=>∃ z,x= .returned (.int .i64 z)/\Q z w'):
  Calls prog 85 #[.pointer (some ⟨N,0,none⟩),.agg (Sp.ecs ⟨0,i,k,n,a,len,p⟩)] w fun x w'=>∃ z,x= .returned (.int .i64 z)/\Q z w':=by
 have HR:=Sp.eright_eq (e:=⟨0,i,k,n,a,len,p⟩) ha hr;unfold Sp.ecs at HR ⊢;simp only at HR ⊢;clear hr;obtain ⟨s,hs⟩:∃ s:ByteArray,(⟨p.toArray⟩:ByteArray)=s:=⟨_,rfl⟩;rw [hs] at HR ⊢;clear hs;obtain ⟨hbs,BX⟩:=nw w 65 #[.int .i64 0,.int .i64 i,.int .i64 k,.int .i64 n,.int .u32 (a:Nat),.int .i64 len,.string s];go_enter Tryz.func85,Tryz.ntmps85;go_upto_region 1 with fail;generalize w.alloc _=w1 at*;have c0:w1.cell? ⟨w.heap.size,0,none⟩=some (.int .i64 0):=BX.at_ 0;have c1:w1.cell? ⟨w.heap.size,1,none⟩=some (.int .i64 i):=BX.at_ 1;have c2:w1.cell? ⟨w.heap.size,2,none⟩=some (.int .i64 k):=BX.at_ 2;have c3:w1.cell? ⟨w.heap.size,3,none⟩=some (.int .i64 n):=BX.at_ 3;have c4:w1.cell? ⟨w.heap.size,4,none⟩=some (.int .u32 (a:Nat)):=BX.at_ 4;have c5:w1.cell? ⟨w.heap.size,5,none⟩=some (.int .i64 len):=BX.at_ 5;have c6:w1.cell? ⟨w.heap.size,6,none⟩=some (.string s):=BX.at_ 6;have HR1:=HR w1;clear BX HR;go_upto_region 3 with (go_at_call 83; refine HR1.mono ?_; rintro x w2 ⟨rfl,hb2⟩; clear HR1);replace c0:=held hb2 c0;replace c1:=held hb2 c1;replace c2:=held hb2 c2;replace c3:=held hb2 c3;replace c4:=held hb2 c4;replace c5:=held hb2 c5;have HC:=H w2 (next hbs hb2);clear H hb2 hbs c6;go_upto_region 5 with fail;go_wp2_with fail;refine HC.mono ?_;rintro x w3 ⟨z,rfl,hQ⟩;clear HC;go_wp2_with fail;go_ret;exact ⟨z,rfl,hQ⟩
theorem bn2 {i k n len:Int} {a:Nat} {p:List UInt8} (ha:a<4294967296) (hr:Sc.right ⟨3,i,k,n,a,len,p⟩=true) {N:Nat} {w:World} {Q:Int->World->Prop}
  (H:∀ w1,Below w.heap.size w w1->Calls prog 8 #[.pointer (some ⟨N,0,none⟩),.int .i64 i,.int .i64 k,.int .i64 n] w1 fun x w'=>∃ z,x= .returned (.int .i64 z)/\Q z w'):
  Calls prog 85 #[.pointer (some ⟨N,0,none⟩),.agg (Sp.ecs ⟨3,i,k,n,a,len,p⟩)] w fun x w'=>∃ z,x= .returned (.int .i64 z)/\Q z w':=by
 have HR:=Sp.eright_eq (e:=⟨3,i,k,n,a,len,p⟩) ha hr;unfold Sp.ecs at HR ⊢;simp only at HR ⊢;clear hr;obtain ⟨s,hs⟩:∃ s:ByteArray,(⟨p.toArray⟩:ByteArray)=s:=⟨_,rfl⟩;rw [hs] at HR ⊢;clear hs;obtain ⟨hbs,BX⟩:=nw w 65 #[.int .i64 3,.int .i64 i,.int .i64 k,.int .i64 n,.int .u32 (a:Nat),.int .i64 len,.string s];go_enter Tryz.func85,Tryz.ntmps85;go_upto_region 1 with fail;generalize w.alloc _=w1 at*;have c0:w1.cell? ⟨w.heap.size,0,none⟩=some (.int .i64 3):=BX.at_ 0;have c1:w1.cell? ⟨w.heap.size,1,none⟩=some (.int .i64 i):=BX.at_ 1;have c2:w1.cell? ⟨w.heap.size,2,none⟩=some (.int .i64 k):=BX.at_ 2;have c3:w1.cell? ⟨w.heap.size,3,none⟩=some (.int .i64 n):=BX.at_ 3;have c4:w1.cell? ⟨w.heap.size,4,none⟩=some (.int .u32 (a:Nat)):=BX.at_ 4;have c5:w1.cell? ⟨w.heap.size,5,none⟩=some (.int .i64 len):=BX.at_ 5;have c6:w1.cell? ⟨w.heap.size,6,none⟩=some (.string s):=BX.at_ 6;have HR1:=HR w1;clear BX HR;go_upto_region 3 with (go_at_call 83; refine HR1.mono ?_; rintro x w2 ⟨rfl,hb2⟩; clear HR1);replace c0:=held hb2 c0;replace c1:=held hb2 c1;replace c2:=held hb2 c2;replace c3:=held hb2 c3;replace c4:=held hb2 c4;replace c5:=held hb2 c5;have HC:=H w2 (next hbs hb2);clear H hb2 hbs c6;go_upto_region 11 with fail;go_wp2_with fail;refine HC.mono ?_;rintro x w3 ⟨z,rfl,hQ⟩;clear HC;go_wp2_with fail;go_ret;exact ⟨z,rfl,hQ⟩
theorem cy0 {i k n len:Int} {a:Nat} {p:List UInt8} (ha:a<4294967296) (hr:Sc.right ⟨4,i,k,n,a,len,p⟩=true) {N:Nat} {w:World} {Q:Int->World->Prop}
  (H:∀ w1,Below w.heap.size w w1->Calls prog 10 #[.pointer (some ⟨N,0,none⟩),.int .i64 i,.agg #[.int .u32 a,.int .i64 len],.bool true] w1 fun x w'=>∃ z,x= .returned (.int .i64 z)/\Q z w'):
  Calls prog 85 #[.pointer (some ⟨N,0,none⟩),.agg (Sp.ecs ⟨4,i,k,n,a,len,p⟩)] w fun x w'=>∃ z,x= .returned (.int .i64 z)/\Q z w':=by
 have HR:=Sp.eright_eq (e:=⟨4,i,k,n,a,len,p⟩) ha hr;unfold Sp.ecs at HR ⊢;simp only at HR ⊢;clear hr;obtain ⟨s,hs⟩:∃ s:ByteArray,(⟨p.toArray⟩:ByteArray)=s:=⟨_,rfl⟩;rw [hs] at HR ⊢;clear hs;obtain ⟨hbs,BX⟩:=nw w 65 #[.int .i64 4,.int .i64 i,.int .i64 k,.int .i64 n,.int .u32 (a:Nat),.int .i64 len,.string s];go_enter Tryz.func85,Tryz.ntmps85;go_upto_region 1 with fail;generalize w.alloc _=w1 at*;have c0:w1.cell? ⟨w.heap.size,0,none⟩=some (.int .i64 4):=BX.at_ 0;have c1:w1.cell? ⟨w.heap.size,1,none⟩=some (.int .i64 i):=BX.at_ 1;have c2:w1.cell? ⟨w.heap.size,2,none⟩=some (.int .i64 k):=BX.at_ 2;have c3:w1.cell? ⟨w.heap.size,3,none⟩=some (.int .i64 n):=BX.at_ 3;have c4:w1.cell? ⟨w.heap.size,4,none⟩=some (.int .u32 (a:Nat)):=BX.at_ 4;have c5:w1.cell? ⟨w.heap.size,5,none⟩=some (.int .i64 len):=BX.at_ 5;have c6:w1.cell? ⟨w.heap.size,6,none⟩=some (.string s):=BX.at_ 6;have HR1:=HR w1;clear BX HR;go_upto_region 3 with (go_at_call 83; refine HR1.mono ?_; rintro x w2 ⟨rfl,hb2⟩; clear HR1);replace c0:=held hb2 c0;replace c1:=held hb2 c1;replace c2:=held hb2 c2;replace c3:=held hb2 c3;replace c4:=held hb2 c4;replace c5:=held hb2 c5;have HC:=H w2 (next hbs hb2);clear H hb2 hbs c6;go_upto_region 14 with fail;go_wp2_with fail;refine HC.mono ?_;rintro x w3 ⟨z,rfl,hQ⟩;clear HC;go_wp2_with fail;go_ret;exact ⟨z,rfl,hQ⟩
theorem bt8 {i k n len:Int} {a:Nat} {p:List UInt8} (ha:a<4294967296) (hr:Sc.right ⟨10,i,k,n,a,len,p⟩=true) {N:Nat} {w:World} {Q:Int->World->Prop}
  (H:∀ w1,Below w.heap.size w w1->Calls prog 11 #[.pointer (some ⟨N,0,none⟩)] w1 fun x w'=>x= .returned (.tuple #[])/\Q 0 w'):
  Calls prog 85 #[.pointer (some ⟨N,0,none⟩),.agg (Sp.ecs ⟨10,i,k,n,a,len,p⟩)] w fun x w'=>∃ z,x= .returned (.int .i64 z)/\Q z w':=by
 have HR:=Sp.eright_eq (e:=⟨10,i,k,n,a,len,p⟩) ha hr;unfold Sp.ecs at HR ⊢;simp only at HR ⊢;clear hr;obtain ⟨s,hs⟩:∃ s:ByteArray,(⟨p.toArray⟩:ByteArray)=s:=⟨_,rfl⟩;rw [hs] at HR ⊢;clear hs;obtain ⟨hbs,BX⟩:=nw w 65 #[.int .i64 10,.int .i64 i,.int .i64 k,.int .i64 n,.int .u32 (a:Nat),.int .i64 len,.string s];go_enter Tryz.func85,Tryz.ntmps85;go_upto_region 1 with fail;generalize w.alloc _=w1 at*;have c0:w1.cell? ⟨w.heap.size,0,none⟩=some (.int .i64 10):=BX.at_ 0;have c1:w1.cell? ⟨w.heap.size,1,none⟩=some (.int .i64 i):=BX.at_ 1;have c2:w1.cell? ⟨w.heap.size,2,none⟩=some (.int .i64 k):=BX.at_ 2;have c3:w1.cell? ⟨w.heap.size,3,none⟩=some (.int .i64 n):=BX.at_ 3;have c4:w1.cell? ⟨w.heap.size,4,none⟩=some (.int .u32 (a:Nat)):=BX.at_ 4;have c5:w1.cell? ⟨w.heap.size,5,none⟩=some (.int .i64 len):=BX.at_ 5;have c6:w1.cell? ⟨w.heap.size,6,none⟩=some (.string s):=BX.at_ 6;have HR1:=HR w1;clear BX HR;go_upto_region 3 with (go_at_call 83; refine HR1.mono ?_; rintro x w2 ⟨rfl,hb2⟩; clear HR1);replace c0:=held hb2 c0;replace c1:=held hb2 c1;replace c2:=held hb2 c2;replace c3:=held hb2 c3;replace c4:=held hb2 c4;replace c5:=held hb2 c5;have HC:=H w2 (next hbs hb2);clear H hb2 hbs c6;go_upto_region 24 with fail;go_wp2_with fail;refine HC.mono ?_;rintro x w3 ⟨rfl,hQ⟩;clear HC;go_wp2_with fail;go_ret;exact ⟨0,rfl,hQ⟩
end
section
open Go.RowKit Go.Maps Rm Fm Sb
attribute [local go_sem] Oper.semAt_some
theorem al4 {A:Option Addr} {n cap nn sec:Nat} {es:List Sc.Ev} {w:World} (hE:Sp.El w A n cap es) (hn:n<=100000) (h1:1<=nn) (h8:nn<=8) (hs1:4<=sec) (hs2:sec<=512) {P:(Nat->Nat)->Nat->List Int->(Nat->Sv)->List Dg->Prop}
  (h0:∀ d,P d 0 [] (fun i=>⟨d i,none,fun _=>0,⟨i+1,sec / 2 - 1,sm0⟩⟩) [])
  (hs:∀ (N:Nat) (d:Nat->Nat) (k:Nat) zs st os O wx (hk:k<es.length),P d k zs st os->Bo O wx wx N nn st os->Calls prog 85 #[.pointer (some ⟨N,0,none⟩),.agg (Sp.ecs es[k])] wx fun x w'=>∃ z,x= .returned (.int .i64 z)/\∃ st' os',P d (k+1) (zs++[z]) st' os'/\Bo O wx w' N nn st' os'):
  Calls prog 58 #[.int .i64 (nn:Nat),.int .i64 (sec:Nat),.slice A n cap] w fun x w'=>∃ N d v,x= .returned (.tuple #[.pointer (some ⟨N,0,none⟩),v])/\EvR (P d) w N nn n v w':=by
 have HN:=dr8 nn h1 h8 sec hs1 hs2 w;have hlen:=hE.len;have H:=H4 hE h0 hs hlen;clear hE h0 hs hlen;go_enter Tryz.func58,Tryz.ntmps58;go_wp2_with fail;refine HN.mono ?_;rintro x w1 ⟨N,d,rfl,h1⟩;have R0:Hid (EvR (P d) w N nn 0 (.slice none 0 0) w1):=Lib.hid ⟨[],_,[],H.out.2.1 d,rfl,h1.beside (.refl [] _) (fun x hx=>by cases hx) (fun x hx ho=>⟨ho,fun e=>by cases e⟩) (fun x hx=>⟨Nat.le_trans h1.tu.size hx,fun e=>by cases e⟩),Ol.nil _ _,h1.tu.below⟩;clear HN h1;go_wp2_with fail;go_loopw [9,17] (fun v i wr=>∃ k:Nat,i= .int .i64 (k:Nat)/\k<=n/\Hid (EvR (P d) w N nn k v wr)) (fun _ i _=>n - (intOf i).toNat)
 case atStart=>exact ⟨0,rfl,Nat.zero_le _,R0⟩
 case round=>
  clear R0;rename_i v i wr;obtain ⟨k,rfl,hkn,R⟩:=hrel;by_cases hlt:k<n
  ·have hk:k<es.length:=by rw [H.out.2.2.2]; exact hlt
   obtain ⟨b,off,rfl⟩:=H.out.1.plain (by omega);have hEw:=H.out.1.held (w':=wr) (by have:=R.out.below; exact this);have HD:=fun (w10:World) (hb:Below wr.heap.size wr w10)=>R.out.next (w1:=w10) hb (fun zs st os O wx h1 h2=>H.out.2.2.1 N d k zs st os O wx hk h1 h2) (by omega)
   obtain ⟨e,he⟩:∃ e,es[k]=e:=⟨_,rfl⟩;obtain ⟨c0,c1,c2,c3,c4,c5,c6⟩:=hEw.at_ hk he;rw [he] at HD;unfold Sp.ecs at HD;have i1:(k:Int)<(n:Int):=by omega
   clear hEw he;generalize hy0:e.kind=y0 at*;generalize hy1:e.i=y1 at*;generalize hy2:e.k=y2 at*;generalize hy3:e.n=y3 at*;generalize hy4:e.a=y4 at*;generalize hy5:e.len=y5 at*;generalize hy6:(⟨e.p.toArray⟩:ByteArray)=s at*;clear hy0 hy1 hy2 hy3 hy4 hy5 hy6;obtain ⟨hbx,BX⟩:=nw wr 65 #[.int .i64 y0,.int .i64 y1,.int .i64 y2,.int .i64 y3,.int .u32 (y4:Nat),.int .i64 y5,.string s];have X:=H2 hbx BX;clear hbx BX;go_upto_region 6 with fail;generalize wr.alloc _=w10 at*;have x0:w10.cell? ⟨wr.heap.size,0,none⟩=some (.int .i64 y0):=X.out.2.at_ 0;have x1:w10.cell? ⟨wr.heap.size,1,none⟩=some (.int .i64 y1):=X.out.2.at_ 1;have x2:w10.cell? ⟨wr.heap.size,2,none⟩=some (.int .i64 y2):=X.out.2.at_ 2;have x3:w10.cell? ⟨wr.heap.size,3,none⟩=some (.int .i64 y3):=X.out.2.at_ 3;have x4:w10.cell? ⟨wr.heap.size,4,none⟩=some (.int .u32 (y4:Nat)):=X.out.2.at_ 4;have x5:w10.cell? ⟨wr.heap.size,5,none⟩=some (.int .i64 y5):=X.out.2.at_ 5;have x6:w10.cell? ⟨wr.heap.size,6,none⟩=some (.string s):=X.out.2.at_ 6;have HD10:=HD w10 X.out.1;clear HD c0 c1 c2 c3 c4 c5 c6 R X;go_wp2_with fail;refine HD10.mono ?_;rintro x w11 ⟨z,rfl,g',cap',W',hrun,R'⟩;clear HD10 x0 x1 x2 x3 x4 x5 x6;go_wp2_with (first|(at_builtin; refine Lib.wpList_append_run _ rfl (.tmp 21) (.tmp 25) 69 69 rfl _ _ rfl rfl _ _ hrun ?_)|fail);go_roundw
   case rel=>exact ⟨k+1,by go_num,by omega,R'⟩
   case measure=>simp [intOf]; omega
  ·obtain rfl:k=n:=by omega
   go_wp2_with fail;go_ret2;exact ⟨N,d,_,rfl,R.out⟩
end
section
open Go.RowKit Go.Maps Rm Fm Sb
def alE:List Sc.Ev:=[⟨0,0,0,0,0,0,[]⟩,⟨0,1,0,0,0,0,[]⟩,⟨0,2,0,0,0,0,[]⟩,⟨3,0,1,4,0,0,[]⟩,⟨3,1,2,5,0,0,[]⟩,⟨4,2,0,0,167772160+2*65536,16,[]⟩,⟨10,0,0,0,0,0,[]⟩,⟨10,0,0,0,0,0,[]⟩]
def alD (d:Nat->Nat) (i:Nat):Sv:=⟨d i,none,fun _=>0,z63 i⟩
def alU (d:Nat->Nat) (i:Nat) (c:Nat->Int):Sv:=svS (d i) (i+1) 63 90000 c fN 0 (z63 i)
def c00:Nat->Int:=fun _=>0
def alS (d:Nat->Nat):Nat->(Nat->Sv)
 |0=>three (alD d 0) (alD d 1) (alD d 2)
 |1=>three (alU d 0 c00) (alD d 1) (alD d 2)
 |2=>three (alU d 0 c00) (alU d 1 c00) (alD d 2)
 |3=>three (alU d 0 c00) (alU d 1 c00) (alU d 2 c00)
 |4=>three (alU d 0 (cL 1 4)) (alU d 1 (cL 0 4)) (alU d 2 c00)
 |5=>three (alU d 0 (cL 1 4)) (alU d 1 c102) (alU d 2 (cL 1 5))
 |6=>three (al0 d 63 90000 fN 0) (al1 d 63 90000 fN 0) (al2 d 62 90000 0 0 0 0)
 |7=>three (al0 d 62 90000 fN 1) (al1 d 62 89000 (w2 4) 1) (al2 d 61 90000 1 1 1 8)
 |_=>three (al0 d 61 89000 w0f 2) (al1f d 60 88000 (w2 5) 2) (al2 d 61 89000 2 1 1 8)
def alP (d:Nat->Nat) (k:Nat) (zs:List Int) (st:Nat->Sv) (os:List Dg):Prop:=zs=List.replicate k 0/\os=[]/\∀ i,i<3->st i=alS d k i
section
variable {O:Nat->Prop} {w0 w:World} {N:Nat} {d:Nat->Nat}
theorem dg4 {st:Nat->Sv} (h:Bo O w0 w N 3 st []) {i:Nat} (hi:i<3) (hs:st i=alD d i):Calls prog 7 #[.pointer (some ⟨N,0,none⟩),.int .i64 i] w fun e w'=>e= .returned (.int .i64 0)/\Bo O w0 w' N 3 (sets st i (alU d i c00)) []:=by
 refine (bo5 h hi (d:=d i) (room:=63) (sm:=sm0) (c:=fun _=>0) hs (fun _=>⟨by decide,by decide⟩)).mono ?_;rintro e w' ⟨rfl,h2⟩;rw [bs1] at h2;exact ⟨rfl,h2⟩
end
theorem al_set {d:Nat->Nat} {k j:Nat} {st:Nat->Sv} {s:Sv} (h:∀ i,i<3->st i=alS d k i) (hs:s=alS d (k+1) j) (ho:∀ i,i<3->i≠j->alS d k i=alS d (k+1) i):∀ i,i<3->sets st j s i=alS d (k+1) i:=fun i hi=>by
 by_cases e:i=j
 ·subst e; rw [ab5,hs]
 ·rw [ab1 e,h i hi,ho i hi e]
theorem ae3 (k:Nat):List.replicate k (0:Int)++[0]=List.replicate (k+1) 0:=by rw [List.replicate_succ']
theorem bd8 {O:Nat->Prop} {wx:World} {N:Nat} {d:Nat->Nat} {k:Nat} {st:Nat->Sv} (hk:k<3) (hst:∀ i,i<3->st i=alS d k i) (hB:Bo O wx wx N 3 st []):
  Calls prog 85 #[.pointer (some ⟨N,0,none⟩),.agg (Sp.ecs ⟨0,(k:Nat),0,0,0,0,[]⟩)] wx fun x w'=>∃ z,x= .returned (.int .i64 z)/\∃ st' os',alP d (k+1) (List.replicate k 0++[z]) st' os'/\Bo O wx w' N 3 st' os':=by
 have hk3:k=0\/k=1\/k=2:=by omega
 refine bd3 (Q:=fun z w'=>∃ st' os',alP d (k+1) (List.replicate k 0++[z]) st' os'/\Bo O wx w' N 3 st' os') (by decide) (by rcases hk3 with rfl|rfl|rfl<;>decide+kernel) (fun w1 hb=>?_);refine (dg4 (hB.held hb) (i:=k) hk (by rw [hst k hk]; rcases hk3 with rfl|rfl|rfl<;>rfl)).mono ?_;rintro e w' ⟨rfl,h2⟩;refine ⟨0,rfl,_,_,⟨ae3 k,rfl,al_set hst ?_ ?_⟩,h2⟩
 ·rcases hk3 with rfl|rfl|rfl<;>rfl
 ·intro i hi hne
  have:i=0\/i=1\/i=2:=by omega
  rcases hk3 with rfl|rfl|rfl<;>rcases this with rfl|rfl|rfl<;>first|rfl|exact absurd rfl hne
theorem dg2 {O:Nat->Prop} {wx:World} {N:Nat} {d:Nat->Nat} {st:Nat->Sv} (hst:∀ i,i<3->st i=alS d 3 i) (hB:Bo O wx wx N 3 st []):
  Calls prog 85 #[.pointer (some ⟨N,0,none⟩),.agg (Sp.ecs ⟨3,0,1,4,0,0,[]⟩)] wx fun x w'=>∃ z,x= .returned (.int .i64 z)/\∃ st' os',alP d 4 (List.replicate 3 0++[z]) st' os'/\Bo O wx w' N 3 st' os':=by
 refine bn2 (Q:=fun z w'=>∃ st' os',alP d 4 (List.replicate 3 0++[z]) st' os'/\Bo O wx w' N 3 st' os') (by decide) (by decide+kernel) (fun w1 hb=>?_);have hS:Bo O wx w1 N 3 (alS d 3) []:=(hB.held hb).same hst;refine Calls.mono (show Calls prog 8 #[.pointer (some ⟨N,0,none⟩),.int .i64 0,.int .i64 1,.int .i64 4] w1 _ from bo4 hS (a:=0) (b:=1) (by omega) (by omega) (by omega) (cost:=4) (by decide) (by decide)) ?_;rintro e w' ⟨rfl,h2⟩;refine ⟨0,rfl,_,_,⟨ae3 3,rfl,fun i hi=>?_⟩,h2⟩;have:i=0\/i=1\/i=2:=by omega
 rcases this with rfl|rfl|rfl
 ·show Sv.mk _ (some ⟨_,_,Mr.link (Ms (d 0) 1 c00 fN 0) 1 4⟩) _ _=_
  rw [show fN=fun _=>none from rfl,aq5]; rfl
 ·show Sv.mk _ (some ⟨_,_,Mr.link (Ms (d 1) 2 c00 fN 0) 0 4⟩) _ _=_
  rw [show fN=fun _=>none from rfl,aq5]; rfl
 ·rfl
section
variable {O:Nat->Prop} {wx:World} {N:Nat} {d:Nat->Nat} {st:Nat->Sv}
theorem cw1 (hst:∀ i,i<3->st i=alS d 4 i) (hB:Bo O wx wx N 3 st []):
  Calls prog 85 #[.pointer (some ⟨N,0,none⟩),.agg (Sp.ecs ⟨3,1,2,5,0,0,[]⟩)] wx fun x w'=>∃ z,x= .returned (.int .i64 z)/\∃ st' os',alP d 5 (List.replicate 4 0++[z]) st' os'/\Bo O wx w' N 3 st' os':=by
 refine bn2 (Q:=fun z w'=>∃ st' os',alP d 5 (List.replicate 4 0++[z]) st' os'/\Bo O wx w' N 3 st' os') (by decide) (by decide+kernel) (fun w1 hb=>?_);have hS:Bo O wx w1 N 3 (alS d 4) []:=(hB.held hb).same hst;refine Calls.mono (show Calls prog 8 #[.pointer (some ⟨N,0,none⟩),.int .i64 1,.int .i64 2,.int .i64 5] w1 _ from bo4 hS (a:=1) (b:=2) (by omega) (by omega) (by omega) (cost:=5) (by decide) (by decide)) ?_;rintro e w' ⟨rfl,h2⟩;refine ⟨0,rfl,_,_,⟨ae3 4,rfl,fun i hi=>?_⟩,h2⟩;have:i=0\/i=1\/i=2:=by omega
 rcases this with rfl|rfl|rfl
 ·rfl
 ·show Sv.mk _ (some ⟨_,_,Mr.link (Ms (d 1) 2 (cL 0 4) fN 0) 2 5⟩) _ _=_
  rw [show fN=fun _=>none from rfl,aq5]; rfl
 ·show Sv.mk _ (some ⟨_,_,Mr.link (Ms (d 2) 3 c00 fN 0) 1 5⟩) _ _=_
  rw [show fN=fun _=>none from rfl,aq5]; rfl
theorem bu1 (k:Nat) (hk:k=6\/k=7) (hst:∀ i,i<3->st i=alS d k i) (hB:Bo O wx wx N 3 st []):
  Calls prog 85 #[.pointer (some ⟨N,0,none⟩),.agg (Sp.ecs ⟨10,0,0,0,0,0,[]⟩)] wx fun x w'=>∃ z,x= .returned (.int .i64 z)/\∃ st' os',alP d (k+1) (List.replicate k 0++[z]) st' os'/\Bo O wx w' N 3 st' os':=by
 refine bt8 (Q:=fun z w'=>∃ st' os',alP d (k+1) (List.replicate k 0++[z]) st' os'/\Bo O wx w' N 3 st' os') (by decide) (by decide+kernel) (fun w1 hb=>?_);have hS:Bo O wx w1 N 3 (alS d k) []:=(hB.held hb).same hst;rcases hk with rfl|rfl
 ·refine (co2 hS).mono ?_
  rintro e w' ⟨rfl,h2⟩;exact ⟨rfl,_,_,⟨ae3 6,rfl,fun i hi=>rfl⟩,h2⟩
 ·refine (co1 hS).mono ?_
  rintro e w' ⟨rfl,h2⟩;exact ⟨rfl,_,_,⟨ae3 7,rfl,fun i hi=>rfl⟩,h2⟩
theorem al_own (hst:∀ i,i<3->st i=alS d 5 i) (hB:Bo O wx wx N 3 st []):
  Calls prog 85 #[.pointer (some ⟨N,0,none⟩),.agg (Sp.ecs ⟨4,2,0,0,167772160+2*65536,16,[]⟩)] wx fun x w'=>∃ z,x= .returned (.int .i64 z)/\∃ st' os',alP d 6 (List.replicate 5 0++[z]) st' os'/\Bo O wx w' N 3 st' os':=by
 refine cy0 (Q:=fun z w'=>∃ st' os',alP d 6 (List.replicate 5 0++[z]) st' os'/\Bo O wx w' N 3 st' os') (by decide) (by decide+kernel) (fun w1 hb=>?_);have hS:Bo O wx w1 N 3 (alS d 5) []:=(hB.held hb).same hst;refine Calls.mono (show Calls prog 10 #[.pointer (some ⟨N,0,none⟩),.int .i64 2,.agg #[.int .u32 ((167772160+2*65536:Nat):Int),.int .i64 16],.bool true] w1 _ from aw9 hS (i:=2) (by omega) (room:=62) rfl (k:=2) (by omega)) ?_;rintro e w' ⟨rfl,h2⟩;refine ⟨0,rfl,_,_,⟨ae3 5,rfl,fun i hi=>?_⟩,h2⟩;have:i=0\/i=1\/i=2:=by omega
 rcases this with rfl|rfl|rfl<;>rfl
end
end
section
open Go.RowKit Go.Maps Rm Fm Sb
attribute [local go_sem] Oper.semAt_some
theorem ret4 {fn:Func} {a b c d:Tmp} (h:fn.results=#[.tmp a,.tmp b,.tmp c,.tmp d]) (tmps:Array Value) (P:Program) (w:World):
  (results fn tmps).run P w= .ok (.tuple #[tmps.getD a undef,tmps.getD b undef,tmps.getD c undef,tmps.getD d undef]) w:=by
 simp [results,h]
theorem cm9 {A:Option Addr} {n cap nn sec:Nat} {bs:List Nat} {es:List Sc.Ev} {w:World} (h:Sp.Sl w A n cap bs) (hn:n<=262144) (hh:Sc.headed bs=true) (hnn:bs.getD 0 0=nn) (hsec:bs.getD 1 0*256+bs.getD 2 0=sec)
  (hL:∀ x∈es,Sc.right x=true/\x.a<4294967296) (hG:∀ x∈es,x.Good) (hb:bs.drop 3=Sc.flat es) (hf:es.length<=8192) (h1:1<=nn) (h8:nn<=8) (hs1:4<=sec) (hs2:sec<=512) {P:(Nat->Nat)->Nat->List Int->(Nat->Sv)->List Dg->Prop}
  (h0:∀ d,P d 0 [] (fun i=>⟨d i,none,fun _=>0,⟨i+1,sec / 2 - 1,sm0⟩⟩) [])
  (hs:∀ (N:Nat) (d:Nat->Nat) (k:Nat) zs st os O wx (hk:k<es.length),P d k zs st os->Bo O wx wx N nn st os->Calls prog 85 #[.pointer (some ⟨N,0,none⟩),.agg (Sp.ecs es[k])] wx fun x w'=>∃ z,x= .returned (.int .i64 z)/\∃ st' os',P d (k+1) (zs++[z]) st' os'/\Bo O wx w' N nn st' os'):
  Calls prog 25 #[.slice A n cap] w fun x w'=>∃ N d v w1,x= .returned (.tuple #[.pointer (some ⟨N,0,none⟩),v,.int .i64 (bs.length:Nat),.int .i64 0])/\EvR (P d) w1 N nn es.length v w'/\Below w.heap.size w w1:=by
 have HD0:=Sp.decode_good h hn hh;rw [hnn,hsec] at HD0;have HD:Calls prog 57 #[.slice A n cap] w fun x w'=>∃ (A':Option Addr) (m c' L:Nat),x= .returned (.tuple #[.int .i64 (nn:Nat),.int .i64 (sec:Nat),.slice A' m c',.int .i64 (L:Nat),.int .i64 0])/\Hid (Sp.El w' A' m c' es/\Below w.heap.size w w'/\m=es.length/\L=bs.length):=by
  refine HD0.mono ?_;rintro x w' ⟨v,l,k,e,rfl,hO,hE,hB⟩;obtain ⟨rfl,rfl,rfl⟩:=hE.back hL hb hf;obtain ⟨A',c',rfl,hEl⟩:=hO.el hG;exact ⟨A',_,c',_,rfl,Lib.hid ⟨hEl,hB,rfl,rfl⟩⟩
 have H:=H2 h0 hs;have i0:((nn:Int)==0)=false:=by
  have:(nn:Int)≠0:=by omega
  simpa using this
 clear HD0 h h0 hs hL hG hb hh hnn hsec;go_enter Tryz.func25,Tryz.ntmps25;go_upto_region 2 with (go_at_call 57; refine HD.mono ?_; rintro x w1 ⟨A',m,c',L,rfl,X⟩);have HE:=al4 X.out.1 (by have:=X.out.2.2.1; omega) h1 h8 hs1 hs2 H.out.1 H.out.2;clear HD;go_upto_region 5 with (go_at_call 58; refine HE.mono ?_; rintro x w2 ⟨N,d,v,rfl,hR⟩);have R:=Lib.hid hR;clear HE hR;go_wp2_with fail;refine bodyPost_ret (ret4 rfl _ _ _) rfl ⟨N,d,v,w1,by rw [<- X.out.2.2.2]; rfl,by rw [<- X.out.2.2.1]; exact R.out,X.out.2.1⟩
end
section
open Go.RowKit Go.Maps Rm Fm Sb
theorem dg1 (N:Nat) (d:Nat->Nat) (k:Nat) (zs:List Int) (st:Nat->Sv) (os:List Dg) (O:Nat->Prop) (wx:World) (hk:k<alE.length) (hP:alP d k zs st os) (hB:Bo O wx wx N 3 st os):
  Calls prog 85 #[.pointer (some ⟨N,0,none⟩),.agg (Sp.ecs alE[k])] wx fun x w'=>∃ z,x= .returned (.int .i64 z)/\∃ st' os',alP d (k+1) (zs++[z]) st' os'/\Bo O wx w' N 3 st' os':=by
 obtain ⟨rfl,rfl,hst⟩:=hP;have h8:k<8:=hk;have:k=0\/k=1\/k=2\/k=3\/k=4\/k=5\/k=6\/k=7:=by omega
 rcases this with rfl|rfl|rfl|rfl|rfl|rfl|rfl|rfl
 ·exact bd8 (k:=0) (by decide) hst hB
 ·exact bd8 (k:=1) (by decide) hst hB
 ·exact bd8 (k:=2) (by decide) hst hB
 ·exact dg2 hst hB
 ·exact cw1 hst hB
 ·exact al_own hst hB
 ·exact bu1 6 (.inl rfl) hst hB
 ·exact bu1 7 (.inr rfl) hst hB
end
section
open Go.RowKit Go.Maps Rm Fm Sb
attribute [local go_sem] Oper.semAt_some
theorem el_blk {W:World} {g:Nat} {es:List Sc.Ev} (h:Blk 65 W g (es.flatMap Sp.ecl).toArray) (hl:es.length<=1000) (hg:∀ e∈es,e.Good):Sp.El W (some ⟨g,0,none⟩) es.length es.length es:=by
 refine ⟨rfl,by unfold maxLen; omega,Nat.le_refl _,fun _=>⟨_,_,rfl⟩,fun b off e i hi j hj=>?_,hg⟩
 cases e;have e2:=ai1 (cl:=Sp.ecl) (k:=7) (fun _=>rfl) es i hi j hj;rw [h.at_,Nat.zero_add,show 7*i+j=i*7+j by omega,show (Sp.ecs es[i])[j]?=(Sp.ecl es[i])[j]? by rw [<- Sp.ecs_list]; simp,<- e2];simp
theorem sl_ob {B:Nat} {p:Option Addr} {n cap:Nat} {bs:List Nat} {W:World} (h:Sp.Ob B (.slice p n cap) bs W) (hb:∀ c∈bs,c<256):Sp.Sl W p n cap bs:=by
 have hB:=Sp.Ob.bytes h hb;rcases h.2 with ⟨h0,h1⟩|⟨g',cap',cur,e,h4,h5,h6,h7,h8,h9⟩
 ·cases h0
  exact ⟨hB,Nat.le_refl _,fun h=>absurd h (by omega)⟩
 ·cases e
  exact ⟨hB,h6,fun _=>⟨_,_,rfl⟩⟩
theorem bu2:∀ e∈alE,e.Good:=by
 intro e he;simp only [alE,List.mem_cons,List.not_mem_nil,or_false] at he;rcases he with rfl|rfl|rfl|rfl|rfl|rfl|rfl|rfl<;>exact ⟨by constructor<;>decide,by unfold maxLen; decide⟩
theorem co3:∀ e∈alE,Sc.right e=true/\e.a<4294967296:=by
 intro e he;simp only [alE,List.mem_cons,List.not_mem_nil,or_false] at he;rcases he with rfl|rfl|rfl|rfl|rfl|rfl|rfl|rfl<;>exact ⟨by decide+kernel,by decide⟩
theorem cw0 (d:Nat->Nat):alP d 0 [] (fun i=>⟨d i,none,fun _=>0,⟨i+1,128 / 2 - 1,sm0⟩⟩) []:=⟨rfl,rfl,fun i hi=>by
 have:i=0\/i=1\/i=2:=by omega
 rcases this with rfl|rfl|rfl<;>rfl⟩
def alB:List Nat:=Sc.script 3 128 alE
theorem alB_lt:∀ c∈alB,c<256:=by decide+kernel
theorem cw4 {A:Option Addr} {n cap:Nat} {w:World} (h:Sp.Sl w A n cap alB) (hn:n<=262144):
  Calls prog 25 #[.slice A n cap] w fun x w'=>∃ N d v w1,x= .returned (.tuple #[.pointer (some ⟨N,0,none⟩),v,.int .i64 131,.int .i64 0])/\EvR (alP d) w1 N 3 8 v w'/\Below w.heap.size w w1:=by
 have:=cm9 (nn:=3) (sec:=128) h hn (by decide+kernel) (by decide+kernel) (by decide+kernel) co3 bu2 (by decide+kernel) (by decide) (by omega) (by omega) (by omega) (by omega) (P:=alP) cw0 dg1;rw [show alB.length=131 by decide+kernel] at this;exact this
theorem Bo.at_router {O:Nat->Prop} {w0 w:World} {N n:Nat} {st:Nat->Sv} {os:List Dg} (h:Bo O w0 w N n st os) {i:Nat} (hi:i<n) {d room sp:Nat} {M:Mr} {c:Nat->Int} {z:Dz} (hs:st i=⟨d,some ⟨room,sp,M⟩,c,z⟩):
  ∃ R,(∃ F,Rz F w R room sp M)/\∀ w',Below w.heap.size w w'->Calls prog 12 #[.pointer (some ⟨N,0,none⟩),.int .i64 i] w' fun e w2=>e= .returned (.pointer (some ⟨R,0,none⟩))/\Below w'.heap.size w' w2:=by
 obtain ⟨MB,ms,v,xs,hW,hst,b1,b2,b3,b4,hB,hl⟩:=h.ex;obtain ⟨R,hm⟩:=Ma.sv_some ((hst i hi).trans hs);have hk:=hW.nt.mas.ok i hi;rw [hm] at hk;refine ⟨R,⟨_,hk.some rfl⟩,fun w' hb=>?_⟩;have:=ah8 (hW.nt.held hb) hi;rw [hm] at this;refine this.mono ?_;rintro e w2 ⟨rfl,rfl⟩;exact ⟨rfl,.refl _ _⟩
theorem Rz.at_dist {F:List Nat} {w:World} {R room sp:Nat} {M:Mr} (h:Rz F w R room sp M) {a:Nat} {len:Int} (hp:Pk.ok ⟨a,len⟩) {z:Int} {ok:Bool} (hz:M.dist a len=(z,ok)) (w':World) (hb:Below w.heap.size w w'):
  Calls prog 13 #[.pointer (some ⟨R,0,none⟩),.agg #[.int .u32 a,.int .i64 len]] w' fun e w2=>e= .returned (.tuple #[.int .i64 z,.bool ok])/\Below w'.heap.size w' w2:=by
 obtain ⟨o,fl,tb,j,N0,n0,hR⟩:=(h.held hb).rr;exact da5 hR hp hz
theorem bp3:alE.length=8:=rfl
def alCells:Array Value:=#[.int .i64 0,.int .i64 0,.int .i64 0,.int .i64 0,.int .u32 0,.int .i64 0,.string ⟨#[]⟩,.int .i64 0,.int .i64 1,.int .i64 0,.int .i64 0,.int .u32 0,.int .i64 0,.string ⟨#[]⟩,.int .i64 0,.int .i64 2,.int .i64 0,.int .i64 0,.int .u32 0,.int .i64 0,.string ⟨#[]⟩,
 .int .i64 3,.int .i64 0,.int .i64 1,.int .i64 4,.int .u32 0,.int .i64 0,.string ⟨#[]⟩,.int .i64 3,.int .i64 1,.int .i64 2,.int .i64 5,.int .u32 0,.int .i64 0,.string ⟨#[]⟩,.int .i64 4,.int .i64 2,.int .i64 0,.int .i64 0,.int .u32 ((167772160+2*65536:Nat):Int),.int .i64 16,.string ⟨#[]⟩,
 .int .i64 10,.int .i64 0,.int .i64 0,.int .i64 0,.int .u32 0,.int .i64 0,.string ⟨#[]⟩,.int .i64 10,.int .i64 0,.int .i64 0,.int .i64 0,.int .u32 0,.int .i64 0,.string ⟨#[]⟩]
theorem ca4:(alE.flatMap Sp.ecl).toArray=alCells:=rfl
theorem dh9 (w:World):Calls prog 5 #[] w fun e w'=>e= .returned (.bool true)/\Below w.heap.size w w':=by
 have HP:=cg9 2 (by omega) w;replace HP:Calls prog 9 #[.int .i64 2,.int .i64 0] w fun e w'=>e= .returned (.agg #[.int .u32 ((167772160+2*65536:Nat):Int),.int .i64 16])/\Below w.heap.size w w':=HP
 go_enter Tryz.func5,Tryz.ntmps5;go_upto_region 2 with (go_at_call 9; refine HP.mono ?_; rintro e w1 ⟨rfl,hb1⟩);have PB:=Blk.new w1 31 #[.int .u32 ((167772160+2*65536:Nat):Int),.int .i64 16];have hb2:=next hb1 (aa0 w1 (.cells #[.int .u32 ((167772160+2*65536:Nat):Int),.int .i64 16] 31));have hlt:w1.heap.size<(w1.alloc (.cells #[.int .u32 ((167772160+2*65536:Nat):Int),.int .i64 16] 31)).heap.size:=by rw [aa1]; omega
 clear HP hb1;generalize w1.alloc _=w2 at*;generalize w1.heap.size=pb at*;have c0:=PB.at_ 0;have c1:=PB.at_ 1;have LB:=Blk.new w2 65 alCells;have hb3:=aa0 w2 (.cells alCells 65);unfold alCells at LB hb3;go_upto_region 3 with fail;have PB3:=PB.held hb3;have hB3:=Lib.hid (next hb2 hb3);clear hb2 hb3 PB c0 c1 hlt;generalize w2.alloc _=w3 at*;generalize w2.heap.size=lb at*;have LB':Blk 65 w3 lb (alE.flatMap Sp.ecl).toArray:=by rw [ca4]; exact LB
 have HE:=Sp.encode_good (nn:=3) (ss:=128) (el_blk LB' (by rw [bp3]; decide) bu2) (by rw [bp3]; decide) (by decide+kernel) (by decide+kernel) (by decide+kernel);rw [bp3] at HE;replace HE:Calls prog 24 #[.int .i64 3,.int .i64 128,.slice (some ⟨lb,0,none⟩) 8 8] w3 fun x w'=>∃ g c q,x= .returned (.tuple #[.slice (some ⟨g,0,none⟩) q c,.int .i64 0])/\q=alB.length/\Sp.Ob w3.heap.size (.slice (some ⟨g,0,none⟩) q c) alB w'/\Below w3.heap.size w3 w':=HE
 have Z3:=Lib.hid PB3;clear LB LB' PB3;go_upto_region 4 with (go_at_call 24; refine HE.mono ?_; rintro e w4 ⟨g,c,q,rfl,hq,hO,hb4⟩);have hq2:q=131:=hq.trans (by decide+kernel);subst hq2;have HBy:=cw4 (sl_ob hO alB_lt) (by decide);have Z4:=H2 (Z3.out.held hb4) (next hB3.out hb4);clear HE hO hb4 hq;go_upto_region 5 with (go_at_call 25; refine HBy.mono ?_; rintro x w5 ⟨N,d,v,w0,rfl,hR,hb5⟩);have hb6:=hb5.trans (hR.below.mono hb5.size);obtain ⟨zs,st,os,⟨hz,rfl,hst⟩,hzl,hN,hO,-⟩:=hR.ex;obtain ⟨vp,vc,rfl,-⟩:=hO.form;rw [hzl];have hN2:=hN.same hst;obtain ⟨R0,⟨F0,hR0⟩,HR0⟩:=hN2.at_router (i:=0) (by omega) (d:=d 0) (room:=61) (sp:=89000) (M:=Ms (d 0) 1 (cL 1 4) w0f 2) (c:=cL 1 4) (z:=z63 0) rfl;obtain ⟨R1,⟨F1,hR1⟩,HR1⟩:=hN2.at_router (i:=1) (by omega) (d:=d 1) (room:=60) (sp:=88000) (M:=Mf (d 1) 2 c102 (pz 2) 3 1 5 (Go.Proofs.YtlklghedfaeepaaGreat.w2 5) 2) (c:=c102) (z:=z63 1) rfl;have HD0:=hR0.at_dist (a:=167772160+2*65536) (len:=16) (ad3 (i:=2) (by omega)) (cw3 d);have HD1:=hR1.at_dist (a:=167772160+2*65536) (len:=16) (ad3 (i:=2) (by omega)) (cw2 d);have PB5:=Z4.out.1.held hb6;have HB5:=Lib.hid (next Z4.out.2 hb6);have H00:=HR0 w5 (.refl _ _);replace H00:Calls prog 12 #[.pointer (some ⟨N,0,none⟩),.int .i64 0] w5 fun e w2=>e= .returned (.pointer (some ⟨R0,0,none⟩))/\Below w5.heap.size w5 w2:=H00
 have K:=H5 HR0 HR1 HD0 HD1 PB5;clear HBy hR hz hst hN hO hN2 hR0 hR1 HR0 HR1 HD0 HD1 PB5 hb5 hb6 hzl Z3 Z4 hB3;go_upto_region 7 with (go_at_call 12; refine H00.mono ?_; rintro e w6 ⟨rfl,hb6⟩);have hB6:=Lib.hid (next HB5.out hb6);have HRa:∀ (q:Nat) (os:Array Obj),Calls prog 12 #[.pointer (some ⟨N,0,none⟩),.int .i64 0] (Sort.grow (redrawn w6 q) os) fun e w2=>e= .returned (.pointer (some ⟨R0,0,none⟩))/\Below (Sort.grow (redrawn w6 q) os).heap.size (Sort.grow (redrawn w6 q) os) w2:=fun q os=>K.out.1 _ (next hb6 (below_regrown w6 q os))
 have HDa:∀ (q:Nat) (os:Array Obj),Calls prog 13 #[.pointer (some ⟨R0,0,none⟩),.agg #[.int .u32 ((167772160+2*65536:Nat):Int),.int .i64 16]] (Sort.grow (redrawn w6 q) os) fun e w2=>e= .returned (.tuple #[.int .i64 9,.bool true])/\Below (Sort.grow (redrawn w6 q) os).heap.size (Sort.grow (redrawn w6 q) os) w2:=fun q os=>K.out.2.2.1 _ (next hb6 (below_regrown w6 q os))
 have p0:=fun q os=>cell_regrown ((K.out.2.2.2.2.held hb6).at_ 0) q os
 have p1:=fun q os=>cell_regrown ((K.out.2.2.2.2.held hb6).at_ 1) q os
 have B6:=Lib.hid hb6;clear H00 hb6;refine wp_region_quiet_below (by kernel_rfl) (by kernel_rfl) ?_
 repeat (go_big_quiet_step (first|(go_at_call 12; exact Calls.regrown_of (HRa _ _))|(go_at_call 13; exact Calls.regrown_of (HDa _ _))))
 refine wpQuiet_nil ?_;intro _ hw';obtain ⟨⟨dq,osq⟩,hw''⟩:=hw';subst hw'';have hb7:=next B6.out (below_regrown w6 dq osq);have hB7:=Lib.hid (next hB6.out (below_regrown w6 dq osq));clear HRa HDa p0 p1 B6 hB6;generalize Sort.grow (redrawn w6 dq) osq=w7 at*;have HRb:∀ (q:Nat) (os:Array Obj),Calls prog 12 #[.pointer (some ⟨N,0,none⟩),.int .i64 1] (Sort.grow (redrawn w7 q) os) fun e w2=>e= .returned (.pointer (some ⟨R1,0,none⟩))/\Below (Sort.grow (redrawn w7 q) os).heap.size (Sort.grow (redrawn w7 q) os) w2:=fun q os=>K.out.2.1 _ (next hb7 (below_regrown w7 q os))
 have HDb:∀ (q:Nat) (os:Array Obj),Calls prog 13 #[.pointer (some ⟨R1,0,none⟩),.agg #[.int .u32 ((167772160+2*65536:Nat):Int),.int .i64 16]] (Sort.grow (redrawn w7 q) os) fun e w2=>e= .returned (.tuple #[.int .i64 5,.bool true])/\Below (Sort.grow (redrawn w7 q) os).heap.size (Sort.grow (redrawn w7 q) os) w2:=fun q os=>K.out.2.2.2.1 _ (next hb7 (below_regrown w7 q os))
 have p0:=fun q os=>cell_regrown ((K.out.2.2.2.2.held hb7).at_ 0) q os
 have p1:=fun q os=>cell_regrown ((K.out.2.2.2.2.held hb7).at_ 1) q os
 clear hb7;go_upto_region 8 with fail;refine wp_region_quiet_below (by kernel_rfl) (by kernel_rfl) ?_
 repeat (go_big_quiet_step (first|(go_at_call 12; exact Calls.regrown_of (HRb _ _))|(go_at_call 13; exact Calls.regrown_of (HDb _ _))))
 refine wpQuiet_nil ?_;intro _ hw';obtain ⟨⟨dq,osq⟩,hw''⟩:=hw';subst hw'';have hB8:=next hB7.out (below_regrown w7 dq osq);clear HRb HDb p0 p1 K hB7;go_wp2;go_ret;exact ⟨rfl,hB8⟩
end
end Go.Proofs.YtlklghedfaeepaaGreat
