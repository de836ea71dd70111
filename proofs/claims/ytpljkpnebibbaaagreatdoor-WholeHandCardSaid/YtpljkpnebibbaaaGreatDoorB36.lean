import Derived.Test.YtpljkpnebibbaaaGreatDoorB35
set_option maxHeartbeats 8000000
namespace Go.Proofs.YtpljkpnebibbaaaGreatDoor
open _root_.Go.Proofs.Tryz (prog)
section
open Go.RowKit Go.Maps Rm Fm Sb
theorem Bo.two {O:Nat->Prop} {w0 w:World} {N:Nat} {st:Nat->Sv} {os:List Dg} (h:Bo O w0 w N 2 st os) {a b:Sv} (ha:st 0=a) (hb:st 1=b):Bo O w0 w N 2 (two a b) os:=
 h.same fun i hi=>by
  have:i=0\/i=1:=by omega
  rcases this with rfl|rfl
  ·exact ha
  ·exact hb
section
variable {O:Nat->Prop} {w0 w:World} {N n:Nat} {st:Nat->Sv} {os:List Dg}
theorem az0 (h:Bo O w0 w N n st os) {i:Nat} (hi:i<n) {d d' id room sp fr k t:Nat} {p q:Pk} {c:Nat->Int} {now ex x since:Int} {seq lease:Nat} {b:Bool} {cc:Nat->Int} {z:Dz}
  (hs:st i=⟨d,some ⟨room+1,sp,Mh p d' id c (flb b q k t) (way1 q ⟨fr,k,1,0,ex⟩) now seq since lease⟩,cc,z⟩) (hp:p.ok) (hpr:Am.right p.a p.n=true) (hq:q.ok) (hqr:Am.right q.a q.n=true) (hpq:q≠p)
  (hnow:now<1000000) (hle:lease<=1073741824) (hex:now+1<ex) (hsq:seq≠0/\now+1 - since<12) (hs2:seq<=1073741824) (hk:fr<8) (hc:c fr=x) (h1:1<=x) (h2:x<=1000) (hx:x=(t:Int)) (hk0:k≠0) (hk1:k<4294967296) (hi0:id≠0):
  Calls prog 70 #[.pointer (some ⟨N,0,none⟩),.int .i64 i] w fun e w'=>e= .returned (.int .i64 0)/\
   (ltP p q->Bo O w0 w' N n (sets st i ⟨d,some ⟨room,sp,Mh p d' id c (flb true q k t) (way1 q ⟨fr,k,1,0,ex⟩) (now+1) seq since lease⟩,cc,z⟩) (sendAll i os (sends c [pgs [⟨p.a,p.n,id,seq,0⟩,⟨q.a,q.n,k,1,t⟩]] 8)))/\
   (ltP q p->Bo O w0 w' N n (sets st i ⟨d,some ⟨room,sp,Mh p d' id c (flb true q k t) (way1 q ⟨fr,k,1,0,ex⟩) (now+1) seq since lease⟩,cc,z⟩) (sendAll i os (sends c [pgs [⟨q.a,q.n,k,1,t⟩,⟨p.a,p.n,id,seq,0⟩]] 8))):=by
 have hfr:0<=(fr:Int)/\(fr:Int)<=8:=by omega
 have hT:=fun M2 (h2:Ticks (Mh p d' id c (flb b q k t) (way1 q ⟨fr,k,1,0,ex⟩) now seq since lease) M2)=>Mh.ticks hp (r:=⟨fr,k,1,0,ex⟩) hex hsq h2
 have hs':st i=⟨d,some ⟨room+1+0,sp,Mh p d' id c (flb b q k t) (way1 q ⟨fr,k,1,0,ex⟩) now seq since lease⟩,cc,z⟩:=hs;have r1:T.Tm.right ⟨p.a,p.n,id,seq,0⟩=true:=cg7 hpr hi0 hs2;have r2:T.Tm.right ⟨q.a,q.n,k,1,t⟩=true:=ao1 hqr hk0 (by omega) (by omega);refine (bd7 h hi hs' (Mh.good hqr hk0 (by show 1<=1073741824; omega)) hnow hle (p:=2) (r:=1) (fun M2 h2=>by rw [hT M2 h2]; exact Mh.few) (by omega) (by rw [Mh.aged (r:=⟨fr,k,1,0,ex⟩) hex,Mh.advN hsq]; exact Nat.le_refl _) (fun M2 rs h2 h3=>by
  rw [hT M2 h2] at h3 ⊢;have hS:=Mh.subj hp hq hk1 hpq (r:=⟨fr,k,1,0,ex⟩) hfr h3;by_cases hlt:ltP p q
  ·rw [hS.1 hlt]
   exact (Mh.need b).1
  ·have hlt2:ltP q p:=by
    have hne:¬ (p.a=q.a/\p.n=q.n):=fun ⟨e1,e2⟩=>hpq (by cases p; cases q; simp only at e1 e2; rw [e1,e2])
    unfold ltP at hlt ⊢;omega
   rw [hS.2 hlt2];exact (Mh.need b).2)).mono ?_
 rintro y w' ⟨rfl,M2,rs,h3,h4,hB⟩;have e1:=hT M2 h3;subst e1;have hS:=Mh.subj hp hq hk1 hpq (r:=⟨fr,k,1,0,ex⟩) hfr h4;obtain ⟨t1,t2⟩:=Mh.tell (p:=p) (q:=q) (d:=d') (id:=id) (now:=now+1) (k:=k) (e:=ex) (seq:=seq) (since:=since) (lease:=lease) (b:=b) (t:=t) hpq hsq.1 hk hc h1 h2 hx;refine ⟨rfl,fun hlt=>?_,fun hlt=>?_⟩
 ·rw [hS.1 hlt,t1] at hB
  rw [am9 (by simp [r1,r2]) (by simp) (by simp)] at hB;exact hB
 ·rw [hS.2 hlt,t2] at hB
  rw [am9 (by simp [r1,r2]) (by simp) (by simp)] at hB;exact hB
end
theorem au6 {i j:Nat} (h:i≠j):pz i≠pz j:=fun e=>by
 unfold pz at e;injection e with e1;omega
theorem cf1 {i j:Nat} (h:i<j):ltP (pz i) (pz j):= .inl (by show 167772160+i*65536<167772160+j*65536; omega)
def hv (own oth:Nat) (x:Int) (t d room sp:Nat) (b:Bool) (e now:Int):Sv:=⟨d,some ⟨room,sp,Mh (pz own) d (own+1) (cL oth x) (flb b (pz oth) (oth+1) t) (way1 (pz oth) ⟨oth,oth+1,1,0,e⟩) now 1 1 8⟩,cL oth x,z63 own⟩
def up (own:Nat) (m:Nat):T.Tm.Up:=⟨(pz own).a,(pz own).n,own+1,1,m⟩
def u0 (t:Nat):List T.Tm.Up:=[up 0 0,up 1 t]
def u1 (t:Nat):List T.Tm.Up:=[up 0 t,up 1 0]
theorem as1 {i m:Nat} (hi:i<=7) (hm:m<65535):T.Tm.right (up i m)=true:=ao1 (ab2 hi) (by omega) (by omega) hm
theorem az5 {i m:Nat} (hi:i<=7) (hm:m<65535):(up i m).Fits:=bt5 (ad3 hi) (by omega) (by omega) hm
theorem cy9 {t:Nat} (ht:t<65535):∀ u∈u0 t,T.Tm.right u=true/\u.Fits:=by
 intro u hu;simp only [u0,List.mem_cons,List.not_mem_nil,or_false] at hu;rcases hu with rfl|rfl
 ·exact ⟨as1 (by omega) (by omega),az5 (by omega) (by omega)⟩
 ·exact ⟨as1 (by omega) ht,az5 (by omega) ht⟩
theorem cy8 {t:Nat} (ht:t<65535):∀ u∈u1 t,T.Tm.right u=true/\u.Fits:=by
 intro u hu;simp only [u1,List.mem_cons,List.not_mem_nil,or_false] at hu;rcases hu with rfl|rfl
 ·exact ⟨as1 (by omega) ht,az5 (by omega) ht⟩
 ·exact ⟨as1 (by omega) (by omega),az5 (by omega) (by omega)⟩
theorem ci9 {x:Int} {t d:Nat} {b:Bool} {e now:Int} (ht:0<t):
  (Mh (pz 1) d (1+1) (cL 0 x) (flb b (pz 0) (0+1) t) (way1 (pz 0) ⟨(0:Nat),0+1,1,0,e⟩) now 1 1 8).hears 0 (u0 t)=Mh (pz 1) d (1+1) (cL 0 x) (flb b (pz 0) (0+1) t) (way1 (pz 0) ⟨(0:Nat),0+1,1,0,now+3⟩) now 1 1 8:=by
 show (Mr.hear (Mr.hear _ 0 (pz 0).a (pz 0).n 1 1 0) 0 (pz 1).a (pz 1).n 2 1 t)=_;rw [Mh.hear (au6 (by omega)) (by omega) (by omega) (aq6 ht)];rw [Mh.hear_own];exact congrArg (fun f=>Mh (pz 1) d (1+1) (cL 0 x) (flb b (pz 0) (0+1) t) f now 1 1 8) bp6
theorem cj0 {x:Int} {t d:Nat} {b:Bool} {e now:Int} (ht:0<t):
  (Mh (pz 0) d (0+1) (cL 1 x) (flb b (pz 1) (1+1) t) (way1 (pz 1) ⟨(1:Nat),1+1,1,0,e⟩) now 1 1 8).hears 1 (u1 t)=Mh (pz 0) d (0+1) (cL 1 x) (flb b (pz 1) (1+1) t) (way1 (pz 1) ⟨(1:Nat),1+1,1,0,now+3⟩) now 1 1 8:=by
 simp only [Mr.hears,u1,up,List.foldl_cons,List.foldl_nil];rw [Mh.hear_own];rw [Mh.hear (au6 (by omega)) (by omega) (by omega) (aq6 ht)];exact congrArg (fun f=>Mh (pz 0) d (0+1) (cL 1 x) (flb b (pz 1) (1+1) t) f now 1 1 8) bp6
section
variable {x:Int} {t:Nat} {d:Nat->Nat} {room sp:Nat} {b:Bool} {now:Int}
def hdP (x:Int) (t:Nat) (d:Nat->Nat) (room sp:Nat) (b:Bool) (now:Int):Nat->(Nat->Sv)->List Dg->Prop
 |0,st,os=>st=two (hv 0 1 x t (d 0) (room+1) (sp+1000) b (now+3) now) (hv 1 0 x t (d 1) (room+1) (sp+1000) b (now+3) now)/\os=[]
 |1,st,os=>st=two (hv 0 1 x t (d 0) room (sp+1000) true (now+3) (now+1)) (hv 1 0 x t (d 1) (room+1) (sp+1000) b (now+3) now)/\os=[(0,1,pgs (u0 t))]
 |_,st,os=>st=two (hv 0 1 x t (d 0) room (sp+1000) true (now+3) (now+1)) (hv 1 0 x t (d 1) room (sp+1000) true (now+3) (now+1))/\os=[(0,1,pgs (u0 t)),(1,0,pgs (u1 t))]
def hdQ (x:Int) (t:Nat) (d:Nat->Nat) (room sp:Nat) (b:Bool) (now:Int):Nat->(Nat->Sv)->List Dg->Prop
 |0,st,os=>st=two (hv 0 1 x t (d 0) room sp true (now+1+3) (now+1)) (hv 1 0 x t (d 1) room sp true (now+1+3) (now+1))/\os=[]
 |1,st,os=>st=two (hv 0 1 x t (d 0) room (sp+1000) true (now+3) (now+1)) (hv 1 0 x t (d 1) room sp true (now+1+3) (now+1))/\os=[(1,0,pgs (u1 t))]
 |2,st,os=>hdP x t d room sp b now 2 st os
 |_,_,_=>False
variable {O:Nat->Prop} {w0 w:World} {N:Nat}
theorem ct9 (h:Bo O w0 w N 2 (two (hv 0 1 x t (d 0) (room+1) (sp+1000) b (now+3) now) (hv 1 0 x t (d 1) (room+1) (sp+1000) b (now+3) now)) []) (h1:1<=x) (h2:x<=1000) (hx:x=(t:Int)) (hn1:1<=now) (hn2:now<=10):
  Calls prog 74 #[.pointer (some ⟨N,0,none⟩)] w fun e w'=>e= .returned (.tuple #[])/\
   Bo O w0 w' N 2 (two (hv 0 1 x t (d 0) room sp true (now+1+3) (now+1)) (hv 1 0 x t (d 1) room sp true (now+1+3) (now+1))) []:=by
 have hx0:x≠0:=by omega
 refine (as6 (P:=hdP x t d room sp b now) (Q:=hdQ x t d room sp b now) h ⟨rfl,rfl⟩ (fun k st os wr hk hP hB=>?_) (fun st os hP=>?_) (fun j st os hQ=>?_) (fun j st os wr hQ hB=>?_)).mono ?_
 ·have:k=0\/k=1:=by omega
  rcases this with rfl|rfl
  ·obtain ⟨rfl,rfl⟩:=hP
   refine (az0 hB (i:=0) (by omega) (fr:=1) (x:=x) (t:=t) rfl (ad3 (by omega)) (ab2 (by omega)) (ad3 (by omega)) (ab2 (by omega)) (au6 (by omega)) (by omega) (by omega) (by omega) (by omega) (by omega) (by omega) rfl h1 h2 hx (by omega) (by omega) (by omega)).mono ?_;rintro e w' ⟨rfl,h3,-⟩;have h4:=h3 (cf1 (by omega));rw [ak2 (by omega) hx0] at h4;exact ⟨0,_,_,rfl,⟨rfl,rfl⟩,h4.two rfl rfl⟩
  ·obtain ⟨rfl,rfl⟩:=hP
   refine (az0 hB (i:=1) (by omega) (fr:=0) (x:=x) (t:=t) rfl (ad3 (by omega)) (ab2 (by omega)) (ad3 (by omega)) (ab2 (by omega)) (au6 (by omega)) (by omega) (by omega) (by omega) (by omega) (by omega) (by omega) rfl h1 h2 hx (by omega) (by omega) (by omega)).mono ?_;rintro e w' ⟨rfl,-,h3⟩;have h4:=h3 (cf1 (by omega));rw [ak2 (by omega) hx0] at h4;exact ⟨0,_,_,rfl,⟨rfl,rfl⟩,h4.two rfl rfl⟩
 ·obtain ⟨rfl,rfl⟩:=hP
  exact ⟨rfl,rfl⟩
 ·match j,hQ with
  |0,hQ=>rw [hQ.2]; rfl
  |1,hQ=>rw [hQ.2]; rfl
  |2,hQ=>obtain ⟨-,rfl⟩:=hQ; rfl
 ·match j,hQ with
  |1,hQ=>
   obtain ⟨rfl,rfl⟩:=hQ;refine (al9 hB (j:=0) (by simp) (fr:=0) (i:=1) rfl (by omega) (sp:=sp) rfl (cy9 (by omega)) (by simp [u0]) (by simp [u0]) (by show cAt (cL 0 x) 0≠0; simpa [cAt,cL] using hx0)).mono ?_;rintro e w' ⟨rfl,h3⟩;rw [ci9 (by omega)] at h3;exact ⟨0,_,_,rfl,⟨rfl,rfl⟩,h3.two rfl rfl⟩
  |0,hQ=>
   obtain ⟨rfl,rfl⟩:=hQ;refine (al9 hB (j:=0) (by simp) (fr:=1) (i:=0) rfl (by omega) (sp:=sp) rfl (cy8 (by omega)) (by simp [u1]) (by simp [u1]) (by show cAt (cL 1 x) 1≠0; simpa [cAt,cL] using hx0)).mono ?_;rintro e w' ⟨rfl,h3⟩;rw [cj0 (by omega)] at h3;exact ⟨0,_,_,rfl,⟨rfl,rfl⟩,h3.two rfl rfl⟩
 ·rintro e w' ⟨rfl,st',os',⟨rfl,rfl⟩,h2⟩
  exact ⟨rfl,h2⟩
def hs0 (x:Int) (d room sp:Nat) (own oth:Nat):Sv:=svO (pz own) d (own+1) room sp (cL oth x) 0 0 0 0 (z63 own)
def hs1 (x:Int) (d room sp:Nat) (own oth:Nat):Sv:=svO (pz own) d (own+1) room sp (cL oth x) 1 1 1 8 (z63 own)
def h1P (x:Int) (d:Nat->Nat) (room sp:Nat):Nat->(Nat->Sv)->List Dg->Prop
 |0,st,os=>st=two (hs0 x (d 0) (room+1) (sp+1000) 0 1) (hs0 x (d 1) (room+1) (sp+1000) 1 0)/\os=[]
 |1,st,os=>st=two (hs1 x (d 0) room (sp+1000) 0 1) (hs0 x (d 1) (room+1) (sp+1000) 1 0)/\os=[(0,1,pgm (pz 0) 1 1 0)]
 |_,st,os=>st=two (hs1 x (d 0) room (sp+1000) 0 1) (hs1 x (d 1) room (sp+1000) 1 0)/\os=[(0,1,pgm (pz 0) 1 1 0),(1,0,pgm (pz 1) 2 1 0)]
def h1Q (x:Int) (t:Nat) (d:Nat->Nat) (room sp:Nat):Nat->(Nat->Sv)->List Dg->Prop
 |0,st,os=>st=two (hv 0 1 x t (d 0) room sp false (1+3) 1) (hv 1 0 x t (d 1) room sp false (1+3) 1)/\os=[]
 |1,st,os=>st=two (hs1 x (d 0) room (sp+1000) 0 1) (hv 1 0 x t (d 1) room sp false (1+3) 1)/\os=[(1,0,pgm (pz 1) 2 1 0)]
 |2,st,os=>h1P x d room sp 2 st os
 |_,_,_=>False
theorem cj9 (t:Nat) {own oth d:Nat} {x:Int} (hne:oth≠own) (ht:0<t):
  (Mo1 (pz own) d (own+1) (cL oth x) 1 1 1 8).hear oth (pz oth).a (pz oth).n (oth+1) 1 0=Mh (pz own) d (own+1) (cL oth x) (flb false (pz oth) (oth+1) t) (way1 (pz oth) ⟨oth,oth+1,1,0,1+3⟩) 1 1 1 8:=by
 rw [Mo1.mh (q:=pz oth) (k:=oth+1) t,Mh.hear (au6 hne) (by omega) (by omega) (aq6 ht)];rfl
theorem cj4 (h:Bo O w0 w N 2 (two (hs0 x (d 0) (room+1) (sp+1000) 0 1) (hs0 x (d 1) (room+1) (sp+1000) 1 0)) []) (h1:1<=x) (hx:x=(t:Int)):
  Calls prog 74 #[.pointer (some ⟨N,0,none⟩)] w fun e w'=>e= .returned (.tuple #[])/\
   Bo O w0 w' N 2 (two (hv 0 1 x t (d 0) room sp false (1+3) 1) (hv 1 0 x t (d 1) room sp false (1+3) 1)) []:=by
 have hx0:x≠0:=by omega
 refine (as6 (P:=h1P x d room sp) (Q:=h1Q x t d room sp) h ⟨rfl,rfl⟩ (fun k st os wr hk hP hB=>?_) (fun st os hP=>?_) (fun j st os hQ=>?_) (fun j st os wr hQ hB=>?_)).mono ?_
 ·have:k=0\/k=1:=by omega
  rcases this with rfl|rfl
  ·obtain ⟨rfl,rfl⟩:=hP
   refine (al7 hB (i:=0) (by omega) (room:=room) (m:=1) rfl (ad3 (by omega)) (by decide) (by omega) Mo1.first (by omega) (Mr.advN_le1 _)).mono ?_;rintro e w' ⟨rfl,h2⟩;rw [ap8 (ab2 (by omega)) (by omega) (by omega) (by omega),ak2 (by omega) hx0] at h2;exact ⟨0,_,_,rfl,⟨rfl,rfl⟩,h2.two rfl rfl⟩
  ·obtain ⟨rfl,rfl⟩:=hP
   refine (al7 hB (i:=1) (by omega) (room:=room) (m:=1) rfl (ad3 (by omega)) (by decide) (by omega) Mo1.first (by omega) (Mr.advN_le1 _)).mono ?_;rintro e w' ⟨rfl,h2⟩;rw [ap8 (ab2 (by omega)) (by omega) (by omega) (by omega),ak2 (by omega) hx0] at h2;exact ⟨0,_,_,rfl,⟨rfl,rfl⟩,h2.two rfl rfl⟩
 ·obtain ⟨rfl,rfl⟩:=hP
  exact ⟨rfl,rfl⟩
 ·match j,hQ with
  |0,hQ=>rw [hQ.2]; rfl
  |1,hQ=>rw [hQ.2]; rfl
  |2,hQ=>obtain ⟨-,rfl⟩:=hQ; rfl
 ·match j,hQ with
  |1,hQ=>
   obtain ⟨rfl,rfl⟩:=hQ;refine (ac3 hB (j:=0) (by simp) (fr:=0) (i:=1) rfl (by omega) (sp:=sp) rfl (ab2 (by omega)) (ad3 (by omega)) (by omega) (by omega) (by omega) (by omega) (by show cAt (cL 0 x) 0≠0; simpa [cAt,cL] using hx0)).mono ?_;rintro e w' ⟨rfl,h3⟩;rw [show (Mo1 (pz 1) (d 1) (1+1) (cL 0 x) 1 1 1 8).hear 0 (pz 0).a (pz 0).n 1 1 0=_ from cj9 t (own:=1) (oth:=0) (by omega) (by omega)] at h3;exact ⟨0,_,_,rfl,⟨rfl,rfl⟩,h3.two rfl rfl⟩
  |0,hQ=>
   obtain ⟨rfl,rfl⟩:=hQ;refine (ac3 hB (j:=0) (by simp) (fr:=1) (i:=0) rfl (by omega) (sp:=sp) rfl (ab2 (by omega)) (ad3 (by omega)) (by omega) (by omega) (by omega) (by omega) (by show cAt (cL 1 x) 1≠0; simpa [cAt,cL] using hx0)).mono ?_;rintro e w' ⟨rfl,h3⟩;rw [show (Mo1 (pz 0) (d 0) (0+1) (cL 1 x) 1 1 1 8).hear 1 (pz 1).a (pz 1).n 2 1 0=_ from cj9 t (own:=0) (oth:=1) (by omega) (by omega)] at h3;exact ⟨0,_,_,rfl,⟨rfl,rfl⟩,h3.two rfl rfl⟩
 ·rintro e w' ⟨rfl,st',os',⟨rfl,rfl⟩,h2⟩
  exact ⟨rfl,h2⟩
end
end
end Go.Proofs.YtpljkpnebibbaaaGreatDoor
