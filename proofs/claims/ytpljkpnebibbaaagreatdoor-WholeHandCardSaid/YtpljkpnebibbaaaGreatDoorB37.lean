import Derived.Test.YtpljkpnebibbaaaGreatDoorB36
import Derived.Test.YtpljkpnebibbaaaGreatDoorB32
set_option maxHeartbeats 8000000
namespace Go.Proofs.YtpljkpnebibbaaaGreatDoor
section
open Go.RowKit Go.Maps Rm Fm Sb
section
variable {p q:Pk} {d id fr k t room sp:Nat} {c cc:Nat->Int} {now e x since:Int} {seq lease:Nat} {b:Bool} {z:Dz}
theorem Fibd.run {d room sp:Nat} {M:Mr} {c:Nat->Int} {z:Dz} {fe:List Fe} {N n:Nat} (hf:Few M N n) (hn:2*N+n<20) (h:∀ rs,Subj M rs->rs.flatMap M.entry=fe):Fibd ⟨d,some ⟨room,sp,M⟩,c,z⟩ fe:=⟨fun h=>(by cases h),fun d' room' sp' M' c' z' e=>by
 injection e with e1 e2 e3 e4;injection e2 with e2;injection e2 with e5 e6 e7;subst e7;exact ⟨⟨N,n,hf,hn⟩,h⟩⟩
theorem Mh.fibd (hp:p.ok) (hq:q.ok) (hk1:k<4294967296) (hpq:q≠p) (hk:fr<8) (hc:c fr=x) (h1:1<=x) (h2:x<=1000) (ht:0<t):
  (ltP p q->Fibd ⟨d,some ⟨room,sp,Mh p d id c (flb b q k t) (way1 q ⟨fr,k,1,0,e⟩) now seq since lease⟩,cc,z⟩ [⟨p.a,p.n,1,0⟩,⟨q.a,q.n,2,fr⟩])/\
  (ltP q p->Fibd ⟨d,some ⟨room,sp,Mh p d id c (flb b q k t) (way1 q ⟨fr,k,1,0,e⟩) now seq since lease⟩,cc,z⟩ [⟨q.a,q.n,2,fr⟩,⟨p.a,p.n,1,0⟩]):=by
 have hfr:0<=(fr:Int)/\(fr:Int)<=8:=by omega
 obtain ⟨hP,-⟩:=Mh.pick (p:=p) (q:=q) (d:=d) (id:=id) (now:=now) (k:=k) (s:=1) (m:=0) (e:=e) (seq:=seq) (since:=since) (lease:=lease) (fl:=flb b q k t) hk hc h1 h2 (by omega) (aq6 ht);have e1:=Mr.entry_own (M:=Mh p d id c (flb b q k t) (way1 q ⟨fr,k,1,0,e⟩) now seq since lease) (e:=⟨p.a,p.n,true⟩) Mh.owns;have e2:=Mr.entry_way (M:=Mh p d id c (flb b q k t) (way1 q ⟨fr,k,1,0,e⟩) now seq since lease) (e:=⟨q.a,q.n,b⟩) (Mh.owns_no hpq) hP;refine ⟨fun hlt=> .run Mh.few (by omega) fun rs h=>?_,fun hlt=> .run Mh.few (by omega) fun rs h=>?_⟩
 ·rw [(Mh.subj hp hq hk1 hpq (r:=⟨fr,k,1,0,e⟩) hfr h).1 hlt,List.flatMap_cons,List.flatMap_cons,e1,e2]
  rfl
 ·rw [(Mh.subj hp hq hk1 hpq (r:=⟨fr,k,1,0,e⟩) hfr h).2 hlt,List.flatMap_cons,List.flatMap_cons,e1,e2]
  rfl
theorem Mh.dist_own {fl:Ky->Option (Nat×Nat)} {f:Ways}:(Mh p d id c fl f now seq since lease).dist p.a p.n=(0,true):=by
 unfold Mr.dist;rw [if_pos Mh.owns]
theorem Mh.dist_way (hpq:q≠p) (hk:fr<8) (hc:c fr=x) (h1:1<=x) (h2:x<=1000) (ht:0<t):(Mh p d id c (flb b q k t) (way1 q ⟨fr,k,1,0,e⟩) now seq since lease).dist q.a q.n=(x,true):=by
 obtain ⟨hP,hF⟩:=Mh.pick (p:=p) (q:=q) (d:=d) (id:=id) (now:=now) (k:=k) (s:=1) (m:=0) (e:=e) (seq:=seq) (since:=since) (lease:=lease) (fl:=flb b q k t) hk hc h1 h2 (by omega) (aq6 ht);unfold Mr.dist;rw [if_neg (by rw [Mh.owns_no hpq]; decide),hP];show (far ((0:Nat):Int) (cAt c (fr:Int)),true)=_;rw [hF];simp
theorem Mh.pick_none {fl:Ky->Option (Nat×Nat)} (a:Nat) (n:Int):(Mh p d id c fl fN now seq since lease).pick a n=none:=by
 have h:∀ k,(Mh p d id c fl fN now seq since lease).reachF a n k=none:=fun k=>rfl
 unfold Mr.pick Mr.openL;rw [show (List.range 9).filterMap ((Mh p d id c fl fN now seq since lease).reachF a n)=[] from by simp [h]];rfl
theorem Mh.dist_none {fl:Ky->Option (Nat×Nat)} (hpq:q≠p):(Mh p d id c fl fN now seq since lease).dist q.a q.n=(0,false):=by
 unfold Mr.dist;rw [if_neg (by rw [Mh.owns_no hpq]; decide),Mh.pick_none]
theorem Mh.few0:Few (Mh p d id c (flb b q k t) fN now seq since lease) 2 0:=⟨[p],[⟨q.a,q.n,k⟩],[],by simp,by simp,(fun x h=>by
 by_cases e:x=p
 ·simp [e]
 ·simp [Mh,e] at h),(fun x h=>by
 have h':(flb b q k t x).isSome=true:=h;unfold flb at h';by_cases hz:b=true/\x=⟨q.a,q.n,k⟩
 ·rw [hz.2]; simp
 ·rw [if_neg hz] at h'; cases h'),(fun x h=>by cases h)⟩
theorem Mh.fibd0 (hp:p.ok) (hq:q.ok) (hk1:k<4294967296) (hpq:q≠p) (hlt:ltP p q):Fibd ⟨d,some ⟨room,sp,Mh p d id c (flb b q k t) fN now seq since lease⟩,cc,z⟩ (⟨p.a,p.n,1,0⟩::if b=true then [⟨q.a,q.n,3,0⟩] else []):=by
 have hA:=fun x=>Mh.ans (p:=p) (q:=q) (d:=d) (id:=id) (c:=c) (f:=fN) (now:=now) (seq:=seq) (since:=since) (lease:=lease) (b:=b) (t:=t) hp hq hk1 x
 have hW:∀ x,¬ (Mh p d id c (flb b q k t) fN now seq since lease).ways x:=fun x ⟨_,_,h⟩=>by cases h
 have e1:=Mr.entry_own (M:=Mh p d id c (flb b q k t) fN now seq since lease) (e:=⟨p.a,p.n,true⟩) Mh.owns;have e2:=Mr.entry_hole (M:=Mh p d id c (flb b q k t) fN now seq since lease) (e:=⟨q.a,q.n,true⟩) (Mh.owns_no hpq) (Mh.pick_none _ _) rfl;refine .run Mh.few0 (by omega) fun rs h=>?_
 cases b with
 |true=>
  have hr:=Subj.two h (x:=⟨p.a,p.n,true⟩) (y:=⟨q.a,q.n,true⟩) hlt (.inl ⟨(hA p).2 (.inl rfl),rfl⟩) (.inl ⟨(hA q).2 (.inr ⟨rfl,rfl⟩),rfl⟩) fun x hx=>by
   rcases hx with hx|hx
   ·rcases (hA x).1 hx with e|⟨-,e⟩
    ·exact .inl e
    ·exact .inr e
   ·exact absurd hx (hW x)
  rw [hr,List.flatMap_cons,List.flatMap_cons,e1,e2];rfl
 |false=>
  have hr:rs=[⟨p.a,p.n,true⟩]:=by
   refine h.unique ⟨by simp,fun y=>⟨fun hy=>?_,fun hy=>?_⟩⟩
   ·obtain rfl:=List.mem_singleton.1 hy
    exact .inl ⟨(hA p).2 (.inl rfl),rfl⟩
   ·rcases hy with ⟨h1,h2⟩|⟨-,h2,-⟩
    ·rcases (hA _).1 h1 with e|⟨e,-⟩
     ·obtain ⟨ya,yn,yo⟩:=y
      simp only at h2;subst h2;have e':(⟨ya,yn⟩:Pk)=p:=e;subst e';simp
     ·cases e
    ·exact absurd h2 (hW _)
  rw [hr,List.flatMap_cons,e1];rfl
end
def here (i:Nat):ByteArray:=if i=0 then ⟨#[49,48,46,48,46,48,46,48,47,49,54,32,104,101,114,101,32,97,116,32,48]⟩ else ⟨#[49,48,46,49,46,48,46,48,47,49,54,32,104,101,114,101,32,97,116,32,48]⟩
def via (i:Nat):ByteArray:=if i=0 then ⟨#[49,48,46,48,46,48,46,48,47,49,54,32,118,105,97,32,48]⟩ else ⟨#[49,48,46,49,46,48,46,48,47,49,54,32,118,105,97,32,49]⟩
def atS:ByteArray:=⟨#[32,97,116,32]⟩
def dropS:ByteArray:=⟨#[49,48,46,49,46,48,46,48,47,49,54,32,100,114,111,112]⟩
def headS (i s:Nat):ByteArray:=if i=0 then (if s=1 then ⟨#[114,111,117,116,101,114,32,48,32,115,101,113,32,49,32,108,101,97,115,101,32,56]⟩ else ⟨#[114,111,117,116,101,114,32,48,32,115,101,113,32,48,32,108,101,97,115,101,32,56]⟩)
 else ⟨#[114,111,117,116,101,114,32,49,32,115,101,113,32,49,32,108,101,97,115,101,32,56]⟩
theorem av7 {i:Nat} (hi:i<2):lineS [enS (pz i).a (pz i).n 1 0,atA,nS 0]=here i:=by
 have:i=0\/i=1:=by omega
 rcases this with rfl|rfl<;>exact ag0 (by decide+kernel)
theorem cp3 {i:Nat} (hi:i<2):enS (pz i).a (pz i).n 2 i=via i:=by
 have:i=0\/i=1:=by omega
 rcases this with rfl|rfl<;>exact ag0 (by decide+kernel)
theorem cl4:lineS [enS (pz 1).a (pz 1).n 3 0]=dropS:=ag0 (by decide+kernel)
theorem bp7 {i:Nat} (hi:i<2) (x:Int):lineS [enS (pz i).a (pz i).n 2 i,atA,nS x]=via i++(atS++nS x):=by
 rw [cp3 hi];apply ag0;simp [lineS,Lib.join,List.intercalate,ByteArray.data_append,atA,atS]
theorem av8 {i s:Nat} (h:i=0/\s<=1\/i=1/\s=1):lineS [rtA,nS i,sqA,nS s,leA,nS 8]=headS i s:=by
 have:i=0/\s=0\/i=0/\s=1\/i=1/\s=1:=by omega
 rcases this with ⟨rfl,rfl⟩|⟨rfl,rfl⟩|⟨rfl,rfl⟩<;>exact ag0 (by decide+kernel)
section
variable {x:Int} {t d room sp:Nat} {b:Bool} {e now:Int}
def hE0:List Fe:=[⟨(pz 0).a,(pz 0).n,1,0⟩,⟨(pz 1).a,(pz 1).n,2,(1:Nat)⟩]
def hE1:List Fe:=[⟨(pz 0).a,(pz 0).n,2,(0:Nat)⟩,⟨(pz 1).a,(pz 1).n,1,0⟩]
def hEc (b:Bool):List Fe:=⟨(pz 0).a,(pz 0).n,1,0⟩::if b=true then [⟨(pz 1).a,(pz 1).n,3,0⟩] else []
def hL0 (x:Int):List ByteArray:=[headS 0 1,here 0,via 1++(atS++nS x)]
def hL1 (x:Int):List ByteArray:=[headS 1 1,via 0++(atS++nS x),here 1]
def hLc (b:Bool):List ByteArray:=headS 0 0::here 0::if b=true then [dropS] else []
theorem ct7 (h1:1<=x) (h2:x<=1000) (ht:0<t):Fibd (hv 0 1 x t d room sp b e now) hE0/\Mld (hv 0 1 x t d room sp b e now) 0 hE0 (hL0 x):=by
 refine ⟨(Mh.fibd (ad3 (by omega)) (ad3 (by omega)) (by omega) (au6 (by omega)) (by omega) rfl h1 h2 ht).1 (cf1 (by omega)),.inr ⟨_,_,_,_,_,_,rfl,?_,by simp [hE0],fun y hy=>?_,by show 1<4294967296; omega,by show 8<4294967296; omega⟩⟩
 ·have d1:=Mh.dist_own (p:=pz 0) (d:=d) (id:=0+1) (c:=cL 1 x) (now:=now) (seq:=1) (since:=1) (lease:=8) (fl:=flb b (pz 1) (1+1) t) (f:=way1 (pz 1) ⟨(1:Nat),1+1,1,0,e⟩)
  have d2:=Mh.dist_way (p:=pz 0) (q:=pz 1) (d:=d) (id:=0+1) (c:=cL 1 x) (now:=now) (seq:=1) (since:=1) (lease:=8) (b:=b) (k:=1+1) (fr:=1) (e:=e) (au6 (by omega)) (by omega) rfl h1 h2 ht;unfold mLines hE0 hL0 headL feL feS;simp only [List.map_cons,List.map_nil];rw [d1,d2,if_pos rfl,if_pos rfl];have a1:=av8 (i:=0) (s:=1) (.inl ⟨rfl,Nat.le_refl _⟩);have a2:=av7 (i:=0) (by omega);have a3:=bp7 (i:=1) (by omega) x;rw [<- a1,<- a2,<- a3];rfl
 ·simp only [hE0,List.mem_cons,List.not_mem_nil,or_false] at hy
  rcases hy with rfl|rfl
  ·exact ⟨ad3 (by omega),by decide,by decide⟩
  ·exact ⟨ad3 (by omega),by decide,by decide⟩
theorem bs7 (h1:1<=x) (h2:x<=1000) (ht:0<t):Fibd (hv 1 0 x t d room sp b e now) hE1/\Mld (hv 1 0 x t d room sp b e now) 1 hE1 (hL1 x):=by
 refine ⟨(Mh.fibd (ad3 (by omega)) (ad3 (by omega)) (by omega) (au6 (by omega)) (by omega) rfl h1 h2 ht).2 (cf1 (by omega)),.inr ⟨_,_,_,_,_,_,rfl,?_,by simp [hE1],fun y hy=>?_,by show 1<4294967296; omega,by show 8<4294967296; omega⟩⟩
 ·have d1:=Mh.dist_own (p:=pz 1) (d:=d) (id:=1+1) (c:=cL 0 x) (now:=now) (seq:=1) (since:=1) (lease:=8) (fl:=flb b (pz 0) (0+1) t) (f:=way1 (pz 0) ⟨(0:Nat),0+1,1,0,e⟩)
  have d2:=Mh.dist_way (p:=pz 1) (q:=pz 0) (d:=d) (id:=1+1) (c:=cL 0 x) (now:=now) (seq:=1) (since:=1) (lease:=8) (b:=b) (k:=0+1) (fr:=0) (e:=e) (au6 (by omega)) (by omega) rfl h1 h2 ht;unfold mLines hE1 hL1 headL feL feS;simp only [List.map_cons,List.map_nil];rw [d1,d2,if_pos rfl,if_pos rfl];have a1:=av8 (i:=1) (s:=1) (.inr ⟨rfl,rfl⟩);have a2:=av7 (i:=1) (by omega);have a3:=bp7 (i:=0) (by omega) x;rw [<- a1,<- a2,<- a3];rfl
 ·simp only [hE1,List.mem_cons,List.not_mem_nil,or_false] at hy
  rcases hy with rfl|rfl
  ·exact ⟨ad3 (by omega),by decide,by decide⟩
  ·exact ⟨ad3 (by omega),by decide,by decide⟩
def hc0 (x:Int) (t d room:Nat) (b:Bool) (z:Dz):Sv:=⟨d,some ⟨room,90000,Mh (pz 0) d 1 (cL 1 x) (flb b (pz 1) 2 t) fN 0 0 0 8⟩,cL 1 x,z⟩
theorem dd6 {z:Dz}:Fibd (hc0 x t d room b z) (hEc b)/\Mld (hc0 x t d room b z) 0 (hEc b) (hLc b):=by
 refine ⟨Mh.fibd0 (ad3 (by omega)) (ad3 (by omega)) (by omega) (au6 (by omega)) (cf1 (by omega)),.inr ⟨_,_,_,_,_,_,rfl,?_,by cases b<;>simp [hEc],fun y hy=>?_,by show 0<4294967296; omega,by show 8<4294967296; omega⟩⟩
 ·have d1:=Mh.dist_own (p:=pz 0) (d:=d) (id:=1) (c:=cL 1 x) (now:=0) (seq:=0) (since:=0) (lease:=8) (fl:=flb b (pz 1) 2 t) (f:=fN)
  have d2:=Mh.dist_none (p:=pz 0) (q:=pz 1) (d:=d) (id:=1) (c:=cL 1 x) (now:=0) (seq:=0) (since:=0) (lease:=8) (fl:=flb b (pz 1) 2 t) (au6 (by omega));have a1:=av8 (i:=0) (s:=0) (.inl ⟨rfl,by omega⟩);have a2:=av7 (i:=0) (by omega);have a3:=cl4
  cases b
  ·unfold mLines hEc hLc headL feL feS
   simp only [List.map_cons];rw [d1,if_pos rfl,<- a1,<- a2];rfl
  ·unfold mLines hEc hLc headL feL feS
   simp only [List.map_cons,if_pos];rw [d1,d2,if_pos rfl,if_neg (by decide),<- a1,<- a2,<- a3];rfl
 ·unfold hEc at hy
  rcases List.mem_cons.1 hy with rfl|hy
  ·exact ⟨ad3 (by omega),by decide,by decide⟩
  ·cases b
   ·cases hy
   ·obtain rfl:=List.mem_singleton.1 hy
    exact ⟨ad3 (by omega),by decide,by decide⟩
end
end
end Go.Proofs.YtpljkpnebibbaaaGreatDoor
