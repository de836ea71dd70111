import Derived.Test.YtpljkpnebibbaaaGreatDoorB31
set_option maxHeartbeats 8000000
namespace Go.Proofs.YtpljkpnebibbaaaGreatDoor
open _root_.Go.Proofs.Tryz (prog)
section
open Go.RowKit Go.Maps Rm Fm Sb
def pcat:Nat->List T.Tm.Up->List Nat
 |_,[]=>[]
 |id,u::r=>T.Tm.parts u id++pcat u.id r
theorem br0:∀ (us:List T.Tm.Up) (id:Nat),(∀ u∈us,T.Tm.right u=true)->(pcat id us).length<=19*us.length
 |[],_,_=>by simp [pcat]
 |u::r,id,h=>by
  have h1:=T.Tm.parts_le (h u (by simp)) id;have h2:=br0 r u.id (fun x hx=>h x (by simp [hx]));simp only [pcat,List.length_append,List.length_cons];omega
theorem bf8:∀ (us:List T.Tm.Up) (cur:List Nat) (id:Nat),(∀ u∈us,T.Tm.right u=true)->cur.length+19*us.length+4<=1024->T.Tm.pages cur id us=if cur++pcat id us=[] then [] else [cur++pcat id us]
 |[],cur,id,_,_=>by
  rw [T.Tm.pages];simp [pcat]
 |u::r,cur,id,h,hl=>by
  have h1:=T.Tm.parts_le (h u (by simp)) id;simp only [List.length_cons] at hl;rw [T.pages_on (h u (by simp)) (by omega),bf8 r _ _ (fun x hx=>h x (by simp [hx])) (by rw [List.length_append]; omega),List.append_assoc];rfl
def pgs (us:List T.Tm.Up):List Nat:=T.Tm.page (pcat 0 us)
theorem am9 {us:List T.Tm.Up} (h:∀ u∈us,T.Tm.right u=true) (hl:us.length<=50) (hne:us≠[]):T.Tm.encode us=[pgs us]:=by
 have hc:¬ ([]++pcat 0 us=[]):=by
  cases us with
  |nil=>exact absurd rfl hne
  |cons u r=>
   have:=T.Tm.parts_ne u 0;simp [pcat,this]
 unfold T.Tm.encode;rw [bf8 us [] 0 h (by simp; omega),if_neg hc];rfl
theorem be4:∀ (us:List T.Tm.Up) (id:Nat),(∀ u∈us,T.Tm.right u=true/\u.Fits)->T.Tm.walk id (pcat id us)=some us
 |[],id,_=>by rw [pcat,T.Tm.walk_nil]
 |u::r,id,h=>by
  rw [pcat,T.Tm.walk_parts (h u (by simp)).1 (h u (by simp)).2,be4 r u.id (fun x hx=>h x (by simp [hx]))];rfl
theorem bn4 {us:List T.Tm.Up} (h:∀ u∈us,T.Tm.right u=true/\u.Fits) (hl:us.length<=50):T.Tm.decode (pgs us)=some us:=by
 have h1:=br0 us 0 (fun u hu=>(h u hu).1);unfold pgs;rw [T.Tm.decode_page (by omega),be4 us 0 h]
theorem cq7 {us:List T.Tm.Up} (h:∀ u∈us,T.Tm.right u=true) (hl:us.length<=50) (hne:us≠[]):4<(pgs us).length/\(pgs us).length<=1024/\∀ c∈pgs us,c<256:=by
 have h:=T.Tm.encode_fine us (pgs us) (by rw [am9 h hl hne]; simp);exact ⟨h.1,h.2.1,h.2.2.1⟩
section
variable {O:Nat->Prop} {w0 w:World} {N n:Nat} {st:Nat->Sv} {os:List Dg}
theorem al9 (h:Bo O w0 w N n st os) {j:Nat} (hj:j<os.length) {fr i:Nat} {us:List T.Tm.Up} (ho:os[j]=(fr,i,pgs us)) (hi:i<n) {d room sp:Nat} {M:Mr} {c:Nat->Int} {z:Dz} (hs:st i=⟨d,some ⟨room,sp+1000,M⟩,c,z⟩)
  (hr:∀ u∈us,T.Tm.right u=true/\u.Fits) (hl:us.length<=50) (hne:us≠[]) (hc:cAt M.c fr≠0):
  Calls prog 71 #[.pointer (some ⟨N,0,none⟩),.int .i64 j,.int .i64 1024] w fun e w'=>e= .returned (.int .i64 0)/\Bo O w0 w' N n (sets st i ⟨d,some ⟨room,sp,M.hears fr us⟩,c,z⟩) (os.eraseIdx j):=by
 have hf:=cq7 (fun u hu=>(hr u hu).1) hl hne;have hd:=bn4 hr hl;have hD:=az1 h hj ho hi hs (most:=1024) (m:=(pgs us).length) (by omega) hf.2.2 (by omega) (fun us' e=>by
  rw [List.take_length,hd] at e
  cases e;omega)
 rw [List.take_length] at hD;have e:M.receive (fr:Int) (pgs us)=M.hears fr us:=by
  unfold Mr.receive;rw [if_neg hc,hd];rfl
 rw [e] at hD;exact hD
end
theorem Subj.two {M:Mr} {rs:List En} (h:Subj M rs) {x y:En} (hlt:ltP (En.pk x) (En.pk y)) (hx:M.ans (En.pk x)/\x.on=true\/¬ M.ans (En.pk x)/\M.ways (En.pk x)/\x.on=false) (hy:M.ans (En.pk y)/\y.on=true\/¬ M.ans (En.pk y)/\M.ways (En.pk y)/\y.on=false)
  (hall:∀ p,M.ans p\/M.ways p->p=En.pk x\/p=En.pk y):rs=[x,y]:=by
 have same:∀ (e z:En),En.pk e=En.pk z->(M.ans (En.pk e)/\e.on=true\/¬ M.ans (En.pk e)/\M.ways (En.pk e)/\e.on=false)->(M.ans (En.pk z)/\z.on=true\/¬ M.ans (En.pk z)/\M.ways (En.pk z)/\z.on=false)->e=z:=fun e z hp h1 h2=>by
  have ho:e.on=z.on:=by
   rw [<- hp] at h2;rcases h1 with ⟨a,b⟩|⟨a,-,b⟩<;>rcases h2 with ⟨c,d⟩|⟨c,-,d⟩
   ·rw [b,d]
   ·exact absurd a c
   ·exact absurd c a
   ·rw [b,d]
  obtain ⟨ea,en,eo⟩:=e;obtain ⟨za,zn,zo⟩:=z;unfold En.pk at hp;injection hp with p1 p2;simp only at p1 p2 ho;rw [p1,p2,ho]
 refine h.unique ⟨by simp [hlt],fun e=>⟨fun he=>?_,fun he=>?_⟩⟩
 ·simp only [List.mem_cons,List.not_mem_nil,or_false] at he
  rcases he with rfl|rfl
  ·exact hx
  ·exact hy
 ·have hp:M.ans (En.pk e)\/M.ways (En.pk e):=by
   rcases he with ⟨a,-⟩|⟨-,b,-⟩
   ·exact .inl a
   ·exact .inr b
  rcases hall _ hp with e1|e1
  ·rw [same e x e1 he hx]; simp
  ·rw [same e y e1 he hy]; simp
def Mh (p:Pk) (d id:Nat) (c:Nat->Int) (fl:Ky->Option (Nat×Nat)) (f:Ways) (now:Int) (seq:Nat) (since:Int) (lease:Nat):Mr:=⟨id,⟨lease,fun z=>if z=p then some true else none,fl⟩,f,c,now,seq,since,d⟩
def flb (b:Bool) (q:Pk) (k t:Nat):Ky->Option (Nat×Nat):=fun z=>if b=true/\z=⟨q.a,q.n,k⟩ then some (1,t) else none
section
variable {p q:Pk} {d id fr k t s m:Nat} {c:Nat->Int} {now e:Int} {seq:Nat} {since:Int} {lease:Nat} {b:Bool} {f:Ways} {fl:Ky->Option (Nat×Nat)}
theorem Mo1.mh (t:Nat):Mo1 p d id c now seq since lease=Mh p d id c (flb false q k t) (fun _=>none) now seq since lease:=by
 unfold Mo1 Mh;congr 2
theorem ck3:flb b q k t ⟨q.a,q.n,k⟩=if b=true then some (1,t) else none:=by
 unfold flb
 cases b<;>simp
theorem aq6 (h:m<t):fea (flb b q k t ⟨q.a,q.n,k⟩) 1 m=true:=by
 rw [ck3]
 cases b
 ·simp [fea,bet]
 ·simp only [fea,bet,dcmp,cmpI,if_pos]
  rw [Bool.or_eq_true];right;simp;omega
theorem Mh.owns:(Mh p d id c fl f now seq since lease).owns ⟨p.a,p.n⟩=true:=by unfold Mr.owns Mh; simp
theorem Mh.owns_no (h:q≠p):(Mh p d id c fl f now seq since lease).owns ⟨q.a,q.n⟩=false:=by
 unfold Mr.owns;show ((if q=p then some true else none):Option Bool).getD false=false;rw [if_neg h];rfl
theorem Mh.hear_own:(Mh p d id c fl f now seq since lease).hear fr p.a p.n k s m=Mh p d id c fl f now seq since lease:=by
 unfold Mr.hear;exact if_pos (.inl Mh.owns)
theorem Mh.hear (hq:q≠p) (hk:k≠id) (hm:m≠65535) (hf:fea (fl ⟨q.a,q.n,k⟩) s m=true):
  (Mh p d id c fl f now seq since lease).hear fr q.a q.n k s m=Mh p d id c fl (putR f ⟨q.a,q.n,fr⟩ ⟨fr,k,s,m,now+3⟩) now seq since lease:=by
 unfold Mr.hear;rw [if_neg (by rw [Mh.owns_no hq]; exact fun e=>e.elim (fun x=>Bool.noConfusion x) hk),if_neg hm];exact if_pos hf
theorem bp6 {e e':Int}:putR (way1 q ⟨fr,k,s,m,e⟩) ⟨q.a,q.n,fr⟩ ⟨fr,k,s,m,e'⟩=way1 q ⟨fr,k,s,m,e'⟩:=by
 funext z;show (if z=_ then _ else way1 _ _ z)=way1 _ _ z;rw [ab7,ab7];by_cases h:z=⟨q.a,q.n,fr⟩
 ·rw [if_pos h]; exact (if_pos h).symm
 ·rw [if_neg h]; exact (if_neg h).trans (if_neg h).symm
theorem Mh.pick {z:Int} (hk:fr<8) (hc:c fr=z) (h1:1<=z) (h2:z<=1000) (hm:m<=8000) (hf:fea (fl ⟨q.a,q.n,k⟩) s m=true):
  (Mh p d id c fl (way1 q ⟨fr,k,s,m,e⟩) now seq since lease).pick q.a q.n=some ⟨fr,k,s,m,e⟩/\far (m:Int) (cAt c (fr:Int))=(m:Int)+z:=by
 have hcA:cAt c (fr:Int)=z:=by
  unfold cAt;rw [if_neg (by omega)];simpa using hc
 have hfar:far (m:Int) z=(m:Int)+z:=by
  unfold far clampCost
  (repeat' split)<;>omega
 refine ⟨?_,by rw [hcA,hfar]⟩;have hr:(Mh p d id c fl (way1 q ⟨fr,k,s,m,e⟩) now seq since lease).reachF q.a q.n fr=some (⟨fr,k,s,m,e⟩,(m:Int)+z):=by
  unfold Mr.reachF;rw [show (Mh p d id c fl (way1 q ⟨fr,k,s,m,e⟩) now seq since lease).f ⟨q.a,q.n,fr⟩=some ⟨fr,k,s,m,e⟩ from by show way1 q _ _=_; rw [ab7,if_pos rfl]];simp only;rw [show (Mh p d id c fl (way1 q ⟨fr,k,s,m,e⟩) now seq since lease).c=c from rfl,hcA,hfar,if_neg];rintro (e|e|e)
  ·omega
  ·exact e hf
  ·omega
 exact ba9 (by omega) (fun j hj=>by
  show way1 q _ _=_;rw [ab7,if_neg];intro hz;injection hz with h1 h2 h3;have h4:(j:Int)=(fr:Int):=h3;omega) hr
theorem Mh.ans (hp:p.ok) (hq:q.ok) (hk:k<4294967296) (r:Pk):(Mh p d id c (flb b q k t) f now seq since lease).ans r↔r=p\/b=true/\r=q:=by
 constructor
 ·rintro (⟨-,h⟩|⟨i,-,h⟩)
  ·by_cases e:r=p
   ·exact .inl e
   ·simp [Mh,e] at h
  ·have h':(flb b q k t ⟨r.a,r.n,i⟩).isSome=true:=h
   unfold flb at h';by_cases hz:b=true/\(⟨r.a,r.n,i⟩:Ky)=⟨q.a,q.n,k⟩
   ·obtain ⟨hb,hz⟩:=hz
    injection hz with h1 h2 h3;refine .inr ⟨hb,?_⟩
    cases r
    cases q;simp only at h1 h2;rw [h1,h2]
   ·rw [if_neg hz] at h'
    cases h'
 ·rintro (rfl|⟨hb,rfl⟩)
  ·exact .inl ⟨hp,by simp [Mh]⟩
  ·refine .inr ⟨k,⟨hq.1,hq.2,hk⟩,?_⟩
   show (flb b r k t ⟨r.a,r.n,k⟩).isSome=true;rw [ck3,if_pos hb];rfl
theorem Mh.ways (hq:q.ok) {r:Rt} (hr:0<=r.fr/\r.fr<=8) (x:Pk):(Mh p d id c fl (way1 q r) now seq since lease).ways x↔x=q:=by
 constructor
 ·rintro ⟨j,-,hf⟩
  have hf':(way1 q r ⟨x.a,x.n,j⟩).isSome=true:=hf;rw [ab7] at hf';by_cases hz:(⟨x.a,x.n,j⟩:Rk)=⟨q.a,q.n,r.fr⟩
  ·injection hz with h1 h2 h3
   cases x
   cases q;simp only at h1 h2;rw [h1,h2]
  ·rw [if_neg hz] at hf'
   cases hf'
 ·rintro rfl
  refine ⟨r.fr,⟨hq.1,hq.2,by show (-9223372036854775808:Int)<=r.fr; omega,by show r.fr<=9223372036854775807; omega⟩,?_⟩;show (way1 x r ⟨x.a,x.n,r.fr⟩).isSome=true;rw [ab7,if_pos rfl];rfl
theorem Mh.subj (hp:p.ok) (hq:q.ok) (hk:k<4294967296) (hpq:q≠p) {r:Rt} (hr:0<=r.fr/\r.fr<=8) {rs:List En} (h:Subj (Mh p d id c (flb b q k t) (way1 q r) now seq since lease) rs):
  (ltP p q->rs=[⟨p.a,p.n,true⟩,⟨q.a,q.n,b⟩])/\(ltP q p->rs=[⟨q.a,q.n,b⟩,⟨p.a,p.n,true⟩]):=by
 have hA:=fun x=>Mh.ans (p:=p) (q:=q) (d:=d) (id:=id) (c:=c) (f:=way1 q r) (now:=now) (seq:=seq) (since:=since) (lease:=lease) (b:=b) (t:=t) hp hq hk x
 have hW:=fun x=>Mh.ways (p:=p) (q:=q) (d:=d) (id:=id) (c:=c) (fl:=flb b q k t) (now:=now) (seq:=seq) (since:=since) (lease:=lease) hq hr x
 have h1:(Mh p d id c (flb b q k t) (way1 q r) now seq since lease).ans p/\true=true:=⟨(hA p).2 (.inl rfl),rfl⟩;have h2:(Mh p d id c (flb b q k t) (way1 q r) now seq since lease).ans q/\b=true\/¬ (Mh p d id c (flb b q k t) (way1 q r) now seq since lease).ans q/\(Mh p d id c (flb b q k t) (way1 q r) now seq since lease).ways q/\b=false:=by
  cases b
  ·refine .inr ⟨fun x=>?_,(hW q).2 rfl,rfl⟩
   rcases (hA q).1 x with e|⟨e,-⟩
   ·exact hpq e
   ·cases e
  ·exact .inl ⟨(hA q).2 (.inr ⟨rfl,rfl⟩),rfl⟩
 have hall:∀ x,(Mh p d id c (flb b q k t) (way1 q r) now seq since lease).ans x\/(Mh p d id c (flb b q k t) (way1 q r) now seq since lease).ways x->x=p\/x=q:=fun x hx=>by
  rcases hx with hx|hx
  ·rcases (hA x).1 hx with e|⟨-,e⟩
   ·exact .inl e
   ·exact .inr e
  ·exact .inr ((hW x).1 hx)
 exact ⟨fun hlt=>Subj.two h (x:=⟨p.a,p.n,true⟩) (y:=⟨q.a,q.n,b⟩) hlt (.inl h1) h2 hall,fun hlt=>Subj.two h (x:=⟨q.a,q.n,b⟩) (y:=⟨p.a,p.n,true⟩) hlt h2 (.inl h1) fun x hx=>(hall x hx).symm⟩
theorem Mh.few {r:Rt}:Few (Mh p d id c (flb b q k t) (way1 q r) now seq since lease) 2 1:=⟨[p],[⟨q.a,q.n,k⟩],[⟨q.a,q.n,r.fr⟩],by simp,by simp,(fun x h=>by
 by_cases e:x=p
 ·simp [e]
 ·simp [Mh,e] at h),(fun x h=>by
 have h':(flb b q k t x).isSome=true:=h;unfold flb at h';by_cases hz:b=true/\x=⟨q.a,q.n,k⟩
 ·rw [hz.2]; simp
 ·rw [if_neg hz] at h'; cases h'),(fun x h=>by
 have h':(way1 q r x).isSome=true:=h;rw [ab7] at h';by_cases hz:x=⟨q.a,q.n,r.fr⟩
 ·rw [hz]; simp
 ·rw [if_neg hz] at h'; cases h')⟩
theorem Mh.good {r:Rt} (hp:Am.right q.a q.n=true) (h0:r.id≠0) (hs:r.seq<=1073741824):(Mh p d id c fl (way1 q r) now seq since lease).Good:=fun x r' h=>by
 have h':way1 q r x=some r':=h;rw [ab7] at h';by_cases hz:x=⟨q.a,q.n,r.fr⟩
 ·rw [if_pos hz] at h'
  injection h' with h';subst h' hz;exact ⟨rfl,hp,h0,hs⟩
 ·rw [if_neg hz] at h'; cases h'
theorem Mh.any (hp:p.ok):(Mh p d id c fl f now seq since lease).ownsAny:=⟨p,hp,by simp [Mh]⟩
theorem Mh.aged {r:Rt} (h:now+1<r.exp):(Mh p d id c fl (way1 q r) now seq since lease).aged=Mh p d id c fl (way1 q r) (now+1) seq since lease:=by
 unfold Mr.aged Mh;simp only [be2 h]
theorem Mh.next_big (h:seq≠0/\now - since<12):(Mh p d id c fl f now seq since lease).advance=Mh p d id c fl f now seq since lease:=by
 unfold Mr.advance;rw [if_pos (show ((Mh p d id c fl f now seq since lease).seq≠0/\(Mh p d id c fl f now seq since lease).now - (Mh p d id c fl f now seq since lease).since<12) from h)]
theorem Mh.advN (h:seq≠0/\now - since<12):(Mh p d id c fl f now seq since lease).advN=0:=by
 unfold Mr.advN;rw [if_pos (show ((Mh p d id c fl f now seq since lease).seq≠0/\(Mh p d id c fl f now seq since lease).now - (Mh p d id c fl f now seq since lease).since<12) from h)]
theorem Mh.ticks {r:Rt} (hp:p.ok) (h:now+1<r.exp) (hs:seq≠0/\now+1 - since<12) {M2:Mr} (ht:Ticks (Mh p d id c fl (way1 q r) now seq since lease) M2):M2=Mh p d id c fl (way1 q r) (now+1) seq since lease:=by
 rcases ht with ⟨-,rfl⟩|⟨x,-⟩
 ·rw [Mh.aged h,Mh.next_big hs]
 ·rw [Mh.aged h] at x
  exact absurd (Mh.any hp) x
theorem Mh.covered (ht:t<65535):(Mh p d id c (flb b q k t) f now seq since lease).covered q.a q.n k 1 t=Mh p d id c (flb true q k t) f now seq since lease:=by
 have hs:(Mh p d id c (flb b q k t) f now seq since lease).sm.floor ⟨q.a,q.n,k⟩=if b=true then some (1,t) else none:=ck3
 unfold Mr.covered;rw [hs]
 cases b
 ·have h:cov (if (false:Bool)=true then some (1,t) else none) 1 t=false:=by
   simp [cov,bet];omega
  rw [h,if_neg (by decide)];show Mh p d id c (fun z=>if z=⟨q.a,q.n,k⟩ then some (1,t) else flb false q k t z) f now seq since lease=_;congr 1;funext z;by_cases hz:z=⟨q.a,q.n,k⟩<;>simp [flb,hz]
 ·have h:cov (if (true:Bool)=true then some (1,t) else none) 1 t=true:=by
   simp [cov,bet,dcmp,cmpI]
  rw [h,if_pos rfl]
theorem Mh.tell {z:Int} (hpq:q≠p) (hs:seq≠0) (hk:fr<8) (hc:c fr=z) (h1:1<=z) (h2:z<=1000) (hz:z=(t:Int)):
  (Mh p d id c (flb b q k t) (way1 q ⟨fr,k,1,0,e⟩) now seq since lease).tellS [⟨p.a,p.n,true⟩,⟨q.a,q.n,b⟩]=([⟨p.a,p.n,id,seq,0⟩,⟨q.a,q.n,k,1,t⟩],Mh p d id c (flb true q k t) (way1 q ⟨fr,k,1,0,e⟩) now seq since lease)/\
  (Mh p d id c (flb b q k t) (way1 q ⟨fr,k,1,0,e⟩) now seq since lease).tellS [⟨q.a,q.n,b⟩,⟨p.a,p.n,true⟩]=([⟨q.a,q.n,k,1,t⟩,⟨p.a,p.n,id,seq,0⟩],Mh p d id c (flb true q k t) (way1 q ⟨fr,k,1,0,e⟩) now seq since lease):=by
 have ht:t<65535:=by omega
 have tw:∀ b:Bool,(Mh p d id c (flb b q k t) (way1 q ⟨fr,k,1,0,e⟩) now seq since lease).tell1 ⟨q.a,q.n,b⟩=([⟨q.a,q.n,k,1,t⟩],Mh p d id c (flb true q k t) (way1 q ⟨fr,k,1,0,e⟩) now seq since lease):=fun b=>by
  obtain ⟨hp,hf⟩:=Mh.pick (p:=p) (q:=q) (d:=d) (id:=id) (now:=now) (k:=k) (s:=1) (m:=0) (e:=e) (seq:=seq) (since:=since) (lease:=lease) (fl:=flb b q k t) hk hc h1 h2 (by omega) (aq6 (by omega));have h:=Mr.tell1_way (e:=⟨q.a,q.n,b⟩) (Mh.owns_no hpq) hp;have hn:(Mh p d id c (flb b q k t) (way1 q ⟨fr,k,1,0,e⟩) now seq since lease).farN ⟨fr,k,1,0,e⟩=t:=by
   unfold Mr.farN;show (far ((0:Nat):Int) (cAt c (fr:Int))).toNat=t;rw [hf,hz];simp
  rw [hn] at h;rw [h,Mh.covered ht]
 have tO:∀ b:Bool,(Mh p d id c (flb b q k t) (way1 q ⟨fr,k,1,0,e⟩) now seq since lease).tell1 ⟨p.a,p.n,true⟩=([⟨p.a,p.n,id,seq,0⟩],Mh p d id c (flb b q k t) (way1 q ⟨fr,k,1,0,e⟩) now seq since lease):=fun b=>by
  rw [Mr.tell1_own Mh.owns,if_neg (show ¬ (Mh p d id c (flb b q k t) (way1 q ⟨fr,k,1,0,e⟩) now seq since lease).seq=0 from hs)];rfl
 constructor
 ·simp only [Mr.tellS,tO b,tw b,List.append_nil,List.cons_append,List.nil_append]
 ·simp only [Mr.tellS,tw b,tO true,List.append_nil,List.cons_append,List.nil_append]
theorem Mh.need (x:Bool):(Mh p d id c (flb b q k t) f now seq since lease).needS [⟨p.a,p.n,true⟩,⟨q.a,q.n,x⟩]<=1/\(Mh p d id c (flb b q k t) f now seq since lease).needS [⟨q.a,q.n,x⟩,⟨p.a,p.n,true⟩]<=1:=by
 have o:∀ M:Mr,M.owns ⟨p.a,p.n⟩=true->M.need ⟨p.a,p.n,true⟩=0:=fun M h=>Mr.need_own h
 constructor
 ·show _+(_+0)<=1
  rw [o _ Mh.owns];have:=Mr.need_le (((Mh p d id c (flb b q k t) f now seq since lease).tell1 ⟨p.a,p.n,true⟩).2) ⟨q.a,q.n,x⟩;omega
 ·show _+(_+0)<=1
  have h1:=Mr.need_le (Mh p d id c (flb b q k t) f now seq since lease) ⟨q.a,q.n,x⟩;have h3:∀ (S:Sm) (r:Rc),r.kind=4->(app S r).own=S.own:=fun S r h=>by
   unfold app;rw [h];simp only [if_neg (show ¬ (4:Int)=2 by decide),if_neg (show ¬ (4:Int)=3 by decide)]
   (repeat' split)<;>rfl
  have h2:(((Mh p d id c (flb b q k t) f now seq since lease).tell1 ⟨q.a,q.n,x⟩).2).owns ⟨p.a,p.n⟩=true:=by
   unfold Mr.tell1;split
   ·exact Mh.owns
   ·split
    ·next r _=>
     show ((Mh p d id c (flb b q k t) f now seq since lease).covered q.a q.n r.id r.seq ((Mh p d id c (flb b q k t) f now seq since lease).farN r)).owns ⟨p.a,p.n⟩=true;unfold Mr.covered;split
     ·exact Mh.owns
     ·unfold Mr.owns
      rw [h3 _ _ rfl];show ((if (⟨p.a,p.n⟩:Pk)=p then some true else none):Option Bool).getD false=true;simp
    ·exact Mh.owns
  rw [o _ h2];omega
end
end
end Go.Proofs.YtpljkpnebibbaaaGreatDoor
