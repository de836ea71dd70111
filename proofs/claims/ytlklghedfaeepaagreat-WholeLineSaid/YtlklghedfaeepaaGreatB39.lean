import Derived.Test.YtlklghedfaeepaaGreatB37
set_option maxHeartbeats 8000000
set_option maxRecDepth 100000
namespace Go.Proofs.YtlklghedfaeepaaGreat
open _root_.Go.Proofs.Tryz (prog)
section
open Go.RowKit Go.Maps Rm Fm Sb
def Ml (p:Pk) (d id:Nat) (c:Nat->Int) (ow:Option Bool) (b:Bool) (k t:Nat) (f:Ways) (now:Int) (seq:Nat) (since:Int) (lease:Nat):Mr:=⟨id,⟨lease,fun z=>if z=p then ow else none,flb b p k t⟩,f,c,now,seq,since,d⟩
section
variable {p:Pk} {d id fr k t m:Nat} {c:Nat->Int} {ow:Option Bool} {b:Bool} {f:Ways} {now e:Int} {seq:Nat} {since:Int} {lease:Nat}
theorem dr7:flb false p k t=fun _=>none:=by
 funext z;unfold flb;simp
theorem Ml.ms (k t:Nat):Ms d id c f now=Ml p d id c none false k t f now 0 0 0:=by
 have e1:(fun z:Pk=>if z=p then (none:Option Bool) else none)=fun _=>none:=by
  funext z;split<;>rfl
 unfold Ml;rw [e1,dr7];rfl
theorem Ml.mo1 (k t:Nat):Mo1 p d id c now seq since lease=Ml p d id c (some true) false k t fN now seq since lease:=by
 unfold Ml;rw [dr7];rfl
theorem Ml.owns:(Ml p d id c ow b k t f now seq since lease).owns ⟨p.a,p.n⟩=ow.getD false:=by
 unfold Mr.owns;show ((if p=p then ow else none):Option Bool).getD false=_;rw [if_pos rfl]
theorem Ml.ans (hp:p.ok) (hk:k<4294967296) (r:Pk):(Ml p d id c ow b k t f now seq since lease).ans r↔r=p/\(ow.isSome=true\/b=true):=by
 constructor
 ·rintro (⟨-,h⟩|⟨i,-,h⟩)
  ·have h':(if r=p then ow else none).isSome=true:=h
   by_cases e:r=p
   ·rw [if_pos e] at h'
    exact ⟨e,.inl h'⟩
   ·rw [if_neg e] at h'
    cases h'
  ·have h':(flb b p k t ⟨r.a,r.n,i⟩).isSome=true:=h
   unfold flb at h';by_cases hz:b=true/\(⟨r.a,r.n,i⟩:Ky)=⟨p.a,p.n,k⟩
   ·obtain ⟨hb,hz⟩:=hz
    injection hz with h1 h2 h3;refine ⟨?_,.inr hb⟩
    cases r
    cases p;simp only at h1 h2;rw [h1,h2]
   ·rw [if_neg hz] at h'
    cases h'
 ·rintro ⟨rfl,h|h⟩
  ·refine .inl ⟨hp,?_⟩
   show (if r=r then ow else none).isSome=true;rw [if_pos rfl];exact h
  ·refine .inr ⟨k,⟨hp.1,hp.2,hk⟩,?_⟩
   show (flb b r k t ⟨r.a,r.n,k⟩).isSome=true;rw [ck3,if_pos h];rfl
theorem Ml.ways1 (hp:p.ok) {r:Rt} (hr:0<=r.fr/\r.fr<=8) (x:Pk):(Ml p d id c ow b k t (way1 p r) now seq since lease).ways x↔x=p:=by
 constructor
 ·rintro ⟨j,-,hf⟩
  have hf':(way1 p r ⟨x.a,x.n,j⟩).isSome=true:=hf;rw [ab7] at hf';by_cases hz:(⟨x.a,x.n,j⟩:Rk)=⟨p.a,p.n,r.fr⟩
  ·injection hz with h1 h2 h3
   cases x
   cases p;simp only at h1 h2;rw [h1,h2]
  ·rw [if_neg hz] at hf'
   cases hf'
 ·rintro rfl
  refine ⟨r.fr,⟨hp.1,hp.2,by show (-9223372036854775808:Int)<=r.fr; omega,by show r.fr<=9223372036854775807; omega⟩,?_⟩;show (way1 x r ⟨x.a,x.n,r.fr⟩).isSome=true;rw [ab7,if_pos rfl];rfl
theorem Ml.ways0 (x:Pk):¬ (Ml p d id c ow b k t fN now seq since lease).ways x:=fun ⟨_,_,h⟩=>by cases h
theorem Ml.subj_on (hp:p.ok) (hk:k<4294967296) (h:ow.isSome=true\/b=true) (hw:∀ x,(Ml p d id c ow b k t f now seq since lease).ways x->x=p) {rs:List En} (hs:Subj (Ml p d id c ow b k t f now seq since lease) rs):rs=[⟨p.a,p.n,true⟩]:=
 hs.one (fun q=>(Ml.ans hp hk q).trans ⟨fun x=>x.1,fun x=>⟨x,h⟩⟩) hw
theorem Ml.subj_way (hp:p.ok) (hk:k<4294967296) {r:Rt} (hr:0<=r.fr/\r.fr<=8) {rs:List En} (hs:Subj (Ml p d id c none false k t (way1 p r) now seq since lease) rs):rs=[⟨p.a,p.n,false⟩]:=
 hs.way (fun q h=>by rcases ((Ml.ans hp hk q).1 h).2 with h|h<;>cases h) (fun q=>Ml.ways1 hp hr q)
theorem Ml.few {r:Rt}:Few (Ml p d id c ow b k t (way1 p r) now seq since lease) 2 1:=⟨[p],[⟨p.a,p.n,k⟩],[⟨p.a,p.n,r.fr⟩],by simp,by simp,(fun x h=>by
 have h':(if x=p then ow else none).isSome=true:=h;by_cases e:x=p
 ·simp [e]
 ·rw [if_neg e] at h'; cases h'),(fun x h=>by
 have h':(flb b p k t x).isSome=true:=h;unfold flb at h';by_cases hz:b=true/\x=⟨p.a,p.n,k⟩
 ·rw [hz.2]; simp
 ·rw [if_neg hz] at h'; cases h'),(fun x h=>by
 have h':(way1 p r x).isSome=true:=h;rw [ab7] at h';by_cases hz:x=⟨p.a,p.n,r.fr⟩
 ·rw [hz]; simp
 ·rw [if_neg hz] at h'; cases h')⟩
theorem Ml.few0:Few (Ml p d id c ow b k t fN now seq since lease) 2 1:=⟨[p],[⟨p.a,p.n,k⟩],[],by simp,by simp,(fun x h=>by
 have h':(if x=p then ow else none).isSome=true:=h;by_cases e:x=p
 ·simp [e]
 ·rw [if_neg e] at h'; cases h'),(fun x h=>by
 have h':(flb b p k t x).isSome=true:=h;unfold flb at h';by_cases hz:b=true/\x=⟨p.a,p.n,k⟩
 ·rw [hz.2]; simp
 ·rw [if_neg hz] at h'; cases h'),(fun x h=>by cases h)⟩
theorem Ml.good {r:Rt} (hp:Am.right p.a p.n=true) (h0:r.id≠0) (hs:r.seq<=1073741824):(Ml p d id c ow b k t (way1 p r) now seq since lease).Good:=fun x r' h=>by
 have h':way1 p r x=some r':=h;rw [ab7] at h';by_cases hz:x=⟨p.a,p.n,r.fr⟩
 ·rw [if_pos hz] at h'
  injection h' with h';subst h' hz;exact ⟨rfl,hp,h0,hs⟩
 ·rw [if_neg hz] at h'; cases h'
theorem Ml.good0:(Ml p d id c ow b k t fN now seq since lease).Good:=fun x r' h=>by cases h
theorem Ml.pick1 {z:Int} (hk:fr<8) (hc:c fr=z) (h1:1<=z) (h2:z<=1000) (hm:m<=8000) (hf:m<t):
  (Ml p d id c ow b k t (way1 p ⟨fr,k,1,m,e⟩) now seq since lease).pick p.a p.n=some ⟨fr,k,1,m,e⟩/\far (m:Int) (cAt c (fr:Int))=(m:Int)+z:=by
 have hcA:cAt c (fr:Int)=z:=by
  unfold cAt;rw [if_neg (by omega)];simpa using hc
 have hfar:far (m:Int) z=(m:Int)+z:=by
  unfold far clampCost
  (repeat' split)<;>omega
 refine ⟨?_,by rw [hcA,hfar]⟩;have hr:(Ml p d id c ow b k t (way1 p ⟨fr,k,1,m,e⟩) now seq since lease).reachF p.a p.n fr=some (⟨fr,k,1,m,e⟩,(m:Int)+z):=by
  unfold Mr.reachF;rw [show (Ml p d id c ow b k t (way1 p ⟨fr,k,1,m,e⟩) now seq since lease).f ⟨p.a,p.n,fr⟩=some ⟨fr,k,1,m,e⟩ from by show way1 p _ _=_; rw [ab7,if_pos rfl]];simp only;rw [show (Ml p d id c ow b k t (way1 p ⟨fr,k,1,m,e⟩) now seq since lease).c=c from rfl,hcA,hfar,if_neg];rintro (e|e|e)
  ·omega
  ·exact e (aq6 hf)
  ·omega
 exact ba9 (by omega) (fun j hj=>by
  show way1 p _ _=_;rw [ab7,if_neg];intro hz;injection hz with h1 h2 h3;have h4:(j:Int)=(fr:Int):=h3;omega) hr
theorem Ml.pick0 (a:Nat) (n:Int):(Ml p d id c ow b k t fN now seq since lease).pick a n=none:=by
 have h:∀ q,(Ml p d id c ow b k t fN now seq since lease).reachF a n q=none:=fun q=>rfl
 unfold Mr.pick Mr.openL;rw [show (List.range 9).filterMap ((Ml p d id c ow b k t fN now seq since lease).reachF a n)=[] from by simp [h]];rfl
theorem Ml.covered (ht:t<65535):(Ml p d id c ow b k t f now seq since lease).covered p.a p.n k 1 t=Ml p d id c ow true k t f now seq since lease:=by
 have hs:(Ml p d id c ow b k t f now seq since lease).sm.floor ⟨p.a,p.n,k⟩=if b=true then some (1,t) else none:=ck3
 unfold Mr.covered;rw [hs]
 cases b
 ·have h:cov (if (false:Bool)=true then some (1,t) else none) 1 t=false:=by
   simp [cov,bet];omega
  rw [h,if_neg (by decide)];show (⟨id,⟨lease,fun z=>if z=p then ow else none,fun z=>if z=⟨p.a,p.n,k⟩ then some (1,t) else flb false p k t z⟩,f,c,now,seq,since,d⟩:Mr)=_;unfold Ml;congr 2;funext z;by_cases hz:z=⟨p.a,p.n,k⟩<;>simp [flb,hz]
 ·have h:cov (if (true:Bool)=true then some (1,t) else none) 1 t=true:=by
   simp [cov,bet,dcmp,cmpI]
  rw [h,if_pos rfl]
theorem Ml.tell_way {z:Int} {x:Bool} (ho:ow≠some true) (hk:fr<8) (hc:c fr=z) (h1:1<=z) (h2:z<=1000) (hm:m<=8000) (hz:(m:Int)+z=(t:Int)):
  (Ml p d id c ow b k t (way1 p ⟨fr,k,1,m,e⟩) now seq since lease).tellS [⟨p.a,p.n,x⟩]=([⟨p.a,p.n,k,1,t⟩],Ml p d id c ow true k t (way1 p ⟨fr,k,1,m,e⟩) now seq since lease):=by
 obtain ⟨hp,hf⟩:=Ml.pick1 (p:=p) (d:=d) (id:=id) (ow:=ow) (b:=b) (now:=now) (k:=k) (m:=m) (e:=e) (seq:=seq) (since:=since) (lease:=lease) (t:=t) hk hc h1 h2 hm (by omega);have how:(Ml p d id c ow b k t (way1 p ⟨fr,k,1,m,e⟩) now seq since lease).owns ⟨p.a,p.n⟩=false:=by
  rw [Ml.owns];rcases ow with _|_|_
  ·rfl
  ·rfl
  ·exact absurd rfl ho
 have h:=Mr.tell1_way (e:=⟨p.a,p.n,x⟩) how hp;have hn:(Ml p d id c ow b k t (way1 p ⟨fr,k,1,m,e⟩) now seq since lease).farN ⟨fr,k,1,m,e⟩=t:=by
  unfold Mr.farN;show (far (m:Int) (cAt c (fr:Int))).toNat=t;rw [hf,hz];rfl
 rw [hn,Ml.covered (by omega)] at h;simp only [Mr.tellS,h,List.append_nil]
theorem Ml.tell_lost (ho:ow≠some true):(Ml p d id c ow b k t fN now seq since lease).tellS [⟨p.a,p.n,true⟩]=([⟨p.a,p.n,0,0,65535⟩],Ml p d id c ow b k t fN now seq since lease):=by
 have how:(Ml p d id c ow b k t fN now seq since lease).owns ⟨p.a,p.n⟩=false:=by
  rw [Ml.owns];rcases ow with _|_|_
  ·rfl
  ·rfl
  ·exact absurd rfl ho
 have h:=Mr.tell1_none (e:=⟨p.a,p.n,true⟩) how (Ml.pick0 _ _);rw [if_pos rfl] at h;simp only [Mr.tellS,h,List.append_nil]
theorem Ml.need0 (x:Bool):(Ml p d id c ow b k t fN now seq since lease).needS [⟨p.a,p.n,x⟩]=0:=by
 show (Ml p d id c ow b k t fN now seq since lease).need ⟨p.a,p.n,x⟩+0=0;unfold Mr.need;rw [show (Ml p d id c ow b k t fN now seq since lease).pick p.a p.n=none from Ml.pick0 _ _];simp
theorem Ml.quiet (ho:ow≠some true):¬ (Ml p d id c ow b k t f now seq since lease).ownsAny:=fun ⟨q,_,h⟩=>by
 have h':(if q=p then ow else none)=some true:=h;by_cases e:q=p
 ·rw [if_pos e] at h'; exact ho h'
 ·rw [if_neg e] at h'; cases h'
theorem Ml.quiet_aged (ho:ow≠some true):¬ (Ml p d id c ow b k t f now seq since lease).aged.ownsAny:=fun ⟨q,_,h⟩=>by
 have h':(if q=p then ow else none)=some true:=h;by_cases e:q=p
 ·rw [if_pos e] at h'; exact ho h'
 ·rw [if_neg e] at h'; cases h'
theorem Ml.ticks1 {r:Rt} (ho:ow≠some true) (h:now+1<r.exp) {M2:Mr} (ht:Ticks (Ml p d id c ow b k t (way1 p r) now seq since lease) M2):M2=Ml p d id c ow b k t (way1 p r) (now+1) seq since lease:=by
 have e:(Ml p d id c ow b k t (way1 p r) now seq since lease).aged=Ml p d id c ow b k t (way1 p r) (now+1) seq since lease:=by
  unfold Mr.aged Ml;simp only [be2 h]
 rcases ht with ⟨x,-⟩|⟨-,rfl⟩
 ·rw [e] at x
  exact absurd x (Ml.quiet ho)
 ·exact e
theorem Ml.aged0:(Ml p d id c ow b k t fN now seq since lease).aged=Ml p d id c ow b k t fN (now+1) seq since lease:=by
 unfold Mr.aged Ml;simp only [show fN=fun _=>none from rfl,ak9]
theorem Ml.ticks0 (ho:ow≠some true) {M2:Mr} (ht:Ticks (Ml p d id c ow b k t fN now seq since lease) M2):M2=Ml p d id c ow b k t fN (now+1) seq since lease:=by
 rcases ht with ⟨x,-⟩|⟨-,rfl⟩
 ·rw [Ml.aged0] at x
  exact absurd x (Ml.quiet ho)
 ·exact Ml.aged0
theorem Ml.hear_same (h:ow=some true\/k=id):(Ml p d id c ow b k t f now seq since lease).hear fr p.a p.n k 1 m=Ml p d id c ow b k t f now seq since lease:=by
 unfold Mr.hear;refine if_pos ?_;rcases h with h|h
 ·exact .inl (by rw [Ml.owns,h]; rfl)
 ·exact .inr h
theorem Ml.hear_way (ho:ow.getD false=false) (hk:k≠id) (hm:m≠65535) (hf:m<t):(Ml p d id c ow b k t f now seq since lease).hear fr p.a p.n k 1 m=Ml p d id c ow b k t (putR f ⟨p.a,p.n,fr⟩ ⟨fr,k,1,m,now+3⟩) now seq since lease:=by
 unfold Mr.hear;rw [if_neg (by rw [Ml.owns,ho]; exact fun e=>e.elim (fun x=>Bool.noConfusion x) hk),if_neg hm];exact if_pos (aq6 hf)
theorem Ml.hear_far (ho:ow.getD false=false) (hk:k≠id) (hm:m≠65535) (hf:t<=m) (hn:f ⟨p.a,p.n,fr⟩=none):(Ml p d id c ow true k t f now seq since lease).hear fr p.a p.n k 1 m=Ml p d id c ow true k t f now seq since lease:=by
 unfold Mr.hear;have hfe:(Ml p d id c ow true k t f now seq since lease).fea p.a p.n ⟨fr,k,1,m,now+3⟩=false:=by
  show fea (flb true p k t ⟨p.a,p.n,k⟩) 1 m=false;rw [ck3,if_pos rfl];simp only [fea,bet,dcmp,cmpI];simp;omega
 rw [if_neg (by rw [Ml.owns,ho]; exact fun e=>e.elim (fun x=>Bool.noConfusion x) hk),if_neg hm];rw [if_neg (by rw [show (Ml p d id c ow true k t f now seq since lease).now=now from rfl,hfe]; decide)];rw [show (Ml p d id c ow true k t f now seq since lease).f ⟨p.a,p.n,fr⟩=none from hn]
theorem Ml.hear_lost (ho:ow.getD false=false) (hi:id≠0):(Ml p d id c ow b k t f now seq since lease).hear fr p.a p.n 0 0 65535=Ml p d id c ow b k t (cutR f ⟨p.a,p.n,fr⟩) now seq since lease:=by
 unfold Mr.hear;rw [if_neg (by rw [Ml.owns,ho]; exact fun e=>e.elim (fun x=>Bool.noConfusion x) (fun x=>hi x.symm))];exact if_pos rfl
theorem Ml.hear_lost_own (ho:ow=some true):(Ml p d id c ow b k t f now seq since lease).hear fr p.a p.n 0 0 65535=Ml p d id c ow b k t f now seq since lease:=by
 unfold Mr.hear;exact if_pos (.inl (by rw [Ml.owns,ho]; rfl))
theorem way1_new {e:Int}:putR fN ⟨p.a,p.n,fr⟩ ⟨fr,k,1,m,e⟩=way1 p ⟨fr,k,1,m,e⟩:=rfl
theorem dl3 (z:Rk):cutR fN z=fN:=by
 funext y;unfold cutR;split<;>rfl
theorem dp5 {r:Rt}:cutR (way1 p r) ⟨p.a,p.n,r.fr⟩=fN:=by
 funext z;unfold cutR;rw [ab7];by_cases h:z=⟨p.a,p.n,r.fr⟩
 ·rw [if_pos h]; rfl
 ·rw [if_neg h,if_neg h]; rfl
theorem dj0 {r:Rt} {j:Int} (h:j≠r.fr):cutR (way1 p r) ⟨p.a,p.n,j⟩=way1 p r:=by
 funext z;unfold cutR;rw [ab7];by_cases hz:z=⟨p.a,p.n,j⟩
 ·rw [if_pos hz,if_neg]
  rw [hz];intro e;injection e with e1 e2 e3;exact h e3
 ·rw [if_neg hz]
theorem dm1 {r:Rt} {j:Int} (h:j≠r.fr):way1 p r ⟨p.a,p.n,j⟩=none:=by
 rw [ab7,if_neg];intro e;injection e with e1 e2 e3;exact h e3
end
def cLn (n:Nat) (F:Nat->Nat) (i:Nat):Nat->Int:=fun j=>if j+1=i then (F i:Int) - F j else if j=i+1/\j<n then (F j:Int) - F i else 0
def nbs (n i:Nat):List Nat:=(if 1<=i then [i - 1] else [])++(if i+1<n then [i+1] else [])
structure Fars (n:Nat) (F:Nat->Nat):Prop where
 z:F 0=0
 up:∀ i,i+1<n->F i+1<=F (i+1)/\F (i+1)<=F i+64
theorem Fars.le {n:Nat} {F:Nat->Nat} (h:Fars n F):∀ i,i<n->F i<=64*i
 |0,_=>by rw [h.z]; omega
 |i+1,hi=>by
  have h1:=h.le i (by omega);have h2:=(h.up i hi).2;omega
theorem dm6 {n:Nat} {F:Nat->Nat} (hF:Fars n F) (hn:n<=8) {i:Nat} (hi:i<n) (b:List Nat):sends (cLn n F i) [b] 8=(nbs n i).map fun j=>(j,b):=by
 have key:∀ j,j<8->(cLn n F i j=0↔¬ (j+1=i\/j=i+1/\j<n)):=fun j hj=>by
  unfold cLn;by_cases h1:j+1=i
  ·rw [if_pos h1]
   have:=(hF.up j (by omega)).1;rw [h1] at this;constructor
   ·intro e; omega
   ·intro e; exact absurd (.inl h1) e
  ·rw [if_neg h1]
   by_cases h2:j=i+1/\j<n
   ·rw [if_pos h2]
    have:=(hF.up i (by omega)).1;rw [<- h2.1] at this;constructor
    ·intro e; omega
    ·intro e; exact absurd (.inr h2) e
   ·rw [if_neg h2]
    exact ⟨fun _ e=>e.elim h1 h2,fun _=>rfl⟩
 have e:∀ j,j<8->(if cLn n F i j=0 then [] else [b].map fun d=>(j,d))=if j+1=i\/j=i+1/\j<n then [(j,b)] else []:=fun j hj=>by
  by_cases h:j+1=i\/j=i+1/\j<n
  ·rw [if_pos h,if_neg (fun e=>(key j hj).1 e h)]; rfl
  ·rw [if_neg h,if_pos ((key j hj).2 h)]
 unfold sends;rw [show List.range 8=[0,1,2,3,4,5,6,7] from rfl];simp only [List.flatMap_cons,List.flatMap_nil,List.append_nil];rw [e 0 (by omega),e 1 (by omega),e 2 (by omega),e 3 (by omega),e 4 (by omega),e 5 (by omega),e 6 (by omega),e 7 (by omega)];have hi8:i=0\/i=1\/i=2\/i=3\/i=4\/i=5\/i=6\/i=7:=by omega
 unfold nbs;rcases hi8 with rfl|rfl|rfl|rfl|rfl|rfl|rfl|rfl
 all_goals
  simp;try (split<;>simp)
  try omega
def pks (n:Nat) (g:Nat->Option (List Nat)) (i:Nat):List Dg:=match g i with
 |none=>[]
 |some b=>(nbs n i).map fun j=>(i,j,b)
def pkS (n:Nat) (g:Nat->Option (List Nat)) (k:Nat):List Dg:=(List.range k).flatMap (pks n g)
theorem cv9 (n:Nat) (g:Nat->Option (List Nat)) (k:Nat):pkS n g (k+1)=pkS n g k++pks n g k:=by
 unfold pkS;rw [List.range_succ,List.flatMap_append];simp
theorem do0 {n:Nat} {g:Nat->Option (List Nat)} {i:Nat} {x:Dg} (h:x∈pks n g i):x.1=i/\g i=some x.2.2/\(x.2.1+1=i\/x.2.1=i+1/\i+1<n):=by
 unfold pks at h
 cases hg:g i with
 |none=>rw [hg] at h; cases h
 |some b=>
  rw [hg] at h;obtain ⟨j,hj,rfl⟩:=List.mem_map.1 h;refine ⟨rfl,rfl,?_⟩;unfold nbs at hj;rcases List.mem_append.1 hj with hj|hj
  ·by_cases h1:1<=i
   ·rw [if_pos h1] at hj
    have:=List.mem_singleton.1 hj;exact .inl (by show j+1=i; omega)
   ·rw [if_neg h1] at hj; cases hj
  ·by_cases h1:i+1<n
   ·rw [if_pos h1] at hj
    have:=List.mem_singleton.1 hj;exact .inr ⟨by show j=i+1; omega,h1⟩
   ·rw [if_neg h1] at hj; cases hj
theorem dk9 {n:Nat} {g:Nat->Option (List Nat)} {k:Nat} {x:Dg} (h:x∈pkS n g k):x.1<k/\g x.1=some x.2.2/\(x.2.1+1=x.1\/x.2.1=x.1+1/\x.1+1<n):=by
 unfold pkS at h;obtain ⟨i,hi,hx⟩:=List.mem_flatMap.1 h;obtain ⟨h1,h2,h3⟩:=do0 hx;rw [List.mem_range] at hi;rw [h1];exact ⟨hi,h2,h3⟩
theorem dj9 (n:Nat) (g:Nat->Option (List Nat)):∀ k,(pkS n g k).Pairwise fun x y=>¬ (x.1=y.1/\x.2.1=y.2.1)
 |0=>by unfold pkS; simp
 |k+1=>by
  rw [cv9];refine List.pairwise_append.2 ⟨dj9 n g k,?_,fun x hx y hy e=>?_⟩
  ·unfold pks
   cases g k with
   |none=>simp
   |some b=>
    unfold nbs;by_cases h1:1<=k
    ·by_cases h2:k+1<n
     ·rw [if_pos h1,if_pos h2]
      simp
     ·rw [if_pos h1,if_neg h2]; simp
    ·by_cases h2:k+1<n
     ·rw [if_neg h1,if_pos h2]; simp
     ·rw [if_neg h1,if_neg h2]; simp
  ·have h1:=(dk9 hx).1
   have h2:=(do0 hy).1;omega
def under (os:List Dg) (a b:Nat):Bool:=os.any fun x=>x.1==a && x.2.1==b
theorem dn3 {n:Nat} {g:Nat->Option (List Nat)} {a b:Nat} {d:List Nat} (hg:g a=some d) (ha:a<n) (hb:b+1=a\/b=a+1/\a+1<n):under (pkS n g n) a b=true:=by
 unfold under;rw [List.any_eq_true];refine ⟨(a,b,d),?_,by simp⟩;unfold pkS;refine List.mem_flatMap.2 ⟨a,List.mem_range.2 ha,?_⟩;unfold pks;rw [hg];refine List.mem_map.2 ⟨b,?_,rfl⟩;unfold nbs;rcases hb with hb|⟨hb,h2⟩
 ·rw [if_pos (by omega)]
  exact List.mem_append_left _ (List.mem_singleton.2 (by omega))
 ·rw [if_pos h2]
  exact List.mem_append_right _ (List.mem_singleton.2 (by omega))
theorem under_none {n:Nat} {g:Nat->Option (List Nat)} {a b:Nat} (hg:g a=none):under (pkS n g n) a b=false:=by
 unfold under;rw [List.any_eq_false];intro x hx h;have h2:=(dk9 hx).2.1;simp at h;rw [h.1,hg] at h2
 cases h2
theorem dm2 {x:Dg} {os:List Dg} (hp:(x::os).Pairwise fun x y=>¬ (x.1=y.1/\x.2.1=y.2.1)) (a b:Nat):under os a b=if a=x.1/\b=x.2.1 then false else under (x::os) a b:=by
 unfold under;by_cases h:a=x.1/\b=x.2.1
 ·rw [if_pos h,List.any_eq_false]
  intro y hy hxy;simp at hxy;exact (List.pairwise_cons.1 hp).1 y hy ⟨by omega,by omega⟩
 ·rw [if_neg h,List.any_cons]
  have:(x.1==a && x.2.1==b)=false:=by
   rw [Bool.and_eq_false_iff];by_cases h1:a=x.1
   ·right
    simp;intro e;exact h ⟨h1,e.symm⟩
   ·left
    simp;intro e;exact h1 e.symm
  rw [this,Bool.false_or]
def wyB (R i T:Nat):Bool:=decide (1<=i/\i<=T/\T<R+i)
def flB (i T:Nat):Bool:=decide (1<=i/\i+1<=T)
def wyF (F:Nat->Nat) (R i T:Nat):Ways:=if wyB R i T=true then way1 (pz 0) ⟨((i - 1:Nat):Int),1,1,F (i - 1),(T:Int)+3⟩ else fN
def mLn (n:Nat) (F:Nat->Nat) (R:Nat) (d:Nat->Nat) (on:Bool) (i T:Nat):Mr:=
 if i=0 then Ml (pz 0) (d 0) 1 (cLn n F 0) (some on) false 1 1 fN T (if T=0 then 0 else 1) (if T=0 then 0 else 1) (if T=0 then 0 else 8)
 else Ml (pz 0) (d i) (i+1) (cLn n F i) none (flB i T) 1 (F i) (wyF F R i T) T 0 0 0
def mLt (n:Nat) (F:Nat->Nat) (R:Nat) (d:Nat->Nat) (on:Bool) (i T:Nat) (u:Bool):Mr:=
 if i=0 then Ml (pz 0) (d 0) 1 (cLn n F 0) (some on) false 1 1 fN ((T:Int)+1) 1 1 8
 else Ml (pz 0) (d i) (i+1) (cLn n F i) none (flB i (T+1)) 1 (F i) (if u=true then wyF F R i (T+1) else wyF F R i T) ((T:Int)+1) 0 0 0
def pgl (p:Pk):List Nat:=T.Tm.page (T.Tm.parts ⟨p.a,p.n,0,0,65535⟩ 0)
def gLn (F:Nat->Nat) (R:Nat) (on:Bool) (T i:Nat):Option (List Nat):=
 if i=0 then some (if on=true then pgm (pz 0) 1 1 0 else pgl (pz 0)) else if wyB R i T=true then some (pgm (pz 0) 1 1 (F i)) else if flB i T=true then some (pgl (pz 0)) else none
theorem bx9 {p:Pk} (hp:Am.right p.a p.n=true):T.Tm.right ⟨p.a,p.n,0,0,65535⟩=true:=by
 unfold T.Tm.right;simp [hp]
theorem do5 {p:Pk} (hp:p.ok):T.Tm.Up.Fits ⟨p.a,p.n,0,0,65535⟩:=⟨hp.1,hp.2.1,hp.2.2,by show 0<4294967296; omega,by show 0<4294967296; omega,by show 65535<65536; omega⟩
theorem dc5 {i:Nat}:∀ (xs:List (Nat×List Nat)) (os:List Dg),os.length+xs.length<=256->sendAll i os xs=os++xs.map fun x=>(i,x.1,x.2)
 |[],os,_=>by simp [sendAll]
 |x::r,os,h=>by
  simp only [List.length_cons] at h;show sendAll i (sent1 i os x) r=_;have e:sent1 i os x=os++[(i,x.1,x.2)]:=by
   unfold sent1;rw [if_pos (by omega)]
  rw [e,dc5 r _ (by rw [List.length_append]; simp; omega),List.map_cons,List.append_assoc];rfl
theorem do2 (n i:Nat):(nbs n i).length<=2:=by
 unfold nbs;split<;>split<;>simp
theorem do1 (n:Nat) (g:Nat->Option (List Nat)):∀ k,(pkS n g k).length<=2*k
 |0=>by simp [pkS]
 |k+1=>by
  have h:=do1 n g k;have h2:=do2 n k;rw [cv9,List.length_append];unfold pks
  cases g k with
  |none=>simp; omega
  |some b=>simp; omega
theorem cn5 {n:Nat} {F:Nat->Nat} (hF:Fars n F) (hn:n<=8) {i:Nat} (hi:i<n) {g:Nat->Option (List Nat)} {b:List Nat} (hg:g i=some b):sendAll i (pkS n g i) (sends (cLn n F i) [b] 8)=pkS n g (i+1):=by
 have h1:=do1 n g i;have h2:=do2 n i;rw [dm6 hF hn hi,dc5 _ _ (by rw [List.length_map]; omega),cv9];unfold pks;rw [hg,List.map_map];rfl
section
variable {O:Nat->Prop} {w0 w:World} {N n:Nat} {st:Nat->Sv} {os:List Dg} {F:Nat->Nat} {R T:Nat} {d:Nat->Nat} {on:Bool}
theorem dq8 {i:Nat} (hF:Fars n F) (hi:i<n) (h1:1<=i):∃ z:Int,cLn n F i (i - 1)=z/\1<=z/\z<=64/\(F (i - 1):Int)+z=(F i:Int):=by
 have h:=hF.up (i - 1) (by omega);rw [show i - 1+1=i by omega] at h;refine ⟨_,rfl,?_⟩;unfold cLn;rw [if_pos (by omega)];omega
theorem ds8 (hF:Fars n F) (hn:n<=8) (hR:1<=R) (hT:T<=60) (hon:on=true->T<8) (hoff:on=false->1<=T) {i:Nat} (hi:i<n) (h:Bo O w0 w N n st (pkS n (gLn F R on T) i)) {room sp:Nat} {cc:Nat->Int} {z:Dz} (hs:st i=⟨d i,some ⟨room+1,sp,mLn n F R d on i T⟩,cc,z⟩):
  Calls prog 19 #[.pointer (some ⟨N,0,none⟩),.int .i64 i] w fun e w'=>e= .returned (.int .i64 0)/\Bo O w0 w' N n (sets st i ⟨d i,some ⟨room,sp,mLt n F R d on i T false⟩,cc,z⟩) (pkS n (gLn F R on T) (i+1)):=by
 by_cases h0:i=0
 ·subst h0
  cases on with
  |true=>
   have e:mLn n F R d true 0 T=Mo1 (pz 0) (d 0) 1 (cLn n F 0) T (if T=0 then 0 else 1) (if T=0 then 0 else 1) (if T=0 then 0 else 8):=by
    unfold mLn;rw [if_pos rfl,<- Ml.mo1]
   rw [e] at hs;have hadv:(Mo1 (pz 0) (d 0) 1 (cLn n F 0) ((T:Int)+1) (if T=0 then 0 else 1) (if T=0 then 0 else 1) (if T=0 then 0 else 8)).advance=Mo1 (pz 0) (d 0) 1 (cLn n F 0) ((T:Int)+1) 1 1 8:=by
    by_cases hT0:T=0
    ·subst hT0
     rw [if_pos rfl,if_pos rfl,if_pos rfl];exact Mo1.first
    ·rw [if_neg hT0,if_neg hT0,if_neg hT0]
     have:=hon rfl;exact Mo1.next_big ⟨by omega,by omega⟩
   refine (al7 h hi hs (ad3 (by omega)) (by omega) (by split<;>omega) hadv (by omega) (Mr.advN_le1 _)).mono ?_;rintro y w' ⟨rfl,h2⟩;refine ⟨rfl,?_⟩;rw [ap8 (ab2 (by omega)) (by omega) (by omega) (by omega),show sendAll 0 (pkS n (gLn F R true T) 0) (sends (cLn n F 0) [pgm (pz 0) 1 1 0] 8)=pkS n (gLn F R true T) (0+1) from cn5 hF hn hi rfl] at h2;have e2:mLt n F R d true 0 T false=Mo1 (pz 0) (d 0) 1 (cLn n F 0) ((T:Int)+1) 1 1 8:=by
    unfold mLt;rw [if_pos rfl,<- Ml.mo1]
   rw [e2];exact h2
  |false=>
   have hT0:¬ T=0:=by have:=hoff rfl; omega
   have e:mLn n F R d false 0 T=Ml (pz 0) (d 0) 1 (cLn n F 0) (some false) false 1 1 fN T 1 1 8:=by
    unfold mLn;rw [if_pos rfl,if_neg hT0,if_neg hT0,if_neg hT0]
   rw [e] at hs;have hT2:=fun M2 (h2:Ticks (Ml (pz 0) (d 0) 1 (cLn n F 0) (some false) false 1 1 fN T 1 1 8) M2)=>Ml.ticks0 (by simp) h2
   have hs':st 0=⟨d 0,some ⟨room+0+1,sp,Ml (pz 0) (d 0) 1 (cLn n F 0) (some false) false 1 1 fN T 1 1 8⟩,cc,z⟩:=hs;have hS:=fun rs (h3:Subj (Ml (pz 0) (d 0) 1 (cLn n F 0) (some false) false 1 1 fN ((T:Int)+1) 1 1 8) rs)=>Ml.subj_on (ad3 (by omega)) (by omega) (.inl rfl) (fun x hx=>absurd hx (Ml.ways0 x)) h3
   refine (db0 h hi hs' Ml.good0 (by show (T:Int)<1000000; omega) (by show 8<=1073741824; omega) (p:=2) (r:=1) (fun M2 h2=>by rw [hT2 M2 h2]; exact Ml.few0) (by omega) (fun _=>Mr.advN_le1 _) (fun M2 rs h2 h3=>by
    rw [hT2 M2 h2] at h3 ⊢;rw [hS rs h3,Ml.need0];exact Nat.le_refl _)).mono ?_
   rintro y w' ⟨rfl,M2,rs,h3,h4,hB⟩;have e1:=hT2 M2 h3;subst e1;rw [hS rs h4,Ml.tell_lost (by simp),bz1 (bx9 (ab2 (by omega)))] at hB;refine ⟨rfl,?_⟩;have e3:sendAll 0 (pkS n (gLn F R false T) 0) (sends (cLn n F 0) [pgl (pz 0)] 8)=pkS n (gLn F R false T) (0+1):=cn5 hF hn hi rfl;rw [<- e3];unfold mLt;rw [if_pos rfl];exact hB
 ·obtain ⟨x,hx,hx1,hx2,hx3⟩:=dq8 hF hi (by omega)
  have hle:=hF.le (i - 1) (by omega);have em:mLn n F R d on i T=Ml (pz 0) (d i) (i+1) (cLn n F i) none (flB i T) 1 (F i) (wyF F R i T) T 0 0 0:=by
   unfold mLn;rw [if_neg h0]
  have et:mLt n F R d on i T false=Ml (pz 0) (d i) (i+1) (cLn n F i) none (flB i (T+1)) 1 (F i) (wyF F R i T) ((T:Int)+1) 0 0 0:=by
   unfold mLt;rw [if_neg h0,if_neg (by decide)]
  rw [em] at hs;rw [et]
  cases hw:wyB R i T with
  |true=>
   have hw':1<=i/\i<=T/\T<R+i:=by
    unfold wyB at hw;exact of_decide_eq_true hw
   have ef:wyF F R i T=way1 (pz 0) ⟨((i - 1:Nat):Int),1,1,F (i - 1),(T:Int)+3⟩:=by
    unfold wyF;rw [if_pos hw]
   have efl:flB i (T+1)=true:=by
    unfold flB;exact decide_eq_true (by omega)
   have hg:gLn F R on T i=some (pgm (pz 0) 1 1 (F i)):=by
    unfold gLn;rw [if_neg h0,if_pos hw]
   rw [ef] at hs;rw [ef,efl];obtain ⟨b,hb⟩:∃ b,flB i T=b:=⟨_,rfl⟩;rw [hb] at hs;have hr:0<=(((i - 1:Nat):Int))/\(((i - 1:Nat):Int))<=8:=by omega
   have hs':st i=⟨d i,some ⟨room+1+0,sp,Ml (pz 0) (d i) (i+1) (cLn n F i) none b 1 (F i) (way1 (pz 0) ⟨((i - 1:Nat):Int),1,1,F (i - 1),(T:Int)+3⟩) T 0 0 0⟩,cc,z⟩:=hs;have hT2:=fun M2 (h2:Ticks (Ml (pz 0) (d i) (i+1) (cLn n F i) none b 1 (F i) (way1 (pz 0) ⟨((i - 1:Nat):Int),1,1,F (i - 1),(T:Int)+3⟩) T 0 0 0) M2)=>Ml.ticks1 (by simp) (by show (T:Int)+1<(T:Int)+3; omega) h2
   have hS:∀ rs,Subj (Ml (pz 0) (d i) (i+1) (cLn n F i) none b 1 (F i) (way1 (pz 0) ⟨((i - 1:Nat):Int),1,1,F (i - 1),(T:Int)+3⟩) ((T:Int)+1) 0 0 0) rs->∃ y,rs=[⟨(pz 0).a,(pz 0).n,y⟩]:=fun rs h3=>by
    cases b with
    |true=>exact ⟨_,Ml.subj_on (ad3 (by omega)) (by omega) (.inr rfl) (fun x hx=>(Ml.ways1 (ad3 (by omega)) hr x).1 hx) h3⟩
    |false=>exact ⟨_,Ml.subj_way (ad3 (by omega)) (by omega) hr h3⟩
   refine (db0 h hi hs' (Ml.good (ab2 (by omega)) (by show 1≠0; omega) (by show 1<=1073741824; omega)) (by show (T:Int)<1000000; omega) (by show 0<=1073741824; omega) (p:=2) (r:=1) (fun M2 h2=>by rw [hT2 M2 h2]; exact Ml.few) (by omega) (m1:=0) (fun ha=>(Ml.quiet_aged (by simp) ha).elim) (fun M2 rs h2 h3=>by
    rw [hT2 M2 h2] at h3 ⊢;obtain ⟨y,rfl⟩:=hS rs h3;exact Mr.needS_le [⟨(pz 0).a,(pz 0).n,y⟩] _)).mono ?_
   rintro y w' ⟨rfl,M2,rs,h3,h4,hB⟩;have e1:=hT2 M2 h3;subst e1;obtain ⟨y,rfl⟩:=hS rs h4;rw [Ml.tell_way (by simp) (by omega) hx hx1 (by omega) (by omega) hx3,ap8 (ab2 (by omega)) (by omega) (by omega) (by omega)] at hB;refine ⟨rfl,?_⟩;rw [<- cn5 hF hn hi hg];exact hB
  |false=>
   have ef:wyF F R i T=fN:=by
    unfold wyF;rw [if_neg (by rw [hw]; decide)]
   rw [ef] at hs;rw [ef];have hT2:=fun b M2 (h2:Ticks (Ml (pz 0) (d i) (i+1) (cLn n F i) none b 1 (F i) fN T 0 0 0) M2)=>Ml.ticks0 (by simp) h2
   cases hb:flB i T with
   |true=>
    have efl:flB i (T+1)=true:=by
     unfold flB at hb ⊢;have:=of_decide_eq_true hb;exact decide_eq_true (by omega)
    have hg:gLn F R on T i=some (pgl (pz 0)):=by
     unfold gLn;rw [if_neg h0,if_neg (by rw [hw]; decide),if_pos hb]
    rw [hb] at hs;rw [efl];have hs':st i=⟨d i,some ⟨room+1+0,sp,Ml (pz 0) (d i) (i+1) (cLn n F i) none true 1 (F i) fN T 0 0 0⟩,cc,z⟩:=hs;have hS:=fun rs (h3:Subj (Ml (pz 0) (d i) (i+1) (cLn n F i) none true 1 (F i) fN ((T:Int)+1) 0 0 0) rs)=>Ml.subj_on (ad3 (by omega)) (by omega) (.inr rfl) (fun x hx=>absurd hx (Ml.ways0 x)) h3
    refine (db0 h hi hs' Ml.good0 (by show (T:Int)<1000000; omega) (by show 0<=1073741824; omega) (p:=2) (r:=1) (fun M2 h2=>by rw [hT2 true M2 h2]; exact Ml.few0) (by omega) (m1:=0) (fun ha=>(Ml.quiet_aged (by simp) ha).elim) (fun M2 rs h2 h3=>by
     rw [hT2 true M2 h2] at h3 ⊢;rw [hS rs h3,Ml.need0];exact Nat.zero_le _)).mono ?_
    rintro y w' ⟨rfl,M2,rs,h3,h4,hB⟩;have e1:=hT2 true M2 h3;subst e1;rw [hS rs h4,Ml.tell_lost (by simp),bz1 (bx9 (ab2 (by omega)))] at hB;refine ⟨rfl,?_⟩;rw [<- cn5 hF hn hi hg];exact hB
   |false=>
    have hTi:T<i:=by
     unfold wyB at hw;unfold flB at hb;have h1:=of_decide_eq_false hw;have h2:=of_decide_eq_false hb;omega
    have efl:flB i (T+1)=false:=by
     unfold flB;exact decide_eq_false (by omega)
    have hg:gLn F R on T i=none:=by
     unfold gLn;rw [if_neg h0,if_neg (by rw [hw]; decide),if_neg (by rw [hb]; decide)]
    rw [hb,<- Ml.ms] at hs;rw [efl,<- Ml.ms];refine (aq9 h hi hs (by omega)).mono ?_;rintro y w' ⟨rfl,hB⟩;refine ⟨rfl,?_⟩;have e:pkS n (gLn F R on T) (i+1)=pkS n (gLn F R on T) i:=by
     rw [cv9];unfold pks;rw [hg,List.append_nil]
    rw [e];exact hB
end
section
variable {O:Nat->Prop} {w0 w:World} {N n:Nat} {st:Nat->Sv} {os:List Dg} {F:Nat->Nat} {R T:Nat} {d:Nat->Nat} {on:Bool}
theorem dc8 (h:Bo O w0 w N n st os) {j:Nat} (hj:j<os.length) {fr i:Nat} {p:Pk} (ho:os[j]=(fr,i,pgl p)) (hi:i<n) {d room sp:Nat} {M:Mr} {c:Nat->Int} {z:Dz} (hs:st i=⟨d,some ⟨room,sp+1000,M⟩,c,z⟩)
  (hp:Am.right p.a p.n=true) (hpk:p.ok) (hc:cAt M.c fr≠0):
  Calls prog 32 #[.pointer (some ⟨N,0,none⟩),.int .i64 j,.int .i64 1024] w fun e w'=>e= .returned (.int .i64 0)/\Bo O w0 w' N n (sets st i ⟨d,some ⟨room,sp,M.hear fr p.a p.n 0 0 65535⟩,c,z⟩) (os.eraseIdx j):=by
 have he:T.Tm.encode [⟨p.a,p.n,0,0,65535⟩]=[pgl p]:=bz1 (bx9 hp);have hf:=T.Tm.encode_fine [⟨p.a,p.n,0,0,65535⟩] (pgl p) (by rw [he]; simp);have hd:T.Tm.decode (pgl p)=some [⟨p.a,p.n,0,0,65535⟩]:=decode_one (bx9 hp) (do5 hpk);have hD:=az1 h hj ho hi hs (most:=1024) (m:=(pgl p).length) (by have:=hf.2.1; omega) hf.2.2.1 (by omega) (fun us e=>by
  rw [List.take_length,hd] at e
  cases e;simp)
 rw [List.take_length] at hD;have e:M.receive (fr:Int) (pgl p)=M.hear fr p.a p.n 0 0 65535:=by
  unfold Mr.receive;rw [if_neg hc,hd];rfl
 rw [e] at hD;exact hD
theorem dj7 {i:Nat} (h:wyB R i T=true):wyF F R i T=way1 (pz 0) ⟨((i - 1:Nat):Int),1,1,F (i - 1),(T:Int)+3⟩:=by unfold wyF; rw [if_pos h]
theorem bq2 {i:Nat} (h:wyB R i T=false):wyF F R i T=fN:=by unfold wyF; rw [if_neg (by rw [h]; decide)]
theorem bg4 {i:Nat}:wyB R i T=true↔1<=i/\i<=T/\T<R+i:=by unfold wyB; exact decide_eq_true_iff
theorem dc6 {i:Nat}:flB i T=true↔1<=i/\i+1<=T:=by unfold flB; exact decide_eq_true_iff
theorem ck4 {i:Nat} {j:Int} (h:j≠((i - 1:Nat):Int)):wyF F R i T ⟨(pz 0).a,(pz 0).n,j⟩=none/\cutR (wyF F R i T) ⟨(pz 0).a,(pz 0).n,j⟩=wyF F R i T:=by
 cases hw:wyB R i T with
 |true=>rw [dj7 hw]; exact ⟨dm1 h,dj0 h⟩
 |false=>rw [bq2 hw]; exact ⟨rfl,dl3 _⟩
theorem ds4 {i:Nat} {e:Int}:putR (wyF F R i T) ⟨(pz 0).a,(pz 0).n,((i - 1:Nat):Int)⟩ ⟨((i - 1:Nat):Int),1,1,F (i - 1),e⟩=way1 (pz 0) ⟨((i - 1:Nat):Int),1,1,F (i - 1),e⟩:=by
 cases hw:wyB R i T with
 |true=>rw [dj7 hw]; exact bp6
 |false=>rw [bq2 hw]; rfl
theorem ds5 {i:Nat}:cutR (wyF F R i T) ⟨(pz 0).a,(pz 0).n,((i - 1:Nat):Int)⟩=fN:=by
 cases hw:wyB R i T with
 |true=>rw [dj7 hw]; exact dp5
 |false=>rw [bq2 hw]; exact dl3 _
theorem dt0 (hF:Fars n F) (hn:n<=8) (_:1<=R) (hon:on=true->T<R) (hoff:on=false->R<=T) {a j:Nat} (ha:a<n) (hj:j<n) (hadj:a+1=j\/j+1=a) {b:List Nat} (hg:gLn F R on T a=some b) {u:Bool} (hu:a+1=j->u=false):
  (b=pgm (pz 0) 1 1 (F a)/\(mLt n F R d on j T u).hear a (pz 0).a (pz 0).n 1 1 (F a)=mLt n F R d on j T (u||decide (a+1=j)))\/
  (b=pgl (pz 0)/\(mLt n F R d on j T u).hear a (pz 0).a (pz 0).n 0 0 65535=mLt n F R d on j T (u||decide (a+1=j))):=by
 have hFa:=hF.le a ha;have hFj:=hF.le j hj;have hsay:(b=pgm (pz 0) 1 1 (F a)/\(a=0/\on=true\/wyB R a T=true))\/(b=pgl (pz 0)/\(a=0/\on=false\/wyB R a T=false/\flB a T=true)):=by
  unfold gLn at hg;by_cases h0:a=0
  ·rw [if_pos h0] at hg
   cases on with
   |true=>exact .inl ⟨by rw [h0,hF.z]; exact (Option.some.inj hg).symm,.inl ⟨h0,rfl⟩⟩
   |false=>exact .inr ⟨(Option.some.inj hg).symm,.inl ⟨h0,rfl⟩⟩
  ·rw [if_neg h0] at hg
   by_cases h1:wyB R a T=true
   ·rw [if_pos h1] at hg
    exact .inl ⟨(Option.some.inj hg).symm,.inr h1⟩
   ·rw [if_neg h1] at hg
    by_cases h2:flB a T=true
    ·rw [if_pos h2] at hg
     exact .inr ⟨(Option.some.inj hg).symm,.inr ⟨by simpa using h1,h2⟩⟩
    ·rw [if_neg h2] at hg
     cases hg
 by_cases hj0:j=0
 ·subst hj0
  have e:∀ v,mLt n F R d on 0 T v=Ml (pz 0) (d 0) 1 (cLn n F 0) (some on) false 1 1 fN ((T:Int)+1) 1 1 8:=fun v=>by unfold mLt; rw [if_pos rfl]
  rw [e,e];rcases hsay with ⟨hb,-⟩|⟨hb,-⟩
  ·exact .inl ⟨hb,Ml.hear_same (.inr rfl)⟩
  ·refine .inr ⟨hb,?_⟩
   cases on with
   |true=>exact Ml.hear_lost_own rfl
   |false=>rw [Ml.hear_lost rfl (by omega),dl3]
 ·have e:∀ v,mLt n F R d on j T v=Ml (pz 0) (d j) (j+1) (cLn n F j) none (flB j (T+1)) 1 (F j) (if v=true then wyF F R j (T+1) else wyF F R j T) ((T:Int)+1) 0 0 0:=fun v=>by unfold mLt; rw [if_neg hj0]
  rw [e,e];rcases hadj with had|had
  ·have hu':=hu had
   subst hu';have ha1:a=j - 1:=by omega
   have hlt:F a<F j:=by
    have:=(hF.up a (by omega)).1;rw [had] at this;omega
   rw [if_neg (by decide),show (false||decide (a+1=j))=true from by rw [decide_eq_true had]; rfl,if_pos rfl];have hT:((T+1:Nat):Int)+3=(T:Int)+1+3:=by omega
   rcases hsay with ⟨hb,hw⟩|⟨hb,hw⟩
   ·refine .inl ⟨hb,?_⟩
    have hwj:wyB R j (T+1)=true:=bg4.2 (by
     rcases hw with ⟨h1,h2⟩|h1
     ·have:=hon h2; omega
     ·have:=bg4.1 h1; omega)
    rw [Ml.hear_way rfl (by omega) (by omega) hlt,dj7 hwj,hT,ha1];congr 1;exact ds4
   ·refine .inr ⟨hb,?_⟩
    have hwj:wyB R j (T+1)=false:=by
     rw [<- Bool.not_eq_true,bg4];rcases hw with ⟨h1,h2⟩|⟨h1,h2⟩
     ·have:=hoff h2; omega
     ·rw [<- Bool.not_eq_true,bg4] at h1
      have:=dc6.1 h2;omega
    rw [Ml.hear_lost rfl (by omega),bq2 hwj,ha1];congr 1;exact ds5
  ·have hle:F j<=F a:=by
    have:=(hF.up j (by omega)).1;rw [had] at this;omega
   rw [show (u||decide (a+1=j))=u from by rw [decide_eq_false (by omega),Bool.or_false]];have hne:(a:Int)≠((j - 1:Nat):Int):=by omega
   rcases hsay with ⟨hb,hw⟩|⟨hb,hw⟩
   ·refine .inl ⟨hb,?_⟩
    have hfl:flB j (T+1)=true:=dc6.2 (by
     rcases hw with ⟨h1,h2⟩|h1
     ·omega
     ·have:=bg4.1 h1; omega)
    rw [hfl];refine Ml.hear_far rfl (by omega) (by omega) hle ?_
    cases u
    ·exact (ck4 hne).1
    ·exact (ck4 hne).1
   ·refine .inr ⟨hb,?_⟩
    rw [Ml.hear_lost rfl (by omega)];congr 1
    cases u
    ·exact (ck4 hne).2
    ·exact (ck4 hne).2
theorem dt2 (hF:Fars n F) (hn:n<=8) (hR:1<=R) (hon:on=true->T<R) (hoff:on=false->R<=T) {a j:Nat} (ha:a<n) (hj:j<n) (hadj:a+1=j\/j+1=a) {b:List Nat} (hg:gLn F R on T a=some b) {u:Bool} (hu:a+1=j->u=false) {os':List Dg} (h:Bo O w0 w N n st ((a,j,b)::os')) {room sp:Nat} {cc:Nat->Int} {z:Dz} (hs:st j=⟨d j,some ⟨room,sp+1000,mLt n F R d on j T u⟩,cc,z⟩):
  Calls prog 32 #[.pointer (some ⟨N,0,none⟩),.int .i64 0,.int .i64 1024] w fun e w'=>e= .returned (.int .i64 0)/\Bo O w0 w' N n (sets st j ⟨d j,some ⟨room,sp,mLt n F R d on j T (u||decide (a+1=j))⟩,cc,z⟩) os':=by
 have hFa:=hF.le a ha;have hc:cAt (mLt n F R d on j T u).c (a:Int)≠0:=by
  have e:(mLt n F R d on j T u).c=cLn n F j:=by
   unfold mLt;split
   ·next h=>rw [h]; rfl
   ·rfl
  rw [e];unfold cAt;rw [if_neg (by omega)];show cLn n F j ((a:Int).toNat)≠0;rw [Int.toNat_natCast];unfold cLn;rcases hadj with had|had
  ·rw [if_pos had]
   have:=(hF.up a (by omega)).1;rw [had] at this;omega
  ·rw [if_neg (by omega),if_pos ⟨had.symm,ha⟩]
   have:=(hF.up j (by omega)).1;rw [had] at this;omega
 rcases dt0 (d:=d) hF hn hR hon hoff ha hj hadj hg hu with ⟨rfl,e⟩|⟨rfl,e⟩
 ·have:=ac3 h (j:=0) (by simp) (fr:=a) (i:=j) rfl hj hs (ab2 (by omega)) (ad3 (by omega)) (by omega) (by omega) (by omega) (by omega) hc
  rw [e] at this;exact this
 ·have:=dc8 h (j:=0) (by simp) (fr:=a) (i:=j) rfl hj hs (ab2 (by omega)) (ad3 (by omega)) hc
  rw [e] at this;exact this
def LnAt (q n:Nat) (F:Nat->Nat) (R:Nat) (d:Nat->Nat) (z:Nat->Dz) (on:Bool) (T:Nat) (st:Nat->Sv) (i:Nat):Prop:=∃ room sp,st i=⟨d i,some ⟨room,sp,mLn n F R d on i T⟩,cLn n F i,z i⟩/\q<=room+T/\88000<=sp+2000*T
def cnt (os:List Dg) (i:Nat):Nat:=(if under os (i - 1) i=true then 1 else 0)+(if under os (i+1) i=true then 1 else 0)
theorem cnt_le (os:List Dg) (i:Nat):cnt os i<=2:=by unfold cnt; split<;>split<;>omega
def heard (all os:List Dg) (i:Nat):Bool:=decide (1<=i) && under all (i - 1) i && !under os (i - 1) i
theorem dp9 {z:Nat->Dz} {q:Nat} (hq:50<=q) (hF:Fars n F) (hn:n<=8) (hR:1<=R) (hT:T<=40) (hon:on=true->T<R/\T<8) (hoff:on=false->R<=T) (h:Bo O w0 w N n st []) (hst:∀ i,i<n->LnAt q n F R d z on T st i):
  Calls prog 11 #[.pointer (some ⟨N,0,none⟩)] w fun e w'=>e= .returned (.tuple #[])/\∃ st',(∀ i,i<n->LnAt q n F R d z on (T+1) st' i)/\Bo O w0 w' N n st' []:=by
 obtain ⟨all,hall⟩:∃ all,pkS n (gLn F R on T) n=all:=⟨_,rfl⟩;have hap:=dj9 n (gLn F R on T) n;rw [hall] at hap;refine (as6 (P:=fun k st os=>os=pkS n (gLn F R on T) k/\∀ i,i<n->∃ room sp,st i=⟨d i,some ⟨room,sp,if i<k then mLt n F R d on i T false else mLn n F R d on i T⟩,cLn n F i,z i⟩/\q<=room+T+(if i<k then 1 else 0)/\88000<=sp+2000*T)
  (Q:=fun j st os=>os.length=j/\(∃ pre,all=pre++os)/\∀ i,i<n->∃ room sp,st i=⟨d i,some ⟨room,sp,mLt n F R d on i T (heard all os i)⟩,cLn n F i,z i⟩/\q<=room+T+1/\86000+1000*cnt os i<=sp+2000*T)
  h ⟨rfl,fun i hi=>?_⟩ (fun k st os wr hk hP hB=>?_) (fun st os hP=>?_) (fun j st os hQ=>hQ.1) (fun j st os wr hQ hB=>?_)).mono ?_
 ·obtain ⟨room,sp,e,h1,h2⟩:=hst i hi
  exact ⟨room,sp,by rw [if_neg (by omega)]; exact e,by rw [if_neg (by omega)]; omega,h2⟩
 ·obtain ⟨rfl,hst⟩:=hP
  obtain ⟨room,sp,e,h1,h2⟩:=hst k hk;rw [if_neg (by omega)] at e h1;obtain ⟨room',hr⟩:∃ room',room=room'+1:=⟨room - 1,by omega⟩;subst hr;refine (ds8 hF hn hR (by omega) (fun h=>(hon h).2) (fun h=>by have:=hoff h; omega) hk hB e).mono ?_;rintro y w' ⟨rfl,hB'⟩;refine ⟨0,_,_,rfl,⟨rfl,fun i hi=>?_⟩,hB'⟩;by_cases hik:i=k
  ·subst hik
   exact ⟨room',sp,by rw [ab5,if_pos (by omega)],by rw [if_pos (by omega)]; omega,h2⟩
  ·obtain ⟨r2,s2,e2,h3,h4⟩:=hst i hi
   refine ⟨r2,s2,?_,?_,h4⟩
   ·rw [ab1 hik,e2]
    by_cases h5:i<k
    ·rw [if_pos h5,if_pos (by omega)]
    ·rw [if_neg h5,if_neg (by omega)]
   ·by_cases h5:i<k
    ·rw [if_pos h5] at h3; rw [if_pos (by omega)]; exact h3
    ·rw [if_neg h5] at h3; rw [if_neg (by omega)]; exact h3
 ·obtain ⟨rfl,hst⟩:=hP
  rw [hall];refine ⟨rfl,⟨[],rfl⟩,fun i hi=>?_⟩;obtain ⟨room,sp,e,h1,h2⟩:=hst i hi;rw [if_pos hi] at e h1;have hh:heard all all i=false:=by
   unfold heard
   cases under all (i - 1) i<;>simp
  have:=cnt_le all i;exact ⟨room,sp,by rw [hh]; exact e,by omega,by omega⟩
 ·obtain ⟨hl,⟨pre,hpre⟩,hst⟩:=hQ
  cases os with
  |nil=>simp at hl
  |cons x os'=>
   obtain ⟨a,j',b⟩:=x;have hx:(a,j',b)∈pkS n (gLn F R on T) n:=by rw [hall,hpre]; simp
   obtain ⟨ha,hg,hadj⟩:=dk9 hx;simp only at ha hg hadj;have hj':j'<n:=by omega
   have hpo:((a,j',b)::os').Pairwise fun x y=>¬ (x.1=y.1/\x.2.1=y.2.1):=by
    rw [hpre] at hap;exact (List.pairwise_append.1 hap).2.1
   have hut:=dm2 hpo;simp only at hut;have hund:under ((a,j',b)::os') a j'=true:=by unfold under; simp
   have huall:under all a j'=true:=by
    rw [hpre];unfold under;rw [List.any_append];simp
   obtain ⟨room,sp,e,h1,h2⟩:=hst j' hj';have hcn:cnt os' j'+1=cnt ((a,j',b)::os') j':=by
    unfold cnt;rw [hut,hut];rcases hadj with hd|⟨hd,-⟩
    ·have e1:j'+1=a:=hd
     rw [if_neg (show ¬ (j' - 1=a/\j'=j') by omega),if_pos (show j'+1=a/\j'=j' from ⟨e1,rfl⟩),if_neg (by decide:¬ (false=true)),e1,hund,if_pos rfl]
    ·have e1:j' - 1=a:=by omega
     rw [if_pos (show j' - 1=a/\j'=j' from ⟨e1,rfl⟩),if_neg (show ¬ (j'+1=a/\j'=j') by omega),if_neg (by decide:¬ (false=true)),e1,hund,if_pos rfl];omega
   obtain ⟨sp',hs'⟩:∃ sp',sp=sp'+1000:=⟨sp - 1000,by omega⟩;subst hs';refine (dt2 hF hn hR (fun h=>(hon h).1) hoff ha hj' (by omega) hg (u:=heard all ((a,j',b)::os') j') (fun had=>by
    unfold heard;rw [show j' - 1=a by omega,hund];simp) hB e).mono ?_
   rintro y w' ⟨rfl,hB'⟩;refine ⟨0,_,_,rfl,⟨by simpa using hl,⟨pre++[(a,j',b)],by rw [hpre]; simp⟩,fun i hi=>?_⟩,hB'⟩;by_cases hij:i=j'
   ·subst hij
    refine ⟨room,sp',?_,h1,by omega⟩;rw [ab5];congr 4;unfold heard;rw [hut];rcases hadj with hd|⟨hd,-⟩
    ·rw [if_neg (show ¬ (i - 1=a/\i=i) by omega),decide_eq_false (show ¬ a+1=i by omega),Bool.or_false]
    ·have e1:i - 1=a:=by omega
     rw [if_pos (show i - 1=a/\i=i from ⟨e1,rfl⟩),decide_eq_true (show a+1=i by omega),Bool.or_true,e1,huall,decide_eq_true (show 1<=i by omega)];rfl
   ·obtain ⟨r2,s2,e2,h3,h4⟩:=hst i hi
    have hcn2:cnt os' i=cnt ((a,j',b)::os') i:=by
     unfold cnt;rw [hut,hut,if_neg (show ¬ (i - 1=a/\i=j') from fun e=>hij e.2),if_neg (show ¬ (i+1=a/\i=j') from fun e=>hij e.2)]
    refine ⟨r2,s2,?_,h3,by rw [hcn2]; exact h4⟩;rw [ab1 hij,e2];congr 4;unfold heard;rw [hut,if_neg (show ¬ (i - 1=a/\i=j') from fun e=>hij e.2)]
 ·rintro y w' ⟨rfl,st',os',⟨hl,-,hst'⟩,hB'⟩
  have hnil:os'=[]:=List.eq_nil_of_length_eq_zero hl;subst hnil;refine ⟨rfl,st',fun i hi=>?_,hB'⟩;obtain ⟨room,sp,e,h1,h2⟩:=hst' i hi;refine ⟨room,sp,?_,by omega,by unfold cnt at h2; omega⟩;rw [e];congr 3;have hT:((T+1:Nat):Int)=(T:Int)+1:=by omega
  unfold mLt mLn;by_cases h0:i=0
  ·rw [if_pos h0,if_pos h0,if_neg (by omega),if_neg (by omega),if_neg (by omega),hT]
  ·rw [if_neg h0,if_neg h0,hT]
   congr 1
   cases hh:heard all [] i with
   |true=>rw [if_pos rfl]
   |false=>
    rw [if_neg (by decide)];have hno:under all (i - 1) i=false:=by
     unfold heard at hh;rw [decide_eq_true (show 1<=i by omega)] at hh;simpa [under] using hh
    have hgn:gLn F R on T (i - 1)=none:=by
     cases hg:gLn F R on T (i - 1) with
     |none=>rfl
     |some b=>
      have:=dn3 (n:=n) hg (by omega) (b:=i) (.inr ⟨by omega,by omega⟩);rw [hall,hno] at this
      cases this
    have h1:i - 1≠0/\wyB R (i - 1) T=false/\flB (i - 1) T=false:=by
     unfold gLn at hgn;by_cases g0:i - 1=0
     ·rw [if_pos g0] at hgn; cases hgn
     ·rw [if_neg g0] at hgn
      by_cases g1:wyB R (i - 1) T=true
      ·rw [if_pos g1] at hgn; cases hgn
      ·rw [if_neg g1] at hgn
       by_cases g2:flB (i - 1) T=true
       ·rw [if_pos g2] at hgn; cases hgn
       ·exact ⟨g0,by simpa using g1,by simpa using g2⟩
    obtain ⟨g0,g1,g2⟩:=h1;rw [<- Bool.not_eq_true,bg4] at g1;rw [<- Bool.not_eq_true,dc6] at g2;rw [bq2 (by rw [<- Bool.not_eq_true,bg4]; omega),bq2 (by rw [<- Bool.not_eq_true,bg4]; omega)]
end
def zL (i:Nat):Dz:=⟨i+1,63,sm0⟩
def upN (d:Nat->Nat) (c:Nat->Int) (i:Nat):Sv:=⟨d i,some ⟨63,90000,Ms (d i) (i+1) c fN 0⟩,c,zL i⟩
def LB (d:Nat->Nat) (F:Nat->Nat) (k i:Nat):Sv:=if i<k then upN d (cLn k F i) i else ⟨d i,none,fun _=>0,zL i⟩
section
variable {O:Nat->Prop} {w0 w:World} {N n k:Nat} {os:List Dg} {F d:Nat->Nat}
theorem dt3 (h:Bo O w0 w N n (LB d F k) os) (hk:k<n):
  Calls prog 7 #[.pointer (some ⟨N,0,none⟩),.int .i64 k] w fun e w'=>e= .returned (.int .i64 0)/\Bo O w0 w' N n (sets (LB d F k) k (upN d (fun _=>0) k)) os:=by
 have hs:LB d F k k=⟨d k,none,fun _=>0,⟨k+1,63,sm0⟩⟩:=if_neg (Nat.lt_irrefl k);have:=bo5 h hk hs (fun _=>⟨by decide,by decide⟩);rw [bs1] at this;exact this
theorem dq0 (h:Bo O w0 w N n (sets (LB d F 0) 0 (upN d (fun _=>0) 0)) os):Bo O w0 w N n (LB d F 1) os:=h.same fun i _=>by
 by_cases h:i=0
 ·subst h
  have e:cLn 1 F 0=fun _=>0:=by
   funext j;unfold cLn;rw [if_neg (by omega),if_neg (by omega)]
  rw [ab5];unfold LB;rw [if_pos (by omega),e]
 ·rw [ab1 h]
  unfold LB;rw [if_neg (by omega),if_neg (by omega)]
theorem ds9 (h:Bo O w0 w N n (sets (LB d F k) k (upN d (fun _=>0) k)) os) (h1:1<=k) (hk:k<n) (hc:F (k - 1)+1<=F k/\F k<=F (k - 1)+64):
  Calls prog 8 #[.pointer (some ⟨N,0,none⟩),.int .i64 (k - 1:Nat),.int .i64 k,.int .i64 ((F k:Int) - F (k - 1))] w fun e w'=>e= .returned (.int .i64 0)/\Bo O w0 w' N n (LB d F (k+1)) os:=by
 refine (bo4 h (a:=k - 1) (b:=k) (by omega) hk (by omega) (cost:=(F k:Int) - F (k - 1)) (by omega) (by omega)).mono ?_;rintro e w' ⟨rfl,hB⟩;refine ⟨rfl,hB.same fun i hi=>?_⟩;have ea:sets (LB d F k) k (upN d (fun _=>0) k) (k - 1)=upN d (cLn k F (k - 1)) (k - 1):=by
  rw [ab1 (by omega)];exact if_pos (by omega)
 have eb:sets (LB d F k) k (upN d (fun _=>0) k) k=upN d (fun _=>0) k:=ab5 ..;by_cases hik:i=k
 ·subst hik
  have ec:cLn (i+1) F i=fun q=>if q=i - 1 then (F i:Int) - F (i - 1) else 0:=by
   funext j;unfold cLn;by_cases hj:j+1=i
   ·obtain rfl:j=i - 1:=by omega
    rw [if_pos hj,if_pos rfl]
   ·rw [if_neg hj,if_neg (by omega),if_neg (by omega)]
  rw [ab5,eb];show (⟨d i,some ⟨63,90000,(Ms (d i) (i+1) (fun _=>0) (fun _=>none) 0).link (i - 1) ((F i:Int) - F (i - 1))⟩,_,zL i⟩:Sv)=_;rw [aq5];unfold LB;rw [if_pos (by omega),ec];rfl
 ·rw [ab1 hik]
  by_cases hi1:i=k - 1
  ·have ec:cLn (k+1) F (k - 1)=fun q=>if q=k then (F k:Int) - F (k - 1) else cLn k F (k - 1) q:=by
    funext j;unfold cLn;by_cases hj:j=k
    ·subst hj
     rw [if_neg (by omega),if_pos (by omega),if_pos rfl]
    ·rw [if_neg hj]
     by_cases hj2:j+1=k - 1
     ·rw [if_pos hj2,if_pos hj2]
     ·rw [if_neg hj2,if_neg hj2,if_neg (by omega),if_neg (by omega)]
   subst hi1;rw [ab5,ea];show (⟨d (k - 1),some ⟨63,90000,(Ms (d (k - 1)) (k - 1+1) (cLn k F (k - 1)) (fun _=>none) 0).link k ((F k:Int) - F (k - 1))⟩,_,zL (k - 1)⟩:Sv)=_;rw [aq5];unfold LB;rw [if_pos (by omega),ec];rfl
  ·rw [ab1 hi1,ab1 hik]
   unfold LB;by_cases hlt:i<k
   ·have ec:cLn (k+1) F i=cLn k F i:=by
     funext j;unfold cLn;by_cases hj:j+1=i
     ·rw [if_pos hj,if_pos hj]
     ·rw [if_neg hj,if_neg hj]
      by_cases hj2:j=i+1
      ·rw [if_pos (by omega),if_pos (by omega)]
      ·rw [if_neg (by omega),if_neg (by omega)]
    rw [if_pos hlt,if_pos (by omega),ec]
   ·rw [if_neg hlt,if_neg (by omega)]
theorem dp8 {R:Nat} (h:Bo O w0 w N n (LB d F n) os) (h0:0<n):
  Calls prog 10 #[.pointer (some ⟨N,0,none⟩),.int .i64 (0:Nat),.agg #[.int .u32 ((167772160+0*65536:Nat):Int),.int .i64 16],.bool true] w fun e w'=>e= .returned (.int .i64 0)/\∃ st',(∀ i,i<n->LnAt 51 n F R d zL true 0 st' i)/\Bo O w0 w' N n st' os:=by
 have hs:LB d F n 0=⟨d 0,some ⟨62+1,90000,Ms (d 0) 1 (cLn n F 0) (fun _=>none) 0⟩,cLn n F 0,zL 0⟩:=if_pos h0;refine (aw9 h h0 hs (k:=0) (by omega)).mono ?_;rintro e w' ⟨rfl,hB⟩;refine ⟨rfl,_,fun i hi=>?_,hB⟩;by_cases hi0:i=0
 ·subst hi0
  refine ⟨62,90000,?_,by omega,by omega⟩;rw [ab5,Ml.mo1 1 1];rfl
 ·refine ⟨63,90000,?_,by omega,by omega⟩
  have e:mLn n F R d true i 0=Ms (d i) (i+1) (cLn n F i) fN 0:=by
   unfold mLn;rw [if_neg hi0,bq2 (by rw [<- Bool.not_eq_true,bg4]; omega),show flB i 0=false from by rw [<- Bool.not_eq_true,dc6]; omega,Ml.ms 1 (F i)];rfl
  rw [ab1 hi0,e];exact if_pos hi
end
end
section
open Go.RowKit Go.Maps Rm
attribute [local go_sem] Oper.semAt_some
theorem rz_off {F:List Nat} {w:World} {R room sp:Nat} {M:Mr} (h:Rz F w R (room+1) sp M) {a:Nat} {len:Int} (hp:Pk.ok ⟨a,len⟩) (hright:Am.right a len=true) (hrt:right ⟨2,0,0,0,a,len,false,0,0⟩=true) (hn:M.sm.own ⟨a,len⟩=some true):
  Calls prog 31 #[.pointer (some ⟨R,0,none⟩),.agg #[.int .u32 a,.int .i64 len],.bool false] w fun e w'=>e= .returned (.int .i64 0)/\Goes F w R room sp { M with sm:=app M.sm ⟨2,0,0,0,a,len,false,0,0⟩ } w':=by
 obtain ⟨hb,PB⟩:=nw w 31 #[.int .u32 a,.int .i64 len];have h1:=h.held hb;go_enter Tryz.func31,Tryz.ntmps31;go_upto_region 1 with fail;generalize w.alloc _=W at*;have HP:=af5 a len hp.1 W;rw [hright] at HP;have p0:W.cell? ⟨w.heap.size,0,none⟩=some (.int .u32 a):=PB.at_ 0;have p1:W.cell? ⟨w.heap.size,1,none⟩=some (.int .i64 len):=PB.at_ 1;go_upto_region 3 with (go_at_call 61; refine HP.mono ?_; rintro e w2 ⟨rfl,hb2⟩);have hb3:=next hb hb2;have h2:=h1.held hb2;have PB2:=PB.held hb2;clear HP p0 p1 PB h1 hb2 hb;have hS:∀ (d:Nat) (os:Array Obj),Calls prog 16 #[.pointer (some ⟨R,0,none⟩)] (Sort.grow (redrawn w2 d) os) fun e w'=>e= .returned (.pointer (some ⟨R,0,none⟩))/\Below (Sort.grow (redrawn w2 d) os).heap.size (Sort.grow (redrawn w2 d) os) w':=fun d os=>by
  obtain ⟨o,fl,tb,j,N,n,hR⟩:=(h2.held (below_regrown w2 d os)).rr;exact ac4 hR
 have hO:∀ (d:Nat) (os:Array Obj),Calls prog 62 #[.pointer (some ⟨R,0,none⟩),.agg #[.int .u32 a,.int .i64 len]] (Sort.grow (redrawn w2 d) os) fun e w'=>e= .returned (.tuple #[.bool true,.bool true])/\Below (Sort.grow (redrawn w2 d) os).heap.size (Sort.grow (redrawn w2 d) os) w':=fun d os=>by
  obtain ⟨o,fl,tb,j,N,n,hR⟩:=(h2.held (below_regrown w2 d os)).rr;obtain ⟨cn,cm,hnm,hS⟩:=hR.nt;exact cg0 hS hp (by rw [hn]; rfl) (by rw [hn]; rfl)
 have p0:=cell_regrown (PB2.at_ 0);have p1:=cell_regrown (PB2.at_ 1);have X:=H6 h hb3 PB2 h2 hp hrt;clear h hb3 PB2 h2 hp hrt hn hright;refine wp_region_quiet_below (by kernel_rfl) (by kernel_rfl) ?_
 repeat (go_big_quiet_step (first|(go_at_call 16; exact Calls.regrown_of (hS _ _))|(go_at_call 62; exact Calls.regrown_of (hO _ _))))
 refine wpQuiet_nil ?_;intro _ hw';obtain ⟨⟨dq,osq⟩,hw''⟩:=hw';subst hw'';have hbr:=below_regrown w2 dq osq;have hbz:=X.out.2.1.trans (hbr.mono X.out.2.1.size);clear hS hO p0 p1;have PB3:=X.out.2.2.1.held hbr;have h3:=X.out.2.2.2.1.held hbr;generalize Sort.grow (redrawn w2 dq) osq=W2 at*;have Y:=H3 hbz PB3 h3;clear hbr hbz PB3 h3;go_upto_region 10 with fail;have hz4:=Y.out.1;have h4:=Y.out.2.2;have PB4:=Y.out.2.1.drew;have hfit:(⟨2,0,0,0,a,len,false,0,0⟩:Rc).Fits:=⟨by show (-9223372036854775808:Int)<=2; decide,by show (2:Int)<=9223372036854775807; decide,by show 0<4294967296; omega,by show 0<4294967296; omega,by show 0<4294967296; omega,X.out.2.2.2.2.1.1,X.out.2.2.2.2.1.2.1,X.out.2.2.2.2.1.2.2,by show 0<4294967296; omega,by show 0<65536; omega⟩;have HA:=au2 (h4.held (Below.refl _ _).drew) hfit X.out.2.2.2.2.2 (by decide);have hbF:w.heap.size∉F:=fun hx=>by have:=X.out.1.lt hx; omega
 have u0:W2.drew.cell? ⟨w.heap.size,0,none⟩=some (.int .u32 a):=PB4.at_ 0;have u1:W2.drew.cell? ⟨w.heap.size,1,none⟩=some (.int .i64 len):=PB4.at_ 1;have Z:=Lib.hid hz4;clear hz4 h4 PB4 hfit;refine wp_region_held_drew (S:=fun u=>u.cell? ⟨w.heap.size,0,none⟩=some (.int .u32 a)/\u.cell? ⟨w.heap.size,1,none⟩=some (.int .i64 len)) (by kernel_rfl) ⟨u0,u1⟩ (fun hHeld=>?_);refine tk 0 (.pointer (some ⟨R,0,none⟩)) rfl hHeld ?_;go_frame;refine tk 1 (.pointer (some ⟨R,0,none⟩)) rfl hHeld ?_;go_frame;refine tk 2 (.pointer (some ⟨R,0,none⟩)) rfl hHeld ?_;go_frame;refine tk 3 (.agg #[.int .u32 a,.int .i64 len]) rfl hHeld ?_;go_frame;refine tk 4 (.bool false) rfl hHeld ?_;go_frame;refine tk 5 (.agg #[.int .i64 2,.int .u32 0,.int .u32 0,.int .u32 0,.int .u32 a,.int .i64 len,.bool false,.int .u32 0,.int .u16 0]) rfl hHeld ?_;go_frame;refine rl 6 rfl fun K hK=>?_
 go_simp;refine HA.mono ?_;rintro e w4 ⟨rfl,hG⟩;obtain ⟨F4,hz4,t4,n4⟩:=hG;refine hK.out _ _ ⟨t4.cell u0 hbF,t4.cell u1 hbF⟩ (fun hHeld=>?_);clear hK K HA u0 u1;have G:=Lib.hid (show Goes F w R room sp _ w4 from Goes.before Z.out.drew ⟨F4,hz4,t4,n4⟩);clear hz4 t4 n4;refine tk 7 (.int .i64 0) rfl hHeld ?_;go_frame;refine wpAnyH_done (by kernel_rfl) ?_ _;try go_frame
 clear hHeld;go_wp2_with fail;go_ret;exact ⟨rfl,G.out⟩
end
end Go.Proofs.YtlklghedfaeepaaGreat
