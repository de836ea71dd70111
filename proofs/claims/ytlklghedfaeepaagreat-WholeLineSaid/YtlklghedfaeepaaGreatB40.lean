import Derived.Test.YtlklghedfaeepaaGreatB39
import Derived.Test.YtlklghedfaeepaaGreatB38
import Derived.Test.YtlklghedfaeepaaGreatB35
set_option maxHeartbeats 8000000
namespace Go.Proofs.YtlklghedfaeepaaGreat
open _root_.Go.Proofs.Tryz (prog)
section
open Go.RowKit Go.Maps Rm Fm Sb
section
variable {n i R T:Nat} {F d:Nat->Nat}
theorem dn0 (hF:Fars n F) (hn:n<=8) (hi:i<n):(mLn n F R d true i R).dist (pz 0).a (pz 0).n=if i<=R then ((F i:Int),true) else (0,false):=by
 unfold mLn;by_cases h0:i=0
 ·subst h0
  rw [if_pos rfl,if_pos (Nat.zero_le _),hF.z];unfold Mr.dist;rw [if_pos (by rw [Ml.owns]; rfl)];rfl
 ·rw [if_neg h0]
  by_cases h1:i<=R
  ·have hw:wyB R i R=true:=bg4.2 ⟨by omega,h1,by omega⟩
   have hup:=hF.up (i - 1) (by omega);rw [show i - 1+1=i from by omega] at hup;have hle:=hF.le i hi;have hc:cLn n F i (i - 1)=(F i:Int) - F (i - 1):=by
    unfold cLn;rw [if_pos (by omega)]
   rw [dj7 hw,if_pos h1];obtain ⟨hp,hf⟩:=Ml.pick1 (p:=pz 0) (d:=d i) (id:=i+1) (ow:=none) (b:=flB i R) (now:=(R:Int)) (k:=1) (m:=F (i - 1)) (e:=(R:Int)+3) (seq:=0) (since:=0) (lease:=0) (t:=F i) (fr:=i - 1) (c:=cLn n F i) (z:=(F i:Int) - F (i - 1)) (by omega) hc (by omega) (by omega) (by omega) (by omega);unfold Mr.dist;rw [if_neg (by rw [Ml.owns]; decide),hp];show (far ((F (i - 1):Nat):Int) (cAt (cLn n F i) ((i - 1:Nat):Int)),true)=_;rw [hf];congr 1;omega
  ·have hw:wyB R i R=false:=by
    rw [<- Bool.not_eq_true,bg4];omega
   rw [bq2 hw,if_neg h1];unfold Mr.dist;rw [if_neg (by rw [Ml.owns]; decide),Ml.pick0]
theorem dr1 (hn:n<=8) (hi:i<n) (hT:R+30<=T):∃ ow b k t s1 s2 l,mLn n F R d false i T=Ml (pz 0) (d i) (i+1) (cLn n F i) ow b k t fN T s1 s2 l/\ow≠some true/\(ow.isSome=true\/b=true)/\k<4294967296:=by
 unfold mLn;by_cases h0:i=0
 ·subst h0
  rw [if_pos rfl];exact ⟨_,_,_,_,_,_,_,rfl,by decide,.inl rfl,by decide⟩
 ·rw [if_neg h0,bq2 (by rw [<- Bool.not_eq_true,bg4]; omega)]
  exact ⟨_,_,_,_,_,_,_,rfl,by decide,.inr (dc6.2 (by omega)),by decide⟩
theorem dl1 (hn:n<=8) (hi:i<n) (hT:R+30<=T):(mLn n F R d false i T).dist (pz 0).a (pz 0).n=(0,false):=by
 obtain ⟨ow,b,k,t,s1,s2,l,e,ho,-,-⟩:=dr1 (F:=F) (d:=d) hn hi hT;rw [e];unfold Mr.dist;rw [if_neg (by rw [Ml.owns]; rcases ow with _|_|_<;>simp_all),Ml.pick0]
theorem dt1 (hn:n<=8) (hi:i<n) (hT:R+30<=T) {room sp:Nat} {c:Nat->Int} {z:Dz}:Fibd ⟨d i,some ⟨room,sp,mLn n F R d false i T⟩,c,z⟩ [⟨(pz 0).a,(pz 0).n,3,0⟩]:=by
 obtain ⟨ow,b,k,t,s1,s2,l,e,ho,hb,hk⟩:=dr1 (F:=F) (d:=d) hn hi hT;rw [e];refine .run Ml.few0 (by omega) fun rs h=>?_
 have ho':(Ml (pz 0) (d i) (i+1) (cLn n F i) ow b k t fN T s1 s2 l).owns ⟨(pz 0).a,(pz 0).n⟩=false:=by
  rw [Ml.owns];rcases ow with _|_|_<;>simp_all
 rw [Ml.subj_on (ad3 (by omega)) hk hb (fun x hx=>absurd hx (Ml.ways0 x)) h,List.flatMap_cons,Mr.entry_hole (e:=⟨(pz 0).a,(pz 0).n,true⟩) ho' (Ml.pick0 _ _) rfl];rfl
end
section
variable {O:Nat->Prop} {w0 w:World} {N n:Nat} {st:Nat->Sv} {os:List Dg} {F:Nat->Nat} {R T q:Nat} {d:Nat->Nat}
theorem dk4:({ mLn n F R d true 0 T with sm:=app (mLn n F R d true 0 T).sm ⟨2,0,0,0,(pz 0).a,(pz 0).n,false,0,0⟩ }:Mr)=mLn n F R d false 0 T:=by
 have hown:(fun z:Pk=>if z=pz 0 then some false else if z=pz 0 then some true else none)=fun z=>if z=pz 0 then some false else none:=by
  funext z;by_cases hz:z=pz 0<;>simp [hz]
 unfold mLn;rw [if_pos rfl,if_pos rfl];exact congrArg (fun o=>(⟨1,⟨if T=0 then 0 else 8,o,flb false (pz 0) 1 1⟩,fN,cLn n F 0,T,if T=0 then 0 else 1,if T=0 then 0 else 1,d 0⟩:Mr)) hown
theorem dm9 {z:Nat->Dz} (h:Bo O w0 w N n st os) (hq:50<=q) (hT:T<=40) (hst:∀ i,i<n->LnAt (q+1) n F R d z true T st i) (h0:0<n):
  Calls prog 10 #[.pointer (some ⟨N,0,none⟩),.int .i64 (0:Nat),.agg #[.int .u32 (pz 0).a,.int .i64 (pz 0).n],.bool false] w fun e w'=>e= .returned (.int .i64 0)/\∃ st',(∀ i,i<n->LnAt q n F R d z false T st' i)/\Bo O w0 w' N n st' os:=by
 obtain ⟨room,sp,e,h1,h2⟩:=hst 0 h0;obtain ⟨r,rfl⟩:∃ r,room=r+1:=⟨room - 1,by omega⟩;have hown:(mLn n F R d true 0 T).sm.own ⟨(pz 0).a,(pz 0).n⟩=some true:=by
  unfold mLn;rw [if_pos rfl];show (if pz 0=pz 0 then some true else none:Option Bool)=some true;rw [if_pos rfl]
 refine (dk7 h h0 e (a:=(pz 0).a) (len:=(pz 0).n) (on:=false) (M':=mLn n F R d false 0 T) (by unfold mLn; rw [if_pos rfl,if_pos rfl]; rfl) (fun F' W Rr hz=>by
  refine (rz_off hz (ad3 (by omega)) (ab2 (by omega)) (by decide+kernel) hown).mono ?_;rintro e w2 ⟨rfl,hG⟩;exact ⟨rfl,by rw [<- dk4]; exact hG⟩)).mono ?_
 rintro y w' ⟨rfl,hB⟩;refine ⟨rfl,_,fun i hi=>?_,hB⟩;by_cases hi0:i=0
 ·subst hi0
  exact ⟨r,sp,ab5 ..,by omega,h2⟩
 ·obtain ⟨r2,s2,e2,h3,h4⟩:=hst i hi
  refine ⟨r2,s2,?_,by omega,h4⟩;rw [ab1 hi0,e2];unfold mLn;rw [if_neg hi0,if_neg hi0]
end
end
end Go.Proofs.YtlklghedfaeepaaGreat
namespace Go.Proofs.YtlklghedfaeepaaGreat.Lo
open _root_.Go.Proofs.Tryz (prog)
section
open Go.RowKit Go.Maps Lm
def fsOf (n:Nat) (fe:Nat->List Fe):List (List En):=(List.range n).map fun i=>(fe i).map toE
theorem dp2 {n i:Nat} {fe:Nat->List Fe} (hi:i<(fsOf n fe).length):(fsOf n fe)[i]=(fe i).map toE:=by simp only [fsOf,List.getElem_map,List.getElem_range]
theorem dt4 {w:World} {g T n:Nat} {fe:Nat->List Fe} (h:FbAt w g T n fe) (hn:n<=100) (hf:∀ i,i<n->(fe i).length<=1000/\∀ e∈fe i,(toE e).Fits):InF w g n (fsOf n fe):=by
 have hl:(fsOf n fe).length=n:=by unfold fsOf; rw [List.length_map,List.length_range]
 refine ⟨by omega,hn,fun i hi=>?_⟩;have hi2:i<n:=by omega
 obtain ⟨p,cap,q0,hL⟩:=h.row hi2;have e:(fsOf n fe)[i]=(fe i).map toE:=dp2 hi;have key:∀ l:List En,l=(fe i).map toE->∃ A c,w.cell? ⟨g,i,none⟩=some (.slice A l.length c)/\InE w A l.length c l:=fun l hl=>by
  subst hl;rw [List.length_map];exact ⟨p,cap,q0,df3 hL (hf i hi2).1 (hf i hi2).2⟩
 exact key _ e
theorem dp7 {n i x:Nat} {p:List Int} {how:Int} {ok:Bool} (hi:i<n) (hx:x=(pz 0).a) (h:Walks (fsOf n fun _=>[⟨(pz 0).a,(pz 0).n,3,0⟩]) x [] (i:Int) p how ok):how=3/\ok=true:=by
 have hl:(fsOf n fun _=>[⟨(pz 0).a,(pz 0).n,3,0⟩]).length=n:=by unfold fsOf; rw [List.length_map,List.length_range]
 have hk:∀ k (hk:k<(fsOf n fun _=>[⟨(pz 0).a,(pz 0).n,3,0⟩]).length),lookB x ((fsOf n fun _=>[⟨(pz 0).a,(pz 0).n,3,0⟩])[k]'hk)=⟨(pz 0).a,(pz 0).n,3,0⟩:=fun k hk=>by
  have e:(fsOf n fun _=>[⟨(pz 0).a,(pz 0).n,3,0⟩])[k]'hk=[⟨(pz 0).a,(pz 0).n,3,0⟩]:=dp2 hk;rw [e,hx];decide+kernel
 cases h with
 |out h=>exact absurd ⟨by omega,by omega⟩ h
 |ring h hm=>cases hm
 |stop e h hm hl' hh=>
  rw [hk] at hl';injection hl' with h1 h2 h3 h4;exact ⟨h3.symm,rfl⟩
 |go e h hm hl' hr=>
  rw [hk] at hl';injection hl' with h1 h2 h3 h4;exact absurd h3 (by decide)
theorem ln_walk {w:World} {g T n i:Nat} (h:FbAt w g T n fun _=>[⟨(pz 0).a,(pz 0).n,3,0⟩]) (hn:n<=8) (hi:i<n):
  Calls prog 14 #[.slice (some ⟨g,0,none⟩) n n,.int .i64 i,.int .u32 (pz 0).a] w fun e w'=>∃ v,e= .returned (.tuple #[v,.int .i64 3,.bool true])/\Below w.heap.size w w':=by
 have hF:=dt4 h (by omega) fun i _=>⟨by decide,fun e he=>by
  obtain rfl:=List.mem_singleton.1 he;exact ⟨(ad3 (i:=0) (by omega)).1,by show -9223372036854775808<=(16:Int); omega,by show (16:Int)<=9223372036854775807; omega,by show -9223372036854775808<=(3:Int); omega,by show (3:Int)<=9223372036854775807; omega,by show -9223372036854775808<=(0:Int); omega,by show (0:Int)<=9223372036854775807; omega⟩⟩
 have hl:(fsOf n fun _=>[⟨(pz 0).a,(pz 0).n,3,0⟩]).length=n:=by unfold fsOf; rw [List.length_map,List.length_range]
 have:=co9 hF (x:=(pz 0).a) (ad3 (i:=0) (by omega)).1 (i:Int);rw [hl] at this;refine this.mono ?_;rintro e w' ⟨v,p,how,ok,rfl,hw,-,-,hb⟩;obtain ⟨rfl,rfl⟩:=dp7 hi rfl hw;exact ⟨v,rfl,hb⟩
end
end Go.Proofs.YtlklghedfaeepaaGreat.Lo
namespace Go.Proofs.YtlklghedfaeepaaGreat
open _root_.Go.Proofs.Tryz (prog)
section
open Go.RowKit Go.Maps Rm Fm Sb
def lnC (cs:List Int) (k:Nat):Nat:=match cs[k]? with
 |some x=>(1+bits .and .i64 x 63).toNat
 |none=>1
def lnF (cs:List Int):Nat->Nat
 |0=>0
 |k+1=>lnF cs k+lnC cs (k+1)
def farL (F:Nat->Nat) (k:Nat):List Int:=(List.range k).map fun i=>(F i:Int)
def NewN (w:World) (N n:Nat) (d:Nat->Nat) (wr:World):Prop:=Bo (fun x=>w.heap.size<=x) w wr N n (fun i=>⟨d i,none,fun _=>0,zL i⟩) []
def FrB (w:World) (N n:Nat) (d F:Nat->Nat) (v:Value) (k:Nat) (wr:World):Prop:=Fr w N n v (farL F (max 1 k)) (LB d F k) wr
def FrM (w:World) (N n:Nat) (d F:Nat->Nat) (v:Value) (k:Nat) (wr:World):Prop:=Fr w N n v (farL F (max 1 k)) (sets (LB d F k) k (upN d (fun _=>0) k)) wr
def FrL (w:World) (N n:Nat) (d F:Nat->Nat) (v:Value) (k:Nat) (wr:World):Prop:=Fr w N n v (farL F (max 1 k)) (LB d F (k+1)) wr
def FtB (w:World) (N n:Nat) (d F:Nat->Nat) (L:List Nat) (wr:World):Prop:=Ft w N n L (LB d F n) wr
def FtA (w:World) (N n:Nat) (d F:Nat->Nat) (R q:Nat) (on:Bool) (T:Nat) (L:List Nat) (wr:World):Prop:=∃ st,(∀ i,i<n->LnAt q n F R d zL on T st i)/\Ft w N n L st wr
theorem dr3 (cs:List Int) (k:Nat) (h:k<cs.length):1+bits .and .i64 cs[k] 63=(lnC cs k:Int):=by
 obtain ⟨y,hy,hm⟩:=dh5 cs[k] 63 (by omega);replace hm:bits .and .i64 cs[k] 63=(y:Int):=hm;unfold lnC;rw [List.getElem?_eq_getElem h];show 1+bits .and .i64 cs[k] 63=(((1+bits .and .i64 cs[k] 63).toNat:Nat):Int);rw [hm];omega
theorem do6 (cs:List Int) (k:Nat) (h:cs.length<=k):lnC cs k=1:=by
 unfold lnC;rw [List.getElem?_eq_none h]
theorem do7 (cs:List Int) (k:Nat):1<=lnC cs k/\lnC cs k<=64:=by
 by_cases h:k<cs.length
 ·have e:=dr3 cs k h
  obtain ⟨y,hy,hm⟩:=dh5 cs[k] 63 (by omega);replace hm:bits .and .i64 cs[k] 63=(y:Int):=hm;rw [hm] at e;omega
 ·rw [do6 cs k (by omega)]
  omega
theorem dj5 (cs:List Int) (k:Nat) (h:1<=k):lnF cs k=lnF cs (k - 1)+lnC cs k:=by
 obtain ⟨j,rfl⟩:∃ j,k=j+1:=⟨k - 1,by omega⟩;rfl
theorem dr2 (cs:List Int):∀ k,lnF cs k<=64*k
 |0=>Nat.le_refl _
 |k+1=>by
  have h1:=dr2 cs k;have h2:=(do7 cs (k+1)).2;have h3:=dj5 cs (k+1) (by omega);rw [show k+1 - 1=k from rfl] at h3;omega
theorem dq1 (cs:List Int):lnF cs 0=0:=rfl
theorem dq2 (cs:List Int) (n:Nat):Fars n (lnF cs):=⟨rfl,fun i _=>by
 have h2:=do7 cs (i+1);have h3:=dj5 cs (i+1) (by omega);rw [show i+1 - 1=i from rfl] at h3;omega⟩
theorem da9 (F:Nat->Nat) (k:Nat):(farL F k).length=k:=by unfold farL; rw [List.length_map,List.length_range]
theorem dp4 {F:Nat->Nat} {k i:Nat} (h:i<(farL F k).length):(farL F k)[i]=(F i:Int):=by simp only [farL,List.getElem_map,List.getElem_range]
theorem dp3 (F:Nat->Nat) (k:Nat):farL F (k+1)=farL F k++[(F k:Int)]:=by unfold farL; rw [List.range_succ,List.map_append]; rfl
theorem g_new (n:Nat) (h2:2<=n) (h8:n<=8) (w:World):Calls prog 6 #[.int .i64 (n:Nat),.int .i64 128] w fun e w'=>∃ N d,e= .returned (.pointer (some ⟨N,0,none⟩))/\NewN w N n d w'/\Below w.heap.size w w':=by
 refine (dr8 n (by omega) h8 128 (by omega) (by omega) w).mono ?_;rintro e w' ⟨N,d,rfl,h⟩;have T:=h.tu;exact ⟨N,d,rfl,h,T.os,T.tape,T.output,T.size,fun i hi=>T.block i hi (fun ho=>by have ho':w.heap.size<=i:=ho; omega)⟩
section
variable {w wr w1:World} {N n k m c R T q:Nat} {d F:Nat->Nat} {v:Value} {p:Option Addr} {on:Bool} {L:List Nat}
theorem dt5 (F:Nat->Nat) (hz:F 0=0) (h:NewN w N n d wr) (hb:Below w.heap.size w wr):FrB w N n d F (.slice (some ⟨wr.heap.size,0,none⟩) 1 1) 0 (wr.alloc (.cells #[.int .i64 0] 3)):=by
 have h1:Bo (fun x=>w.heap.size<=x) w wr N n (LB d F 0) []:=h.same fun i _=>by unfold LB; rw [if_neg (by omega)]
 have:=Fr.first h1 (fun _ hx=>hx) hb 0;unfold FrB;rw [show farL F (max 1 0)=[0] from by show [(F 0:Int)]=[0]; rw [hz]; rfl];exact this
theorem FrB.below (h:FrB w N n d F v k wr):Below w.heap.size w wr:=Fr.below h
theorem FrM.below (h:FrM w N n d F v k wr):Below w.heap.size w wr:=Fr.below h
theorem FrL.below (h:FrL w N n d F v k wr):Below w.heap.size w wr:=Fr.below h
theorem FrB.held (h:FrB w N n d F v k wr) (hb:Below wr.heap.size wr w1):FrB w N n d F v k w1:=Fr.held h hb
theorem g_boot (h:FrB w N n d F v k wr) (hk:k<n):Calls prog 7 #[.pointer (some ⟨N,0,none⟩),.int .i64 k] wr fun e w'=>e= .returned (.int .i64 0)/\FrM w N n d F v k w':=by
 refine (Fr.call (S:=fun st'=>st'=sets (LB d F k) k (upN d (fun _=>0) k)) h fun O w0 hB=>(dt3 hB hk).mono fun e w' ⟨he,h'⟩=>⟨he,_,rfl,h'⟩).mono ?_;rintro e w' ⟨rfl,st',rfl,h'⟩;exact ⟨rfl,h'⟩
theorem g_zero (h:FrM w N n d F v 0 wr):FrB w N n d F v 1 wr:=⟨dq0 h.net,h.far,Fr.below h⟩
theorem dr5 (h:FrM w N n d F v k wr) (h1:1<=k) (hk:k<n) {x:Nat} (hx:F k=F (k - 1)+x) (hx1:1<=x/\x<=64):Calls prog 8 #[.pointer (some ⟨N,0,none⟩),.int .i64 (k - 1:Nat),.int .i64 k,.int .i64 x] wr fun e w'=>e= .returned (.int .i64 0)/\FrL w N n d F v k w':=by
 have e:(F k:Int) - F (k - 1)=(x:Int):=by omega
 refine (Fr.call (r:= .returned (.int .i64 0)) (S:=fun st'=>st'=LB d F (k+1)) h fun O w0 hB=>?_).mono ?_
 ·have:=ds9 hB h1 hk (by omega)
  rw [e] at this;exact this.mono fun e w' ⟨he,h'⟩=>⟨he,_,rfl,h'⟩
 ·rintro e w' ⟨rfl,st',rfl,h'⟩
  exact ⟨rfl,h'⟩
theorem g_far (h:FrL w N n d F (.slice p m c) k wr) (h1:1<=k):∃ g,p=some ⟨g,0,none⟩/\k<=c/\wr.cell? ⟨g,k - 1,none⟩=some (.int .i64 (F (k - 1):Nat)):=by
 have hl:=da9 F (max 1 k);obtain ⟨e,g,hp,hc,hat⟩:=Fr.at_ h (i:=k - 1) (by omega);rw [dp4] at hat;exact ⟨g,hp,by omega,hat⟩
theorem dr4 (h:FrL w N n d F (.slice p k c) k wr) (h1:1<=k) (hk:k<=8):∃ g' cap' W',(Builtin.append_ #[22,22] 22 #[.slice p k c,.slice (some ⟨wr.heap.size,0,none⟩) 1 1]).run prog (wr.alloc (.cells #[.int .i64 (F k:Nat)] 3))= .ok (.slice (some ⟨g',0,none⟩) (k+1) cap') W'/\FrB w N n d F (.slice (some ⟨g',0,none⟩) (k+1) cap') (k+1) W':=by
 have hm:max 1 k=k:=by omega
 have h':Fr w N n (.slice p k c) (farL F k) (LB d F (k+1)) wr:=by
  have h2:Fr w N n (.slice p k c) (farL F (max 1 k)) (LB d F (k+1)) wr:=h;rw [hm] at h2;exact h2
 obtain ⟨g',cap',W',h3,h4⟩:=h'.push (F k:Int) (by rw [da9]; omega);rw [da9] at h3 h4;refine ⟨g',cap',W',h3,?_⟩;unfold FrB;rw [show max 1 (k+1)=k+1 by omega,dp3];exact h4
theorem g_ft (h:FrB w N n d F (.slice p m c) n wr) (h1:1<=n) (o:Obj):m=n/\n<=c/\∃ g,p=some ⟨g,0,none⟩/\g<wr.heap.size/\(∀ i,i<n->wr.cell? ⟨g,i,none⟩=some (.int .i64 (F i:Nat)))/\FtB w N n d F [g,wr.heap.size] (wr.alloc o):=by
 have hl:(farL F (max 1 n)).length=n:=by rw [da9]; omega
 obtain ⟨e,g,hp,hc,-⟩:=Fr.at_ h (i:=0) (by omega);refine ⟨by omega,by omega,g,hp,(h.far.lt (b:=g) (by rw [hp]; rfl)).1,fun i hi=>?_,Fr.ft h hp o⟩;obtain ⟨-,g2,hp2,-,hat⟩:=Fr.at_ h (i:=i) (by omega);rw [hp] at hp2;injection hp2 with hp2;injection hp2 with hp2;subst hp2;rw [dp4] at hat;exact hat
theorem FtA.below (h:FtA w N n d F R q on T L wr):Below w.heap.size w wr:=by
 obtain ⟨_,_,h⟩:=h;exact h.below
theorem FtB.held (h:FtB w N n d F L wr) (hb:Below wr.heap.size wr w1):FtB w N n d F L w1:=Ft.held h hb
theorem FtA.held (h:FtA w N n d F R q on T L wr) (hb:Below wr.heap.size wr w1):FtA w N n d F R q on T L w1:=by
 obtain ⟨st,h1,h2⟩:=h;exact ⟨st,h1,h2.held hb⟩
theorem g_own (h:FtB w N n d F L wr) (h0:0<n) (R:Nat):Calls prog 10 #[.pointer (some ⟨N,0,none⟩),.int .i64 (0:Nat),.agg #[.int .u32 ((167772160+0*65536:Nat):Int),.int .i64 16],.bool true] wr fun e w'=>e= .returned (.int .i64 0)/\FtA w N n d F R 51 true 0 L w'/\∀ x,x∈L->w'.heap[x]?=wr.heap[x]?:=by
 refine (Ft.call (S:=fun st'=>∀ i,i<n->LnAt 51 n F R d zL true 0 st' i) h fun O w0 hB=>dp8 hB h0).mono ?_;rintro e w' ⟨rfl,st',hS,h',hL⟩;exact ⟨rfl,⟨st',hS,h'⟩,hL⟩
theorem dp0 (hF:Fars n F) (hn:n<=8) (hR:1<=R) (hq:50<=q) (hT:T<=40) (hon:on=true->T<R/\T<8) (hoff:on=false->R<=T) (h:FtA w N n d F R q on T L wr):Calls prog 11 #[.pointer (some ⟨N,0,none⟩)] wr fun e w'=>e= .returned (.tuple #[])/\FtA w N n d F R q on (T+1) L w'/\∀ x,x∈L->w'.heap[x]?=wr.heap[x]?:=by
 obtain ⟨st,h1,h2⟩:=h;refine (Ft.call (S:=fun st'=>∀ i,i<n->LnAt q n F R d zL on (T+1) st' i) h2 fun O w0 hB=>dp9 hq hF hn hR hT hon hoff hB h1).mono ?_;rintro e w' ⟨rfl,st',hS,h',hL⟩;exact ⟨rfl,⟨st',hS,h'⟩,hL⟩
theorem g_off (hT:T<=40) (h0:0<n) (h:FtA w N n d F R 51 true T L wr):Calls prog 10 #[.pointer (some ⟨N,0,none⟩),.int .i64 (0:Nat),.agg #[.int .u32 ((167772160+0*65536:Nat):Int),.int .i64 16],.bool false] wr fun e w'=>e= .returned (.int .i64 0)/\FtA w N n d F R 50 false T L w'/\∀ x,x∈L->w'.heap[x]?=wr.heap[x]?:=by
 obtain ⟨st,h1,h2⟩:=h;refine (Ft.call (S:=fun st'=>∀ i,i<n->LnAt 50 n F R d zL false T st' i) h2 fun O w0 hB=>dm9 hB (Nat.le_refl _) hT h1 h0).mono ?_;rintro e w' ⟨rfl,st',hS,h',hL⟩;exact ⟨rfl,⟨st',hS,h'⟩,hL⟩
theorem dr6 {z:Int} {ok:Bool} {i:Nat} (h:FtA w N n d F R q on T L wr) (hi:i<n) (hz:(mLn n F R d on i T).dist (pz 0).a (pz 0).n=(z,ok)):
  ∃ Rr,(∀ w',Below wr.heap.size wr w'->Calls prog 12 #[.pointer (some ⟨N,0,none⟩),.int .i64 i] w' fun e w2=>e= .returned (.pointer (some ⟨Rr,0,none⟩))/\Below w'.heap.size w' w2)/\
   ∀ w',Below wr.heap.size wr w'->Calls prog 13 #[.pointer (some ⟨Rr,0,none⟩),.agg #[.int .u32 ((167772160+0*65536:Nat):Int),.int .i64 16]] w' fun e w2=>e= .returned (.tuple #[.int .i64 z,.bool ok])/\Below w'.heap.size w' w2:=by
 obtain ⟨st,h1,h2⟩:=h;obtain ⟨room,sp,e,-,-⟩:=h1 i hi;obtain ⟨Rr,⟨F',hR⟩,hRr⟩:=h2.net.at_router hi e;exact ⟨Rr,hRr,fun w' hb=>hR.at_dist (ad3 (i:=0) (by omega)) hz w' hb⟩
theorem dq6 {i:Nat} (hF:Fars n F) (hn:n<=8) (h:FtA w N n d F R q true R L wr) (hi:i<n):∃ (z:Int) (ok:Bool),(z,ok)=(if i<=R then ((F i:Int),true) else (0,false))/\
  ∃ Rr,(∀ w',Below wr.heap.size wr w'->Calls prog 12 #[.pointer (some ⟨N,0,none⟩),.int .i64 i] w' fun e w2=>e= .returned (.pointer (some ⟨Rr,0,none⟩))/\Below w'.heap.size w' w2)/\
   ∀ w',Below wr.heap.size wr w'->Calls prog 13 #[.pointer (some ⟨Rr,0,none⟩),.agg #[.int .u32 ((167772160+0*65536:Nat):Int),.int .i64 16]] w' fun e w2=>e= .returned (.tuple #[.int .i64 z,.bool ok])/\Below w'.heap.size w' w2:=
 ⟨_,_,rfl,dr6 h hi (dn0 hF hn hi)⟩
theorem dp1 {i:Nat} (hn:n<=8) (h:FtA w N n d F R q false T L wr) (hi:i<n) (hT:R+30<=T):
  ∃ Rr,(∀ w',Below wr.heap.size wr w'->Calls prog 12 #[.pointer (some ⟨N,0,none⟩),.int .i64 i] w' fun e w2=>e= .returned (.pointer (some ⟨Rr,0,none⟩))/\Below w'.heap.size w' w2)/\
   ∀ w',Below wr.heap.size wr w'->Calls prog 13 #[.pointer (some ⟨Rr,0,none⟩),.agg #[.int .u32 ((167772160+0*65536:Nat):Int),.int .i64 16]] w' fun e w2=>e= .returned (.tuple #[.int .i64 0,.bool false])/\Below w'.heap.size w' w2:=
 dr6 h hi (dl1 hn hi hT)
theorem g_walk {i:Nat} (h:FtA w N n d F R q false T L wr) (hn:n<=8) (hi:i<n) (hT:R+30<=T):Calls prog 15 #[.pointer (some ⟨N,0,none⟩)] wr fun e w1=>∃ g,e= .returned (.slice (some ⟨g,0,none⟩) n n)/\Below wr.heap.size wr w1/\
  ∀ w2,Below w1.heap.size w1 w2->Calls prog 14 #[.slice (some ⟨g,0,none⟩) n n,.int .i64 i,.int .u32 ((167772160+0*65536:Nat):Int)] w2 fun e w3=>∃ v,e= .returned (.tuple #[v,.int .i64 3,.bool true])/\Below w2.heap.size w2 w3:=by
 obtain ⟨st,h1,h2⟩:=h;refine (dg0 h2.net (fe:=fun _=>[⟨(pz 0).a,(pz 0).n,3,0⟩]) (fun j hj=>by
  obtain ⟨room,sp,e,-,-⟩:=h1 j hj;rw [e];exact dt1 hn hj hT)).mono ?_
 rintro e w1 ⟨rfl,hL⟩;refine ⟨_,rfl,hL.below,fun w2 hb=>?_⟩;exact Lo.ln_walk (hL.at.held hb) hn hi
end
end
end Go.Proofs.YtlklghedfaeepaaGreat
