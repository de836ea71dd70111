import Derived.Test.YtlklghedfaeepaaGreatB34
set_option maxHeartbeats 8000000
namespace Go.Proofs.YtlklghedfaeepaaGreat
section
open Go.RowKit Go.Maps Rm Fm Sb
section
variable {O:Nat->Prop} {w0 w:World} {N n:Nat} {st:Nat->Sv} {os:List Dg}
end
def Mh (p:Pk) (d id:Nat) (c:Nat->Int) (fl:Ky->Option (Nat×Nat)) (f:Ways) (now:Int) (seq:Nat) (since:Int) (lease:Nat):Mr:=⟨id,⟨lease,fun z=>if z=p then some true else none,fl⟩,f,c,now,seq,since,d⟩
def flb (b:Bool) (q:Pk) (k t:Nat):Ky->Option (Nat×Nat):=fun z=>if b=true/\z=⟨q.a,q.n,k⟩ then some (1,t) else none
section
variable {p q:Pk} {d id fr k t s m:Nat} {c:Nat->Int} {now e:Int} {seq:Nat} {since:Int} {lease:Nat} {b:Bool} {f:Ways} {fl:Ky->Option (Nat×Nat)}
theorem ck3:flb b q k t ⟨q.a,q.n,k⟩=if b=true then some (1,t) else none:=by
 unfold flb
 cases b<;>simp
theorem aq6 (h:m<t):fea (flb b q k t ⟨q.a,q.n,k⟩) 1 m=true:=by
 rw [ck3]
 cases b
 ·simp [fea,bet]
 ·simp only [fea,bet,dcmp,cmpI,if_pos]
  rw [Bool.or_eq_true];right;simp;omega
theorem Mh.owns:(Mh p d id c fl f now seq since lease).owns ⟨p.a,p.n⟩=true:=by unfold Mr.owns Mh; simp
theorem Mh.owns_no (h:q≠p):(Mh p d id c fl f now seq since lease).owns ⟨q.a,q.n⟩=false:=by
 unfold Mr.owns;show ((if q=p then some true else none):Option Bool).getD false=false;rw [if_neg h];rfl
theorem Mh.hear (hq:q≠p) (hk:k≠id) (hm:m≠65535) (hf:fea (fl ⟨q.a,q.n,k⟩) s m=true):
  (Mh p d id c fl f now seq since lease).hear fr q.a q.n k s m=Mh p d id c fl (putR f ⟨q.a,q.n,fr⟩ ⟨fr,k,s,m,now+3⟩) now seq since lease:=by
 unfold Mr.hear;rw [if_neg (by rw [Mh.owns_no hq]; exact fun e=>e.elim (fun x=>Bool.noConfusion x) hk),if_neg hm];exact if_pos hf
theorem bp6 {e e':Int}:putR (way1 q ⟨fr,k,s,m,e⟩) ⟨q.a,q.n,fr⟩ ⟨fr,k,s,m,e'⟩=way1 q ⟨fr,k,s,m,e'⟩:=by
 funext z;show (if z=_ then _ else way1 _ _ z)=way1 _ _ z;rw [ab7,ab7];by_cases h:z=⟨q.a,q.n,fr⟩
 ·rw [if_pos h]; exact (if_pos h).symm
 ·rw [if_neg h]; exact (if_neg h).trans (if_neg h).symm
theorem Mh.pick {z:Int} (hk:fr<8) (hc:c fr=z) (h1:1<=z) (h2:z<=1000) (hm:m<=8000) (hf:fea (fl ⟨q.a,q.n,k⟩) s m=true):
  (Mh p d id c fl (way1 q ⟨fr,k,s,m,e⟩) now seq since lease).pick q.a q.n=some ⟨fr,k,s,m,e⟩/\far (m:Int) (cAt c (fr:Int))=(m:Int)+z:=by
 have hcA:cAt c (fr:Int)=z:=by
  unfold cAt;rw [if_neg (by omega)];simpa using hc
 have hfar:far (m:Int) z=(m:Int)+z:=by
  unfold far clampCost
  (repeat' split)<;>omega
 refine ⟨?_,by rw [hcA,hfar]⟩;have hr:(Mh p d id c fl (way1 q ⟨fr,k,s,m,e⟩) now seq since lease).reachF q.a q.n fr=some (⟨fr,k,s,m,e⟩,(m:Int)+z):=by
  unfold Mr.reachF;rw [show (Mh p d id c fl (way1 q ⟨fr,k,s,m,e⟩) now seq since lease).f ⟨q.a,q.n,fr⟩=some ⟨fr,k,s,m,e⟩ from by show way1 q _ _=_; rw [ab7,if_pos rfl]];simp only;rw [show (Mh p d id c fl (way1 q ⟨fr,k,s,m,e⟩) now seq since lease).c=c from rfl,hcA,hfar,if_neg];rintro (e|e|e)
  ·omega
  ·exact e hf
  ·omega
 exact ba9 (by omega) (fun j hj=>by
  show way1 q _ _=_;rw [ab7,if_neg];intro hz;injection hz with h1 h2 h3;have h4:(j:Int)=(fr:Int):=h3;omega) hr
theorem Mh.few {r:Rt}:Few (Mh p d id c (flb b q k t) (way1 q r) now seq since lease) 2 1:=⟨[p],[⟨q.a,q.n,k⟩],[⟨q.a,q.n,r.fr⟩],by simp,by simp,(fun x h=>by
 by_cases e:x=p
 ·simp [e]
 ·simp [Mh,e] at h),(fun x h=>by
 have h':(flb b q k t x).isSome=true:=h;unfold flb at h';by_cases hz:b=true/\x=⟨q.a,q.n,k⟩
 ·rw [hz.2]; simp
 ·rw [if_neg hz] at h'; cases h'),(fun x h=>by
 have h':(way1 q r x).isSome=true:=h;rw [ab7] at h';by_cases hz:x=⟨q.a,q.n,r.fr⟩
 ·rw [hz]; simp
 ·rw [if_neg hz] at h'; cases h')⟩
theorem Mh.good {r:Rt} (hp:Am.right q.a q.n=true) (h0:r.id≠0) (hs:r.seq<=1073741824):(Mh p d id c fl (way1 q r) now seq since lease).Good:=fun x r' h=>by
 have h':way1 q r x=some r':=h;rw [ab7] at h';by_cases hz:x=⟨q.a,q.n,r.fr⟩
 ·rw [if_pos hz] at h'
  injection h' with h';subst h' hz;exact ⟨rfl,hp,h0,hs⟩
 ·rw [if_neg hz] at h'; cases h'
theorem Mh.aged {r:Rt} (h:now+1<r.exp):(Mh p d id c fl (way1 q r) now seq since lease).aged=Mh p d id c fl (way1 q r) (now+1) seq since lease:=by
 unfold Mr.aged Mh;simp only [be2 h]
theorem Mh.advN (h:seq≠0/\now - since<12):(Mh p d id c fl f now seq since lease).advN=0:=by
 unfold Mr.advN;rw [if_pos (show ((Mh p d id c fl f now seq since lease).seq≠0/\(Mh p d id c fl f now seq since lease).now - (Mh p d id c fl f now seq since lease).since<12) from h)]
end
end
end Go.Proofs.YtlklghedfaeepaaGreat
