import Derived.Test.YtafkfnodcemefaaGreatB62
import Derived.Test.YtafkfnodcemefaaGreatB46
set_option maxHeartbeats 8000000
namespace Go.Proofs.YtafkfnodcemefaaGreat
open _root_.Go.Proofs.Tryz (prog)
section
open Go.RowKit Go.Maps Rm Fm Sb
section
variable {w w':World} {N MB n:Nat} {ms:Nat->MaG} {v:Value} {xs:List Pe} {os:List Dg}
theorem ng_cut (h:NwG w N MB n ms v xs os) (hlen:os.length<=256) {k:Nat} (hk:k<os.length) {most:Int} (h0:0<=most) (hm:most<(os[k].2.2.length:Int)) (hh:T.Tm.headed os[k].2.2=true) (h256:∀ c∈os[k].2.2,c<256) (hbl:os[k].2.2.length<=5000):
  Q 16 #[K N,I k,I most] w fun e w'=>e= .returned (I 0)/\∃ v',NwG w' N MB n ms v' (xs.eraseIdx k) (os.eraseIdx k)/\Turn (N::v.ownBlock.toList) w w'/\v'.ownBlock=v.ownBlock:=by
 obtain ⟨⟨fr,i,bs⟩,ho⟩:∃ g,os[k]=g:=⟨_,rfl⟩;rw [ho] at hm hh h256 hbl;by_cases hi:i<n
 ·cases hr:(ms i).r with
  |none=>exact av5 h hk ho (fun _=>hr) most
  |some x=>
   obtain ⟨R,J,sp,M⟩:=x;have hms:ms i=⟨(ms i).d,some ⟨R,J,sp,M⟩,(ms i).F,(ms i).c,(ms i).z⟩:=by rw [<- hr]
   obtain ⟨m,rfl⟩:∃ m:Nat,most=m:=⟨most.toNat,G⟩;have hm':m<bs.length:=by simp only at hm; omega
   refine (ng_deliverR h hlen hk ho hi hms (m:=m) G h256 hbl (Pst:=fun u w'=>Below u.heap.size u w') (fun u w' hb=>Turn.of_below _ hb) (fun u A cap hz hs=>gz_junk hz hs (cut_none hh hm') fr)).mono ?_;rintro e w' ⟨rfl,v',u,hN,hT,hv,hb⟩;exact ⟨rfl,v',hN.held hb,hT.trans (Turn.of_below _ hb),hv⟩
 ·exact av5 h hk ho (fun h=>absurd h hi) most
def Off (N:Nat) (v:Value) (N' B' n:Nat) (m':Nat->MaG) (v':Value) (x':List Pe):Prop:=∀ x,x∈N::v.ownBlock.toList->x≠N'/\x≠B'/\(∀ i,i<n->x∉(m' i).F)/\¬ inW v' x' x
theorem Off.fewer {N' B':Nat} {v' u u':Value} {x' y':List Pe} (h:Off N v N' B' n ms v' x') (hv:u.ownBlock=v.ownBlock) (hu:u'.ownBlock=v'.ownBlock) (hx:∀ p,p∈y'->p∈x'):Off N u N' B' n ms u' y':=fun x hm=>by
 rw [hv] at hm;obtain ⟨h1,h2,h3,h4⟩:=h x hm;refine ⟨h1,h2,h3,fun hw=>h4 ?_⟩;rcases hw with e|⟨p,hp,e⟩
 ·exact .inl (hu ▸ e)
 ·exact .inr ⟨p,hx p hp,e⟩
theorem NwG.off {N':Nat} {u:Value} (h:NwG w N MB n ms v xs os) (t:Turn (N'::u.ownBlock.toList) w w') (ho:Off N' u N MB n ms v xs):NwG w' N MB n ms v xs os:=
 ⟨h.nt.turn t (fun hm=>(ho _ hm).1 rfl) (fun hm=>(ho _ hm).2.1 rfl) (fun i hi _ hx hm=>(ho _ hm).2.2.1 i hi hx),h.wy.turn t (fun _ hx hm=>(ho _ hm).2.2.2 hx),h.apart⟩
end
structure Two (w0 w:World) (N1 N2 n:Nat) (s:Nat->SvG) (o1 o2:List Dg):Prop where
 ex:∃ B1 m1 v1 x1 B2 m2 v2 x2,NwG w N1 B1 n m1 v1 x1 o1/\NwG w N2 B2 n m2 v2 x2 o2/\(∀ i,i<n->(m1 i).sv=s i)/\(∀ i,i<n->(m2 i).sv=s i)/\Off N1 v1 N2 B2 n m2 v2 x2/\Off N2 v2 N1 B1 n m1 v1 x1/\(∀ x,x∈N1::v1.ownBlock.toList->w0.heap.size<=x)/\∀ x,x∈N2::v2.ownBlock.toList->w0.heap.size<=x
 below:Below w0.heap.size w0 w
 l1:o1.length<=256
 l2:o2.length<=256
section
variable {w0 w w':World} {N1 N2 n:Nat} {s:Nat->SvG} {o1 o2 os:List Dg}
theorem Two.held (h:Two w0 w N1 N2 n s o1 o2) (hb:Below w.heap.size w w'):Two w0 w' N1 N2 n s o1 o2:=by
 obtain ⟨B1,m1,v1,x1,B2,m2,v2,x2,a1,a2,a3,a4,a5,a6,a7,a8⟩:=h.ex;exact ⟨⟨B1,m1,v1,x1,B2,m2,v2,x2,a1.held hb,a2.held hb,a3,a4,a5,a6,a7,a8⟩,next h.below hb,h.l1,h.l2⟩
theorem Two.bo1 (h:Two w0 w N1 N2 n s o1 o2):BoG (fun _=>True) w w N1 n s o1:=by
 obtain ⟨B1,m1,v1,x1,B2,m2,v2,x2,a1,a2,a3,a4,a5,a6,a7,a8⟩:=h.ex;exact ⟨B1,m1,v1,x1,a1,a3,trivial,trivial,fun _ _ _ _=>trivial,fun _ _=>trivial,.refl fun _ _=>trivial,h.l1⟩
theorem Two.bo2 (h:Two w0 w N1 N2 n s o1 o2):BoG (fun _=>True) w w N2 n s o2:=by
 obtain ⟨B1,m1,v1,x1,B2,m2,v2,x2,a1,a2,a3,a4,a5,a6,a7,a8⟩:=h.ex;exact ⟨B2,m2,v2,x2,a2,a4,trivial,trivial,fun _ _ _ _=>trivial,fun _ _=>trivial,.refl fun _ _=>trivial,h.l2⟩
theorem two_cut (h:Two w0 w N1 N2 n s o1 o2) {k:Nat} (hk:k<o1.length) {most:Int} (h0:0<=most) (hm:most<(o1[k].2.2.length:Int)) (hh:T.Tm.headed o1[k].2.2=true) (h256:∀ c∈o1[k].2.2,c<256) (hbl:o1[k].2.2.length<=5000):
  Q 16 #[K N1,I k,I most] w fun e w'=>e= .returned (I 0)/\Two w0 w' N1 N2 n s (o1.eraseIdx k) o2:=by
 obtain ⟨B1,m1,v1,x1,B2,m2,v2,x2,a1,a2,a3,a4,a5,a6,a7,a8⟩:=h.ex;refine (ng_cut a1 h.l1 hk h0 hm hh h256 hbl).mono ?_;rintro e w' ⟨rfl,v',hN,hT,hv⟩;exact ⟨rfl,⟨B1,m1,v',_,B2,m2,v2,x2,hN,a2.off hT a5,a3,a4,a5.fewer hv rfl (fun _ h=>h),a6.fewer rfl hv (fun p hp=>List.mem_of_mem_eraseIdx hp),(fun x hx=>a7 x (by rw [<- hv]; exact hx)),a8⟩,h.below.trans (hT.below a7 h.below.size),by have:=List.length_eraseIdx_le o1 k; have:=h.l1; omega,h.l2⟩
theorem two_lose (h:Two w0 w N1 N2 n s o1 o2) {k:Nat} (hk:k<o2.length):
  Q 17 #[K N2,I k] w fun e w'=>e= .returned (I 0)/\Two w0 w' N1 N2 n s o1 (o2.eraseIdx k):=by
 obtain ⟨B1,m1,v1,x1,B2,m2,v2,x2,a1,a2,a3,a4,a5,a6,a7,a8⟩:=h.ex;refine (ci7 a2 hk).mono ?_;rintro e w' ⟨rfl,v',hN,hT,hv⟩;exact ⟨rfl,⟨B1,m1,v1,x1,B2,m2,v',_,a1.off hT a6,hN,a3,a4,a5.fewer rfl hv (fun p hp=>List.mem_of_mem_eraseIdx hp),a6.fewer hv rfl (fun _ h=>h),a7,(fun x hx=>a8 x (by rw [<- hv]; exact hx))⟩,h.below.trans (hT.below a8 h.below.size),h.l1,by have:=List.length_eraseIdx_le o2 k; have:=h.l2; omega⟩
theorem two_packet (h:Two w0 w N1 N2 n s o1 o2) {k:Nat} (hk:k<o1.length) {fr i:Nat} {bs:List Nat} (ho:o1[k]=(fr,i,bs)) (h256:∀ c∈bs,c<256) (hbl:bs.length<=5000):
  Q 15 #[K N1,I k] w fun e w'=>∃ g cap,e= .returned (.tuple #[.agg #[I fr,I i,Lt g bs.length cap],O true])/\Bw w w':=by
 obtain ⟨B1,m1,v1,x1,B2,m2,v2,x2,a1,a2,a3,a4,a5,a6,a7,a8⟩:=h.ex;refine (ng_packet a1 hk ho h256 hbl).mono ?_;rintro e w' ⟨g,cap,rfl,-,hb⟩;exact ⟨g,cap,rfl,hb⟩
theorem two_router (h:Two w0 w N1 N2 n s o1 o2) {i:Nat} (hi:i<n):∃ rv:Option Addr,(∀ w',Below w.heap.size w w'->Q 12 #[K N1,I i] w' (Rw w' (.pointer rv)))/\∀ a,rv=some a->∃ R F J sp M,a=⟨R,0,none⟩/\∀ w',Below w.heap.size w w'->Gz F w' R J sp M:=by
 obtain ⟨B1,m1,v1,x1,B2,m2,v2,x2,a1,-⟩:=h.ex;have hk:=a1.nt.mas.ok i hi
 cases hr:(m1 i).r with
 |none=>
  refine ⟨none,fun w' hb=>?_,fun a e=>by cases e⟩;have H:=bd0 (a1.nt.held hb) hi;unfold MaG.rv at H;rw [hr] at H;exact H
 |some x=>
  obtain ⟨R,J,sp,M⟩:=x;refine ⟨some (Y R 0),fun w' hb=>?_,fun a e=>?_⟩
  ·have H:=bd0 (a1.nt.held hb) hi
   unfold MaG.rv at H;rw [hr] at H;exact H
  ·cases e
   exact ⟨R,_,J,sp,M,rfl,fun w' hb=>(hk.some hr).held hb⟩
theorem Two.start {O1 O2:Nat->Prop} {wa wb w3:World} {st:Nat->SvG} (h1:BoG O1 wa w3 N1 n st os) (h2:BoG O2 wb w N2 n st os) (hO1:∀ x,O1 x->w0.heap.size<=x) (hO:∀ x,O2 x->w3.heap.size<=x) (h0:Below w0.heap.size w0 w3) (hb:Below w3.heap.size w3 w):Two w0 w N1 N2 n st os os:=by
 obtain ⟨B1,m1,v1,x1,a1,a2,b1,b2,b3,b4,b5,b6⟩:=h1.ex;obtain ⟨B2,m2,v2,x2,c1,c2,d1,d2,d3,d4,d5,d6⟩:=h2.ex;have lo:∀ x,x∈N1::v1.ownBlock.toList->x<w3.heap.size/\∃ tg C,tg≠5/\Blk tg w x C:=fun x hx=>by
  rcases List.mem_cons.1 hx with e|e
  ·rw [e]
   exact ⟨a1.nt.head.lt,_,_,by decide,a1.nt.head.held hb⟩
  ·have e':v1.ownBlock=some x:=by simpa using e
   obtain ⟨C,hC⟩:=a1.wy.own.blk e';exact ⟨a1.wy.lt (.inl e'),_,C,by decide,hC.held hb⟩
 have data:∀ {x:Nat} {tg:TypeId} {C:Array Value} {p:Pe},tg≠5->Blk tg w x C->p∈x2->p.g=x->False:=fun ht hC hp hg=>by
  obtain ⟨i,hi,rfl⟩:=List.getElem_of_mem hp;have hr:=(c1.wy.row i hi (by rw [<- c1.wy.len]; exact hi)).2.2.2.1;obtain ⟨cur,q1,q2⟩:=hr;unfold Blk at hC q1;rw [hg,hC] at q1;injection q1 with q1;injection q1 with q1 q3;exact ht q3
 refine ⟨⟨B1,m1,v1,x1,B2,m2,v2,x2,a1.held hb,c1,a2,c2,fun x hx=>?_,fun x hx=>?_,fun x hx=>?_,fun x hx=>?_⟩,next h0 hb,b6,d6⟩
 ·obtain ⟨hl,tg,C,ht,hC⟩:=lo x hx
  refine ⟨fun e=>?_,fun e=>?_,fun i hi hm=>?_,fun hw=>?_⟩
  ·have:=hO _ d1; omega
  ·have:=hO _ d2; omega
  ·have:=hO _ (d3 i hi x hm); omega
  ·rcases hw with e|⟨p,hp,e⟩
   ·have:=hO _ (d4 x e); omega
   ·exact data ht hC hp e
 ·have hl:w3.heap.size<=x:=by
   rcases List.mem_cons.1 hx with e|e
   ·rw [e]; exact hO _ d1
   ·exact hO _ (d4 x (by simpa using e))
  refine ⟨fun e=>?_,fun e=>?_,fun i hi hm=>?_,fun hw=>?_⟩
  ·have:=a1.nt.head.lt; omega
  ·have:=a1.nt.mas.lt; omega
  ·have:=(a1.nt.mas.ok i hi).lt hm; omega
  ·have:=a1.wy.lt hw; omega
 ·rcases List.mem_cons.1 hx with e|e
  ·rw [e]; exact hO1 _ b1
  ·exact hO1 _ (b4 x (by simpa using e))
 ·refine Nat.le_trans h0.size ?_
  rcases List.mem_cons.1 hx with e|e
  ·rw [e]; exact hO _ d1
  ·exact hO _ (d4 x (by simpa using e))
def DgOk (g:Dg):Prop:=T.Tm.headed g.2.2=true/\(∀ c∈g.2.2,c<256)/\g.2.2.length<=5000/\1<=g.2.2.length
theorem two_cut0 {d:Dg} (h:Two w0 w N1 N2 n s (d::os) o2) {m:Nat} (hm:m<d.2.2.length) (hd:DgOk d):
  Q 16 #[K N1,I 0,I m] w fun e w'=>e= .returned (I 0)/\Two w0 w' N1 N2 n s os o2:=
 two_cut h (k:=0) sn G (by show (m:Int)<(d.2.2.length:Int); omega) hd.1 hd.2.1 hd.2.2.1
theorem two_lose0 {d:Dg} (h:Two w0 w N1 N2 n s o1 (d::os)):
  Q 17 #[K N2,I 0] w fun e w'=>e= .returned (I 0)/\Two w0 w' N1 N2 n s o1 os:=
 two_lose h (k:=0) sn
theorem two_packet0 {d:Dg} (h:Two w0 w N1 N2 n s (d::os) o2) (hd:DgOk d):
  Q 15 #[K N1,I 0] w fun e w'=>∃ (x y:Int) (g cap:Nat),e= .returned (.tuple #[.agg #[I x,I y,Lt g d.2.2.length cap],O true])/\Bw w w':=by
 obtain ⟨a,b,c⟩:=d;refine (two_packet h (k:=0) sn rfl hd.2.1 hd.2.2.1).mono ?_;rintro e w' ⟨g,cap,rfl,hb⟩;exact ⟨_,_,g,cap,rfl,hb⟩
end
theorem two_start {es:List Sc.Ev} {n L N1 N2:Nat} {va vb:Value} {w1 w3 w5:World} (g1:EvG (evOf es) (nNew 512) w1 N1 n L va w3) (g2:EvG (evOf es) (nNew 512) w3 N2 n L vb w5) (hL:L<=120):∃ s os,Two w1 w5 N1 N2 n s os os/\∀ d∈os,DgOk d:=by
 refine ⟨_,_,Two.start g1.net g2.net (fun x hx=>hx.1) (fun x hx=>hx.1) g1.below g2.below,fun d hd=>?_⟩;have hh:=nAt_head (m:=n) (ev:=evOf es) (x:=nNew 512) (fun g hg=>by cases hg) L d hd;have ho:=do3 (ev:=evOf es) (L:=L) (dz5 n (8*L) (256*L) 512) g1.net.n8 G G (k:=L) (Nat.le_refl _);obtain ⟨h1,h2⟩:=ho.1.dgs d hd;exact ⟨hh,h1,G,by have:=headed_pos hh; omega⟩
theorem mod_in (c:Int) {z:Nat} (h1:1<=z) (h2:z<=5000):∃ m:Nat,m<z/\wrap64 ((IntKind.u64.wrap c).tmod (z:Int))=(m:Int):=by
 obtain ⟨U,hU⟩:∃ U:Nat,IntKind.u64.wrap c=(U:Int):=by
  refine ⟨(IntKind.u64.wrap c).toNat,?_⟩;have h0:0<=IntKind.u64.wrap c:=by
   simp only [IntKind.wrap,IntKind.bits,IntKind.signed];simp;omega
  omega
 have hr:=Nat.mod_lt U h1;have hc:((U % z:Nat):Int)=(U:Int) % (z:Int):=Int.natCast_emod U z;generalize U % z=r at*;refine ⟨r,hr,?_⟩;rw [hU,Int.tmod_eq_emod_of_nonneg G,<- hc];exact IntWalk.wrap64_in _ G
end
end Go.Proofs.YtafkfnodcemefaaGreat
