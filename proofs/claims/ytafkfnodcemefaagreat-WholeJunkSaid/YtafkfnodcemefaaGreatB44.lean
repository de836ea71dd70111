import Derived.Test.YtafkfnodcemefaaGreatB42
import Derived.Test.YtafkfnodcemefaaGreatB43
import Derived.Test.YtafkfnodcemefaaGreatB32
set_option maxHeartbeats 8000000
set_option maxRecDepth 100000
namespace Go.Proofs.YtafkfnodcemefaaGreat
open _root_.Go.Proofs.Tryz (prog)
section
open Go.RowKit Go.Maps Rm Fm Sb
attribute [local go_sem] Oper.semAt_some
section
variable {O:Nat->Prop} {w0 w1 w:World} {N n:Nat} {st:Nat->SvG} {os:List Dg}
theorem dv4 (h1:BoG O w0 w1 N n st os) (hb:Below w1.heap.size w1 w) {i:Nat} (hi:i<n) {A:Option Addr} {ps:List Cr.Pk} {cap:Nat} (hps:Cr.PicksAt w A ps) (hA:∀ ad,A=some ad->w1.heap.size<=ad.block) (hl:ps.length<=cap) (hc:cap<=9223372036854775807):
  Q 65 #[K N,I i,.slice A ps.length cap] w fun e w'=>e= .returned (I 0)/\BoG O w0 w' N n (setg st i ((st i).crash ps)) os/\∃ L,Turn L w w'/\∀ x,x∈L->x<w1.heap.size:=by
 obtain ⟨MB,ms,v,xs,hW',hst,b1,b2,b3,b4,hB',hl2⟩:=h1.ex;have hW:NwG w N MB n ms v xs os:=hW'.held hb;have hB:Tu O w0 w:=hB'.held hb;have k1:=hW'.nt.mas.lt;have k2:=fun x hx=>(hW'.nt.mas.ok i hi).lt (x:=x) hx
 refine (dw8 hW.nt hi hps (fun ad e=>⟨fun e2=>by have:=hA ad e; omega,fun hm=>by have:=hA ad e; have:=k2 _ hm; omega⟩) hl hc).mono ?_;rintro e w' ⟨rfl,S,Mp,rest,hF,hN,t⟩;refine ⟨rfl,.one hW hst b1 b2 b3 b4 hB hl2 hi ?_ hN t (fun y hy=> .inl (by rw [hF]; exact List.mem_append_left _ hy)),_,t,fun x hx=>?_⟩
 ·rw [<- hst i hi]
  unfold SvG.crash;rw [MaG.disk_sv];rfl
 ·rcases List.mem_cons.1 hx with rfl|hx
  ·exact k1
  ·exact k2 x hx
end
def pkOf (x:Nat×Nat×Nat):Cr.Pk:=((x.1:Int),(x.2.1:Int),x.2.2)
theorem Ol.wider {α:Type} {e:TypeId} {cl:α->List Value} {k B B':Nat} {v:Value} {xs:List α} {W:World} (h:Ol e cl k B v xs W) (hB:B'<=B):Ol e cl k B' v xs W:=by
 obtain ⟨h1,h2⟩:=h;refine ⟨h1,h2.imp id ?_⟩;rintro ⟨g,cap,cur,a,b,c⟩;exact ⟨g,cap,cur,a,Nat.le_trans hB b,c⟩
theorem dw4 {b:List Nat} (hb:∀ c∈b,c<256):∀ x∈Sc.picksOf b,x.2.2<4294967296:=by
 intro x hx;unfold Sc.picksOf at hx;obtain ⟨j,-,rfl⟩:=List.mem_map.1 hx;exact Sc.val_lt 4 _ (by simp; omega) (fun c hc=>hb c (List.mem_of_mem_drop (List.mem_of_mem_take hc)))
theorem dw5 {B:Nat} {v:Value} {xs:List (Nat×Nat×Nat)} {w:World} (h:Sp.Op3 B v xs w) (hlt:∀ x∈xs,x.2.2<4294967296):∃ A cap,v= .slice A (xs.map pkOf).length cap/\Cr.PicksAt w A (xs.map pkOf)/\(∀ ad,A=some ad->B<=ad.block)/\(xs.map pkOf).length<=cap/\cap<=9223372036854775807:=by
 rcases h.2 with ⟨rfl,h0⟩|⟨g,cap,cur,rfl,h4,-,h6,h7,-⟩
 ·have h00:xs=[]:=List.eq_nil_of_length_eq_zero h0
  subst h00;exact ⟨none,0,rfl,(fun j q hq=>by simp at hq),(fun ad e=>by cases e),Nat.le_refl _,by decide⟩
 ·refine ⟨some (Y g 0),cap,by rw [List.length_map],fun j q hq=>?_,fun ad e=>by cases e; exact h4,by rw [List.length_map]; exact h6,by unfold maxLen at h7; omega⟩
  rw [List.getElem?_map,Option.map_eq_some_iff] at hq;obtain ⟨x,hx,rfl⟩:=hq;obtain ⟨hj,rfl⟩:=List.getElem?_eq_some_iff.1 hx;obtain ⟨g0,cap0,e0,-,-,hc⟩:=Ol.at_ Sp.elemP.len h hj;injection e0 with e1 e2 e3;injection e1 with e1;injection e1 with e1;subst e1;refine ⟨hlt _ (List.getElem_mem hj),_,rfl,?_,?_,?_⟩
  ·have:=hc 0 G
   rw [Addr.add_lit,Nat.zero_add];exact this
  ·have:=hc 1 G
   rw [Addr.add_lit,Nat.zero_add];exact this
  ·have:=hc 2 G
   rw [Addr.add_lit,Nat.zero_add];exact this
theorem dv0 {i k n len:Int} {a:Nat} {p:List UInt8} (ha:a<4294967296) (hr:Sc.right ⟨1,i,k,n,a,len,p⟩=true) {N:Nat} {w:World} {Q:Int->World->Prop}
  (H:∀ w2 v,Below w.heap.size w w2->Sp.Op3 w.heap.size v (Sc.picksOf (Sc.nats p)) w2->Kc 65 #[Pt N,I i,v] w2 fun x w'=>∃ z,x= .returned (I z)/\Q z w'/\∃ L,Turn L w2 w'/\∀ x,x∈L->x<w.heap.size):
  Kc 32 #[Pt N,.agg (Sp.ecs ⟨1,i,k,n,a,len,p⟩)] w fun x w'=>∃ z,x= .returned (I z)/\Q z w':=by
 have HR:=Sp.eright_eq (e:=⟨1,i,k,n,a,len,p⟩) ha hr;have hpl:p.length<=5000:=by
  unfold Sc.right at hr;simp only [Bool.and_eq_true,decide_eq_true_eq] at hr;omega
 have HCh:=fun u=>Sp.chosen_any (e:=⟨1,i,k,n,a,len,p⟩) hpl u
 unfold Sp.ecs at HR HCh ⊢;simp only at HR HCh ⊢;clear hr hpl;obtain ⟨s,hs⟩:∃ s:ByteArray,(⟨p.toArray⟩:ByteArray)=s:=⟨_,rfl⟩;rw [hs] at HR HCh ⊢;clear hs;obtain ⟨hbs,BX⟩:=nw w 30 #[I 1,I i,I k,I n,U (a:Nat),I len,Ss s];have hsz:w.heap.size<(w.alloc (.cells #[I 1,I i,I k,I n,U (a:Nat),I len,Ss s] 30)).heap.size:=BX.lt;go_enter Tryz.func32,Tryz.ntmps32;go_upto_region 1 with fail;generalize w.alloc _=w1 at*;have c0:w1.cell? (Y w.heap.size 0)=some (I 1):=BX.at_ 0;have c1:w1.cell? (Y w.heap.size 1)=some (I i):=BX.at_ 1;have c2:w1.cell? (Y w.heap.size 2)=some (I k):=BX.at_ 2;have c3:w1.cell? (Y w.heap.size 3)=some (I n):=BX.at_ 3;have c4:w1.cell? (Y w.heap.size 4)=some (U (a:Nat)):=BX.at_ 4;have c5:w1.cell? (Y w.heap.size 5)=some (I len):=BX.at_ 5;have c6:w1.cell? (Y w.heap.size 6)=some (Ss s):=BX.at_ 6;have HR1:=HR w1;clear BX HR;go_upto_region 3 with (go_at_call 64; refine HR1.mono ?_; rintro x w2 ⟨rfl,hb2⟩; clear HR1);replace c0:=held hb2 c0;replace c1:=held hb2 c1;replace c2:=held hb2 c2;replace c3:=held hb2 c3;replace c4:=held hb2 c4;replace c5:=held hb2 c5;replace c6:=held hb2 c6;have hsz2:w.heap.size<=w2.drew.heap.size:=Nat.le_trans (Nat.le_of_lt hsz) hb2.size;have HC:=fun w4 v (hb:Below w2.heap.size w2 w4) (hO:Sp.Op3 w2.drew.heap.size v (Sc.picksOf (Sc.nats p)) w4)=>H w4 v (next (next hbs hb2) hb) (hO.wider hsz2)
 clear H hbs hb2 hsz hsz2;go_upto_region 7 with fail;refine wp_region_held_drew (S:=fun u=>u.cell? (Y w.heap.size 0)=some (I 1)/\u.cell? (Y w.heap.size 1)=some (I i)/\u.cell? (Y w.heap.size 2)=some (I k)/\u.cell? (Y w.heap.size 3)=some (I n)/\u.cell? (Y w.heap.size 4)=some (U (a:Nat))/\u.cell? (Y w.heap.size 5)=some (I len)/\u.cell? (Y w.heap.size 6)=some (Ss s)) X ⟨c0,c1,c2,c3,c4,c5,c6⟩ (fun hHeld=>?_);refine tk 0 (Pt N) rfl hHeld ?_;go_frame;refine tk 1 (Qt w.heap.size 1) rfl hHeld ?_;go_frame;refine tk 2 (I i) rfl hHeld ?_;go_frame;refine tk 3 (.agg #[I 1,I i,I k,I n,U (a:Nat),I len,Ss s]) rfl hHeld ?_;go_frame;refine rl 4 rfl fun K hK=>?_
 go_simp;refine (HCh _).mono ?_;rintro x w4 ⟨v4,rfl,hO4,hb4⟩;have q0:=held hb4 c0;have q1:=held hb4 c1;have q2:=held hb4 c2;have q3:=held hb4 c3;have q4:=held hb4 c4;have q5:=held hb4 c5;have q6:=held hb4 c6;have hb5:Below w2.heap.size w2 w4:=(Below.refl _ _).drew.trans hb4;have HC5:=HC w4 v4 hb5 hO4;refine hK.out _ _ ⟨q0,q1,q2,q3,q4,q5,q6⟩ (fun hHeld=>?_);clear hK K HC HCh hb4 hb5 hO4 c0 c1 c2 c3 c4 c5 c6;try go_frame
 refine rl 5 rfl fun K hK=>?_
 go_simp;refine HC5.mono ?_;rintro x w5 ⟨z,rfl,hQ,L,t,hL⟩;have hw:w.heap.size∉L:=fun hm=>Nat.lt_irrefl _ (hL _ hm)
 refine hK.out _ _ ⟨t.cell q0 hw,t.cell q1 hw,t.cell q2 hw,t.cell q3 hw,t.cell q4 hw,t.cell q5 hw,t.cell q6 hw⟩ (fun hHeld=>?_);clear hK K HC5 q0 q1 q2 q3 q4 q5 q6 t hL hw;try go_frame
 refine rl 6 rfl fun K hK=>?_
 go_simp;exact hK.out _ _ hHeld (fun hHeld=>by
  clear hK K;refine wpAnyH_done X ?_ _;try go_frame
  clear hHeld;go_wp2_with fail;go_ret;exact ⟨z,rfl,hQ⟩)
theorem getD_in {α:Type} {l:List α} {k:Nat} (h:k<l.length) {d:α}:l.getD k d=l[k]:=by
 rw [List.getD_eq_getElem?_getD,List.getElem?_eq_getElem h];rfl
abbrev NsG:=(Nat->SvG)×List Dg
noncomputable def nKind (n:Nat) (e:Sc.Ev) (x:NsG):Nat->Int×NsG
 |0=>if 0<=e.i/\e.i<(n:Int) then (((x.1 e.i.toNat).boot e.i.toNat).1,setg x.1 e.i.toNat ((x.1 e.i.toNat).boot e.i.toNat).2,x.2) else (1,x)
 |1=>if 0<=e.i/\e.i<(n:Int) then (0,setg x.1 e.i.toNat ((x.1 e.i.toNat).crash ((Sc.picksOf (Sc.nats e.p)).map pkOf)),x.2) else (1,x)
 |2=>if 0<=e.i/\e.i<(n:Int) then (0,setg x.1 e.i.toNat ((x.1 e.i.toNat).fail e.n),x.2) else (1,x)
 |3=>if (0<=e.i/\e.i<(n:Int))/\(0<=e.k/\e.k<(n:Int))/\e.i≠e.k/\e.n<=1000 then (0,setg (setg x.1 e.i.toNat ((x.1 e.i.toNat).link e.k.toNat e.n)) e.k.toNat ((x.1 e.k.toNat).link e.i.toNat e.n),x.2) else (1,x)
 |4=>if 0<=e.i/\e.i<(n:Int) then (((x.1 e.i.toNat).own e.a e.len true).1,setg x.1 e.i.toNat ((x.1 e.i.toNat).own e.a e.len true).2,x.2) else (3,x)
 |5=>if 0<=e.i/\e.i<(n:Int) then (((x.1 e.i.toNat).own e.a e.len false).1,setg x.1 e.i.toNat ((x.1 e.i.toNat).own e.a e.len false).2,x.2) else (3,x)
 |6=>if 0<=e.i/\e.i<(n:Int) then ((x.1 e.i.toNat).tick.1,setg x.1 e.i.toNat (x.1 e.i.toNat).tick.2.1,sendAll e.i.toNat x.2 (x.1 e.i.toNat).tick.2.2) else (3,x)
 |7=>if 0<=e.k/\e.k<(x.2.length:Int) then (0,recvAll n x.1 (x.2.getD e.k.toNat (0,0,[])) e.n,x.2.eraseIdx e.k.toNat) else (2,x)
 |8=>if 0<=e.k/\e.k<(x.2.length:Int) then (0,x.1,x.2.eraseIdx e.k.toNat) else (2,x)
 |9=>if 0<=e.k/\e.k<(x.2.length:Int) then (0,x.1,sent1 (x.2.getD e.k.toNat (0,0,[])).1 x.2 (x.2.getD e.k.toNat (0,0,[])).2) else (2,x)
 |_=>(0,roundG n x.1 x.2,[])
noncomputable def nStep (n:Nat) (e:Sc.Ev) (x:NsG):Int×NsG:=if Sc.right e=true then nKind n e x e.kind.toNat else (1,x)
theorem cv4 {e:Sc.Ev} (h:Sc.right e=true):e.kind=0\/e.kind=1\/e.kind=2\/e.kind=3\/e.kind=4\/e.kind=5\/e.kind=6\/e.kind=7\/e.kind=8\/e.kind=9\/e.kind=10:=by
 unfold Sc.right at h;simp only [Bool.and_eq_true,decide_eq_true_eq] at h;omega
theorem du8 {e:Sc.Ev} (h:Sc.right e=true):(0<=e.i/\e.i<=65536)/\(0<=e.k/\e.k<=65536)/\(0<=e.n/\e.n<=65536)/\0<=e.len/\e.len<=32:=by
 unfold Sc.right Sc.small Am.right at h;simp only [Bool.and_eq_true,decide_eq_true_eq] at h;omega
theorem InvG.sub {n t dl:Nat} {st:Nat->SvG} {os os':List Dg} (h:InvG n t dl st os) (hs:∀ g∈os',g∈os):InvG n t dl st os':=h.list fun g hg=>h.dgs g (hs g hg)
def OkG (n t dl:Nat) (x:NsG):Prop:=InvG n t dl x.1 x.2/\x.2.length<=256
theorem dn7 {n t dl:Nat} {x:NsG} {e:Sc.Ev} (hx:OkG n (t+8) (dl+256) x) (h8:n<=8) (ht:t<1000000) (hd:1100*dl<=100000000):OkG n t dl (nStep n e x).2:=by
 obtain ⟨h,hl⟩:=hx;have h0:InvG n t dl x.1 x.2:=h.less G G;have h1:InvG n (t+1) dl x.1 x.2:=h.less G G;have h2:InvG n t (dl+1) x.1 x.2:=h.less G G;unfold nStep;split
 ·rename_i hr
  have hk:=cv4 hr;have hn:=du8 hr;have hi:∀ {z:Int},0<=z/\z<(n:Int)->z.toNat<n:=G
  rcases hk with hk|hk|hk|hk|hk|hk|hk|hk|hk|hk|hk<;>rw [hk]
  ·show OkG n t dl (ite _ _ _:Int×NsG).2
   split
   ·rename_i hz; exact ⟨h0.boot (hi hz) ht hd,hl⟩
   ·exact ⟨h0,hl⟩
  ·show OkG n t dl (ite _ _ _:Int×NsG).2
   split
   ·rename_i hz; exact ⟨h0.crash (hi hz) _,hl⟩
   ·exact ⟨h0,hl⟩
  ·show OkG n t dl (ite _ _ _:Int×NsG).2
   split
   ·rename_i hz; exact ⟨h0.fail (hi hz) _,hl⟩
   ·exact ⟨h0,hl⟩
  ·show OkG n t dl (ite _ _ _:Int×NsG).2
   split
   ·rename_i hz
    obtain ⟨z1,z2,z3,z4⟩:=hz;have hh:=(h0.link (hi z1) (k:=e.k.toNat) hn.2.2.1.1 z4).link (hi z2) (k:=e.i.toNat) hn.2.2.1.1 z4;rw [aj4 (by omega:e.k.toNat≠e.i.toNat)] at hh;exact ⟨hh,hl⟩
   ·exact ⟨h0,hl⟩
  ·show OkG n t dl (ite _ _ _:Int×NsG).2
   split
   ·rename_i hz; exact ⟨h0.own (hi hz) _ _ _,hl⟩
   ·exact ⟨h0,hl⟩
  ·show OkG n t dl (ite _ _ _:Int×NsG).2
   split
   ·rename_i hz; exact ⟨h0.own (hi hz) _ _ _,hl⟩
   ·exact ⟨h0,hl⟩
  ·show OkG n t dl (ite _ _ _:Int×NsG).2
   split
   ·rename_i hz; exact ⟨h1.tick (hi hz),am0 _ _ hl⟩
   ·exact ⟨h0,hl⟩
  ·show OkG n t dl (ite _ _ _:Int×NsG).2
   split
   ·rename_i hz
    have hk:e.k.toNat<x.2.length:=G
    rw [getD_in hk];exact ⟨(h2.recv (h.dgs _ (List.getElem_mem hk)).1 e.n).sub fun g hg=>List.mem_of_mem_eraseIdx hg,by have:=List.length_eraseIdx_le x.2 e.k.toNat; show (x.2.eraseIdx _).length<=_; omega⟩
   ·exact ⟨h0,hl⟩
  ·show OkG n t dl (ite _ _ _:Int×NsG).2
   split
   ·exact ⟨h0.sub fun g hg=>List.mem_of_mem_eraseIdx hg,by have:=List.length_eraseIdx_le x.2 e.k.toNat; show (x.2.eraseIdx _).length<=_; omega⟩
   ·exact ⟨h0,hl⟩
  ·show OkG n t dl (ite _ _ _:Int×NsG).2
   split
   ·rename_i hz
    have hk:e.k.toNat<x.2.length:=G
    rw [getD_in hk];refine ⟨h0.list fun g hg=>?_,cd4 _ hl⟩;unfold sent1 at hg;split at hg
    ·rcases List.mem_append.1 hg with hg|hg
     ·exact h.dgs g hg
     ·simp only [List.mem_singleton] at hg
      rw [hg];exact h.dgs _ (List.getElem_mem hk)
    ·exact h.dgs g hg
   ·exact ⟨h0,hl⟩
  ·exact ⟨di6 h hl h8,Nat.zero_le _⟩
 ·exact ⟨h0,hl⟩
end
section
end
section
open Go.RowKit Go.Maps Rm Fm Sb
attribute [local go_sem] Oper.semAt_some
theorem dx7 {kd i k n len:Int} {a:Nat} {p:List UInt8} (ha:a<4294967296) (hr:Sc.right ⟨kd,i,k,n,a,len,p⟩=false) {N:Nat} {w:World}:
  Q 32 #[K N,.agg (Sp.ecs ⟨kd,i,k,n,a,len,p⟩)] w (Rr0 w (I 1)):=by
 have HR:=Sp.eright_eq (e:=⟨kd,i,k,n,a,len,p⟩) ha hr;unfold Sp.ecs at HR ⊢;simp only at HR ⊢;clear hr;obtain ⟨s,hs⟩:∃ s:ByteArray,(⟨p.toArray⟩:ByteArray)=s:=⟨_,rfl⟩;rw [hs] at HR ⊢;clear hs;obtain ⟨hbs,BX⟩:=nw w 30 #[I kd,I i,I k,I n,U (a:Nat),I len,Ss s];go_enter Tryz.func32,Tryz.ntmps32;go_upto_region 1 with fail;generalize w.alloc _=w1 at*;have c0:w1.cell? (Y w.heap.size 0)=some (I kd):=BX.at_ 0;have c1:w1.cell? (Y w.heap.size 1)=some (I i):=BX.at_ 1;have c2:w1.cell? (Y w.heap.size 2)=some (I k):=BX.at_ 2;have c3:w1.cell? (Y w.heap.size 3)=some (I n):=BX.at_ 3;have c4:w1.cell? (Y w.heap.size 4)=some (U (a:Nat)):=BX.at_ 4;have c5:w1.cell? (Y w.heap.size 5)=some (I len):=BX.at_ 5;have c6:w1.cell? (Y w.heap.size 6)=some (Ss s):=BX.at_ 6;have HR1:=HR w1;have hB:=Z hbs;clear BX HR hbs;go_wp2_with (go_at_call 64; refine HR1.mono ?_; rintro x w2 ⟨rfl,hb2⟩; have hB2:=Z hb2; clear HR1 hb2);go_ret;exact ⟨rfl,next hB.out hB2.out⟩
def CameG (O:Nat->Prop) (w0:World) (N n:Nat) (y:Int×NsG) (z:Int) (w':World):Prop:=z=y.1/\BoG O w0 w' N n y.2.1 y.2.2
section
variable {O:Nat->Prop} {w0 w:World} {N n:Nat} {x:NsG}
theorem dy5 (h:BoG O w0 w N n x.1 x.2) (hI:InvG n 8 256 x.1 x.2) {e:Sc.Ev} (ha:e.a<4294967296):
  Q 32 #[K N,.agg (Sp.ecs e)] w fun r w'=>∃ z,r= .returned (I z)/\CameG O w0 N n (nStep n e x) z w':=by
 obtain ⟨kd,i,k,m,a,len,p⟩:=e;by_cases hr:Sc.right ⟨kd,i,k,m,a,len,p⟩=true
 ·have hk:=cv4 hr
  have hn:=du8 hr;have hs:nStep n ⟨kd,i,k,m,a,len,p⟩ x=nKind n ⟨kd,i,k,m,a,len,p⟩ x kd.toNat:=by unfold nStep; rw [if_pos hr]
  rw [hs];simp only at hk hn ha;obtain ⟨hi2,hk2,hm2,hlen⟩:=hn;have hp:Pk.ok ⟨a,len⟩:=⟨ha,by show -9223372036854775808<=len; omega,by show len<=9223372036854775807; omega⟩;rcases hk with rfl|rfl|rfl|rfl|rfl|rfl|rfl|rfl|rfl|rfl|rfl
  ·refine bd3 ha hr fun w1 hb=>?_
   show Calls _ _ _ _ fun x' w'=>∃ z,x'=_/\CameG O w0 N n (ite _ _ _) z w'
   split
   ·rename_i hz
    simp only at hz;obtain ⟨j,rfl⟩:∃ j:Nat,i=j:=⟨i.toNat,G⟩;have hj:j<n:=G
    refine (eb0 (h.held hb) hj (hI.low j hj)).mono ?_;rintro e w' ⟨rfl,hB⟩;exact ⟨_,rfl,rfl,hB⟩
   ·rename_i hz
    simp only at hz;refine (cl4 (h.held hb) hz).mono ?_;rintro e w' ⟨rfl,rfl⟩;exact ⟨_,rfl,rfl,h.held hb⟩
  ·refine dv0 ha hr fun w2 v hb hO=>?_
   have hps:∀ y∈Sc.picksOf (Sc.nats p),y.2.2<4294967296:=dw4 (fun c hc=>by unfold Sc.nats at hc; obtain ⟨b,-,rfl⟩:=List.mem_map.1 hc; exact b.toNat_lt);obtain ⟨A,cap,rfl,q1,q2,q3,q4⟩:=dw5 hO hps;show Calls _ _ _ _ fun x' w'=>∃ z,x'=_/\CameG O w0 N n (ite _ _ _) z w'/\_
   split
   ·rename_i hz
    simp only at hz;obtain ⟨j,rfl⟩:∃ j:Nat,i=j:=⟨i.toNat,G⟩;have hj:j<n:=G
    refine (dv4 h hb hj q1 q2 q3 q4).mono ?_;rintro e w' ⟨rfl,hB,L,t,hL⟩;exact ⟨_,rfl,⟨rfl,hB⟩,L,t,hL⟩
   ·rename_i hz
    simp only at hz;refine (by2 (h.held hb) hz _ _ _).mono ?_;rintro e w' ⟨rfl,rfl⟩;exact ⟨_,rfl,⟨rfl,h.held hb⟩,[],.refl _ _,fun x hx=>by cases hx⟩
  ·refine ea5 ha hr fun w1 hb=>?_
   show Calls _ _ _ _ fun x' w'=>∃ z,x'=_/\CameG O w0 N n (ite _ _ _) z w'
   split
   ·rename_i hz
    simp only at hz;obtain ⟨j,rfl⟩:∃ j:Nat,i=j:=⟨i.toNat,G⟩;have hj:j<n:=G
    refine (ea9 (h.held hb) hj (a:=m) G).mono ?_;rintro e w' ⟨rfl,hB⟩;exact ⟨_,rfl,rfl,hB⟩
   ·rename_i hz
    simp only at hz;refine (cl1 (h.held hb) hz _).mono ?_;rintro e w' ⟨rfl,rfl⟩;exact ⟨_,rfl,rfl,h.held hb⟩
  ·refine bn2 ha hr fun w1 hb=>?_
   show Calls _ _ _ _ fun x' w'=>∃ z,x'=_/\CameG O w0 N n (ite _ _ _) z w'
   split
   ·rename_i hz
    simp only at hz;obtain ⟨z1,z2,z3,z4⟩:=hz;obtain ⟨j,rfl⟩:∃ j:Nat,i=j:=⟨i.toNat,G⟩;obtain ⟨q,rfl⟩:∃ q:Nat,k=q:=⟨k.toNat,G⟩;refine (ea8 (h.held hb) (a:=j) (b:=q) G G G hm2.1 z4).mono ?_;rintro e w' ⟨rfl,hB⟩;exact ⟨_,rfl,rfl,hB⟩
   ·rename_i hz
    simp only at hz;refine (cj9 (h.held hb) hm2.1 hz).mono ?_;rintro e w' ⟨rfl,rfl⟩;exact ⟨_,rfl,rfl,h.held hb⟩
  ·refine cy0 ha hr fun w1 hb=>?_
   show Calls _ _ _ _ fun x' w'=>∃ z,x'=_/\CameG O w0 N n (ite _ _ _) z w'
   split
   ·rename_i hz
    simp only at hz;obtain ⟨j,rfl⟩:∃ j:Nat,i=j:=⟨i.toNat,G⟩;have hj:j<n:=G
    refine (dy6 (h.held hb) hj hp true).mono ?_;rintro e w' ⟨rfl,hB⟩;exact ⟨_,rfl,rfl,hB⟩
   ·rename_i hz
    simp only at hz;refine (bi8 (h.held hb) hz _ _ _).mono ?_;rintro e w' ⟨rfl,hB⟩;exact ⟨_,rfl,rfl,hB⟩
  ·refine do_off ha hr fun w1 hb=>?_
   show Calls _ _ _ _ fun x' w'=>∃ z,x'=_/\CameG O w0 N n (ite _ _ _) z w'
   split
   ·rename_i hz
    simp only at hz;obtain ⟨j,rfl⟩:∃ j:Nat,i=j:=⟨i.toNat,G⟩;have hj:j<n:=G
    refine (dy6 (h.held hb) hj hp false).mono ?_;rintro e w' ⟨rfl,hB⟩;exact ⟨_,rfl,rfl,hB⟩
   ·rename_i hz
    simp only at hz;refine (bi8 (h.held hb) hz _ _ _).mono ?_;rintro e w' ⟨rfl,hB⟩;exact ⟨_,rfl,rfl,hB⟩
  ·refine ea3 ha hr fun w1 hb=>?_
   show Calls _ _ _ _ fun x' w'=>∃ z,x'=_/\CameG O w0 N n (ite _ _ _) z w'
   split
   ·rename_i hz
    simp only at hz;obtain ⟨j,rfl⟩:∃ j:Nat,i=j:=⟨i.toNat,G⟩;have hj:j<n:=G
    refine (dv2 (h.held hb) hj fun y hy=>?_).mono ?_
    ·obtain ⟨g1,g2,-⟩:=hI.run j hj y hy
     exact ⟨g1,G⟩
    ·rintro e w' ⟨rfl,hB⟩
     exact ⟨_,rfl,rfl,hB⟩
   ·rename_i hz
    simp only at hz;refine (cj7 (h.held hb) hz).mono ?_;rintro e w' ⟨rfl,rfl⟩;exact ⟨_,rfl,rfl,h.held hb⟩
  ·refine dg8 ha hr fun w1 hb=>?_
   show Calls _ _ _ _ fun x' w'=>∃ z,x'=_/\CameG O w0 N n (ite _ _ _) z w'
   split
   ·rename_i hz
    simp only at hz;obtain ⟨j,rfl⟩:∃ j:Nat,k=j:=⟨k.toNat,G⟩;have hj:j<x.2.length:=G
    have hg:=hI.dgs _ (List.getElem_mem hj);refine (bj6 (h.held hb) hj m hg.1 (by have:=hg.2; omega) (fun i y hi hy=>by obtain ⟨-,-,c⟩:=hI.run i hi y hy; omega)).mono ?_;rintro e w' ⟨rfl,hB⟩;refine ⟨_,rfl,rfl,?_⟩;show BoG O w0 w' N n (recvAll n x.1 (x.2.getD j (0,0,[])) m) _;rw [getD_in hj];exact hB
   ·rename_i hz
    simp only at hz;refine (bh6 (h.held hb) hz _).mono ?_;rintro e w' ⟨rfl,rfl⟩;exact ⟨_,rfl,rfl,h.held hb⟩
  ·refine ea4 ha hr fun w1 hb=>?_
   show Calls _ _ _ _ fun x' w'=>∃ z,x'=_/\CameG O w0 N n (ite _ _ _) z w'
   split
   ·rename_i hz
    simp only at hz;obtain ⟨j,rfl⟩:∃ j:Nat,k=j:=⟨k.toNat,G⟩;refine (ea7 (h.held hb) G).mono ?_;rintro e w' ⟨rfl,hB⟩;exact ⟨_,rfl,rfl,hB⟩
   ·rename_i hz
    simp only at hz;refine (cj8 (h.held hb) hz).mono ?_;rintro e w' ⟨rfl,rfl⟩;exact ⟨_,rfl,rfl,h.held hb⟩
  ·refine dx8 ha hr fun w1 hb=>?_
   show Calls _ _ _ _ fun x' w'=>∃ z,x'=_/\CameG O w0 N n (ite _ _ _) z w'
   split
   ·rename_i hz
    simp only at hz;obtain ⟨j,rfl⟩:∃ j:Nat,k=j:=⟨k.toNat,G⟩;have hj:j<x.2.length:=G
    refine (dy1 (h.held hb) hj).mono ?_;rintro e w' ⟨rfl,hB⟩;refine ⟨_,rfl,rfl,?_⟩;show BoG O w0 w' N n x.1 (sent1 (x.2.getD j (0,0,[])).1 x.2 (x.2.getD j (0,0,[])).2);rw [getD_in hj];exact hB
   ·rename_i hz
    simp only at hz;refine (by6 (h.held hb) hz).mono ?_;rintro e w' ⟨rfl,rfl⟩;exact ⟨_,rfl,rfl,h.held hb⟩
  ·refine bt8 ha hr fun w1 hb=>?_
   refine (dv3 (t:=0) (dl:=0) (h.held hb) hI).mono ?_;rintro e w' ⟨rfl,hB⟩;exact ⟨rfl,rfl,hB⟩
 ·have hr':Sc.right ⟨kd,i,k,m,a,len,p⟩=false:=by simpa using hr
  have hs:nStep n ⟨kd,i,k,m,a,len,p⟩ x=(1,x):=by unfold nStep; rw [if_neg hr]
  rw [hs];refine (dx7 ha hr').mono ?_;rintro r w' ⟨rfl,hb⟩;exact ⟨_,rfl,rfl,h.held hb⟩
end
noncomputable def nAt (n:Nat) (ev:Nat->Sc.Ev) (x:NsG):Nat->NsG
 |0=>x
 |k+1=>(nStep n (ev k) (nAt n ev x k)).2
noncomputable def nZ (n:Nat) (ev:Nat->Sc.Ev) (x:NsG) (k:Nat):Int:=(nStep n (ev k) (nAt n ev x k)).1
theorem bn4 {n:Nat} {ev ev':Nat->Sc.Ev} {x:NsG}:∀ {k:Nat} (_:∀ j,j<k->ev j=ev' j),nAt n ev x k=nAt n ev' x k
 |0,_=>rfl
 |k+1,h=>by
  show (nStep n (ev k) (nAt n ev x k)).2=(nStep n (ev' k) (nAt n ev' x k)).2;rw [bn4 (k:=k) fun j hj=>h j G,h k G]
theorem dz4 {n:Nat} {ev ev':Nat->Sc.Ev} {x:NsG} {k:Nat} (h:∀ j,j<=k->ev j=ev' j):nZ n ev x k=nZ n ev' x k:=by
 unfold nZ;rw [bn4 (k:=k) fun j hj=>h j G,h k G]
def evOf (es:List Sc.Ev) (k:Nat):Sc.Ev:=es.getD k ⟨0,0,0,0,0,0,[]⟩
def nNew (sec:Nat):NsG:=(fun _=>⟨none,fun _=>0,zDisk sec⟩,[])
theorem dz5 (n t dl sec:Nat):OkG n t dl (nNew sec):=⟨⟨fun _ _ _=>⟨Int.le_refl _,by show (0:Int)<=1000; decide⟩,(fun _ _ x hx=>by cases hx),(fun g hg=>by cases hg)⟩,Nat.zero_le _⟩
theorem do3 {n:Nat} {ev:Nat->Sc.Ev} {x:NsG} {L:Nat} (h:OkG n (8*L) (256*L) x) (h8:n<=8) (ht:8*L<1000000) (hd:1100*(256*L)<=100000000):∀ {k:Nat} (_:k<=L),OkG n (8*(L - k)) (256*(L - k)) (nAt n ev x k)
 |0,_=>h
 |k+1,hk=>by
  have h1:=do3 (ev:=ev) h h8 ht hd (k:=k) G;have e1:8*(L - k)=8*(L - (k+1))+8:=G
  have e2:256*(L - k)=256*(L - (k+1))+256:=G
  rw [e1,e2] at h1;exact dn7 h1 h8 G (by have:=Nat.mul_le_mul_left 256 (Nat.sub_le L (k+1)); omega)
theorem OkG.any {n t dl:Nat} {x:NsG} (h:OkG n t dl x) {t' dl':Nat} (h1:t'<=t) (h2:dl'<=dl):OkG n t' dl' x:=⟨h.1.less h1 h2,h.2⟩
section
variable {w w2 w3 wr:World} {N nn:Nat} {st:Nat->SvG} {os:List Dg} {v:Value} {zs:List Int}
theorem BoG.here {O:Nat->Prop} (h:BoG O w2 w3 N nn st os):BoG O w3 w3 N nn st os:=h.beside (.refl [] _) (fun x hx=>by cases hx) (fun _ _ h=>h) h.tu.wide
theorem dh1 (hO:Ol 35 icl 1 w.heap.size v zs w3) (hB:Below w.heap.size w w3) (hN:BoG (Ov w v) w2 w3 N nn st os) (z:Int) (hbig:zs.length<=1000000000):
  ∃ g' cap' W',(Builtin.append_ #[32,32] 32 #[v,Lt w3.heap.size 1 1]).run prog (w3.alloc (.cells #[I z] 35))= .ok (Lt g' (zs.length+1) cap') W'/\
   Ol 35 icl 1 w.heap.size (Lt g' (zs.length+1) cap') (zs++[z]) W'/\BoG (Ov w (Lt g' (zs.length+1) cap')) W' W' N nn st os/\Bw w W':=by
 obtain ⟨g',cap',W',hrun,h6,t,hat⟩:=hO.push1 elemI hB.size z G 32;have hb:(Value.slice (some (Y g' 0)) (zs.length+1) cap').ownBlock=some g':=rfl;have hg:=h6.lt hb;refine ⟨g',cap',W',hrun,h6,hN.beside t (fun x hx=>?_) (fun x hx ho=>⟨ho.1,fun e=>?_⟩) (fun x hx=>⟨Nat.le_trans hB.size (Nat.le_trans t.size hx),fun e=>?_⟩),own_below hO hB hB.size t⟩
 ·have hx':v.ownBlock=some x:=by simpa using hx
  obtain ⟨C,hC⟩:=hO.blk hx';exact ⟨fun ho=>ho.2 hx',_,C,by decide,hC⟩
 ·rw [hb] at e
  injection e with e;rcases hat with h|h
  ·exact ho.2 (by rw [h,e])
  ·omega
 ·rw [hb] at e
  injection e with e;omega
structure EvG (ev:Nat->Sc.Ev) (x:NsG) (w:World) (N nn k:Nat) (v:Value) (wr:World):Prop where
 net:BoG (Ov w v) wr wr N nn (nAt nn ev x k).1 (nAt nn ev x k).2
 came:Ol 35 icl 1 w.heap.size v ((List.range k).map (nZ nn ev x)) wr
 below:Below w.heap.size w wr
theorem EvG.next {ev:Nat->Sc.Ev} {x:NsG} {k L:Nat} (h:EvG ev x w N nn k v wr) {w1:World} (hb:Below wr.heap.size wr w1) (hx:OkG nn (8*L) (256*L) x) (ht:8*L<1000000) (hd:1100*(256*L)<=100000000) (hk:k<L) (ha:(ev k).a<4294967296):
  Q 32 #[K N,.agg (Sp.ecs (ev k))] w1 fun r w'=>∃ z,r= .returned (I z)/\∃ g' cap' W',(Builtin.append_ #[32,32] 32 #[v,Lt w'.heap.size 1 1]).run prog (w'.alloc (.cells #[I z] 35))= .ok (Lt g' (k+1:Nat) cap') W'/\
   Hid (EvG ev x w N nn (k+1) (Lt g' (k+1:Nat) cap') W'):=by
 obtain ⟨hN,hO,hB⟩:=h;have hok:=do3 (ev:=ev) hx hN.n8 ht hd (k:=k) G;have hN1:=(hN.held hb).here;refine (dy5 hN1 (hok.any (t':=8) (dl':=256) G G).1 ha).mono ?_;rintro r w' ⟨z,rfl,hz,hN'⟩;have T:=hN'.tu;have hB1:=hB.trans (hb.mono hB.size);have hB':Below w.heap.size w w':=hB1.trans ⟨T.os,T.tape,T.output,T.size,fun i hi=>T.block i (Nat.lt_of_lt_of_le hi hB1.size) (fun ho=>by have:=ho.1; omega)⟩;have hO':=(hO.held hb).of_block (W':=w') (fun b e=>T.block b ((hO.held hb).lt e).1 (fun ho=>ho.2 e));obtain ⟨g',cap',W',hrun,h6,h7,h8⟩:=dh1 hO' hB' hN' z (by simp; omega);rw [List.length_map,List.length_range] at hrun h6 h7;refine ⟨z,rfl,g',cap',W',hrun,Z ⟨h7,?_,h8⟩⟩;rw [List.range_succ,List.map_append];show Ol _ _ _ _ _ (_++[nZ nn ev x k]) _;rw [show nZ nn ev x k=z from hz.symm];exact h6
end
theorem ae3 {A:Option Addr} {n cap nn sec:Nat} {es:List Sc.Ev} {w:World} (hE:Sp.El w A n cap es) (hn:n<=1000000000) (h1:1<=nn) (h8:nn<=8) (hs1:1<=sec) (hs2:sec<=512) (hd:1100*(256*es.length)<=100000000) (ht:8*es.length<1000000) (ha:∀ e∈es,e.a<4294967296):
  Q 8 #[I (nn:Nat),I (sec:Nat),.slice A n cap] w fun x w'=>∃ N v,x= .returned (.tuple #[K N,v])/\EvG (evOf es) (nNew sec) w N nn n v w':=by
 have HN:=bg_new nn h1 h8 sec hs1 hs2 w;have hlen:=hE.len;have H:=H5 hE hd ht hlen ha;clear hE hd ht hlen ha;go_enter Tryz.func8,Tryz.ntmps8;go_wp2_with fail;refine HN.mono ?_;rintro x w1 ⟨N,rfl,h1⟩;have R0:Hid (EvG (evOf es) (nNew sec) w N nn 0 (.slice none 0 0) w1):=Z ⟨h1.beside (.refl [] _) (fun x hx=>by cases hx) (fun x hx ho=>⟨ho,fun e=>by cases e⟩) (fun x hx=>⟨Nat.le_trans h1.tu.size hx,fun e=>by cases e⟩),Ol.nil _ _,h1.tu.below⟩;clear HN h1;go_wp2_with fail;go_loopw [9,17] (fun v i wr=>∃ k:Nat,i= I (k:Nat)/\k<=n/\Hid (EvG (evOf es) (nNew sec) w N nn k v wr)) (fun _ i _=>n - (intOf i).toNat)
 case atStart=>exact ⟨0,rfl,Nat.zero_le _,R0⟩
 case round=>
  clear R0;rename_i v i wr;obtain ⟨k,rfl,hkn,R⟩:=hrel;by_cases hlt:k<n
  ·have hk:k<es.length:=by rw [H.out.2.2.2.1]; exact hlt
   obtain ⟨b,off,rfl⟩:=H.out.1.plain G;have hEw:=H.out.1.held (w':=wr) (by have:=R.out.below; exact this);have HD:=fun (w10:World) (hb:Below wr.heap.size wr w10)=>R.out.next (w1:=w10) hb (dz5 nn _ _ sec) H.out.2.2.1 H.out.2.1 hk (by unfold evOf; rw [getD_in hk]; exact H.out.2.2.2.2 _ (List.getElem_mem hk))
   obtain ⟨e,he⟩:=ey (es[k]);obtain ⟨c0,c1,c2,c3,c4,c5,c6⟩:=hEw.at_ hk he;rw [show evOf es k=e from (getD_in hk).trans he] at HD;unfold Sp.ecs at HD;have i1:(k:Int)<(n:Int):=G
   clear hEw he;generalize hy0:e.kind=y0 at*;generalize hy1:e.i=y1 at*;generalize hy2:e.k=y2 at*;generalize hy3:e.n=y3 at*;generalize hy4:e.a=y4 at*;generalize hy5:e.len=y5 at*;generalize hy6:(⟨e.p.toArray⟩:ByteArray)=s at*;clear hy0 hy1 hy2 hy3 hy4 hy5 hy6;obtain ⟨hbx,BX⟩:=nw wr 30 #[I y0,I y1,I y2,I y3,U (y4:Nat),I y5,Ss s];have X:=H2 hbx BX;clear hbx BX;go_upto_region 6 with fail;generalize wr.alloc _=w10 at*;have x0:w10.cell? (Y wr.heap.size 0)=some (I y0):=X.out.2.at_ 0;have x1:w10.cell? (Y wr.heap.size 1)=some (I y1):=X.out.2.at_ 1;have x2:w10.cell? (Y wr.heap.size 2)=some (I y2):=X.out.2.at_ 2;have x3:w10.cell? (Y wr.heap.size 3)=some (I y3):=X.out.2.at_ 3;have x4:w10.cell? (Y wr.heap.size 4)=some (U (y4:Nat)):=X.out.2.at_ 4;have x5:w10.cell? (Y wr.heap.size 5)=some (I y5):=X.out.2.at_ 5;have x6:w10.cell? (Y wr.heap.size 6)=some (Ss s):=X.out.2.at_ 6;have HD10:=HD w10 X.out.1;clear HD c0 c1 c2 c3 c4 c5 c6 R X;go_wp2_with fail;refine HD10.mono ?_;rintro x w11 ⟨z,rfl,g',cap',W',hrun,R'⟩;clear HD10 x0 x1 x2 x3 x4 x5 x6;go_wp2_with (first|(at_builtin; refine Lib.wpList_append_run _ rfl (.tmp 21) (.tmp 25) 32 32 rfl _ _ rfl rfl _ _ hrun ?_)|fail);go_roundw
   case rel=>exact ⟨k+1,by go_num,G,R'⟩
   case measure=>simp [intOf]; omega
  ·obtain rfl:k=n:=G
   go_wp2_with fail;go_ret2;exact ⟨N,_,rfl,R.out⟩
end
section
open Go.RowKit Go.Maps Rm Fm Sb
theorem dh6 (k i:Nat):(zDisk k).rcd i=none:=bw5
theorem be4 (k f id:Nat):(zDisk k).begunAt f id=none:=by
 unfold Dm.begunAt;rw [dh6]
section
variable {w w':World} {A:Option Addr} {n cap:Nat} {es:List Sc.Ev}
end
end
section
open Go.RowKit Go.Maps Rm Fm Sb
attribute [local go_sem] Oper.semAt_some
section
variable {es:List Sc.Ev} {x:NsG} {n k L:Nat} {A:Option Addr} {cap:Nat} {N1 N3:Nat} {va vb vp:Value} {w w3:World} {i:Nat} {wr w':World}
theorem EvG.len {ev:Nat->Sc.Ev} {N:Nat} {v:Value} {w1 w2:World} (h:EvG ev x w1 N n k v w2):∃ p c,v= .slice p k c:=by
 obtain ⟨p,c,e,-⟩:=h.came.form;rw [List.length_map,List.length_range] at e;exact ⟨p,c,e⟩
end
end
section
open Go.RowKit Go.Maps Rm Fm Sb
end
end Go.Proofs.YtafkfnodcemefaaGreat
