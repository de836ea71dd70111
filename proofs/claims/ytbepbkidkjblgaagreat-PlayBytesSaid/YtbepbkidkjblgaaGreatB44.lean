import Derived.Test.YtbepbkidkjblgaaGreatB42
import Derived.Test.YtbepbkidkjblgaaGreatB43
import Derived.Test.YtbepbkidkjblgaaGreatB32
set_option maxHeartbeats 8000000
set_option maxRecDepth 100000
namespace Go.Proofs.YtbepbkidkjblgaaGreat
open _root_.Go.Proofs.Tryz (prog)
section
open Go.RowKit Go.Maps Rm Fm Sb
attribute [local go_sem] Oper.semAt_some
section
variable {O:Nat->Prop} {w0 w1 w:World} {N n:Nat} {st:Nat->SvG} {os:List Dg}
theorem dv4 (h1:BoG O w0 w1 N n st os) (hb:Below w1.heap.size w1 w) {i:Nat} (hi:i<n) {A:Option Addr} {ps:List Cr.Pk} {cap:Nat} (hps:Cr.PicksAt w A ps) (hA:∀ ad,A=some ad->w1.heap.size<=ad.block) (hl:ps.length<=cap) (hc:cap<=9223372036854775807):
  Calls prog 20 #[.pointer (some ⟨N,0,none⟩),.int .i64 i,.slice A ps.length cap] w fun e w'=>e= .returned (.int .i64 0)/\BoG O w0 w' N n (setg st i ((st i).crash ps)) os/\∃ L,Turn L w w'/\∀ x,x∈L->x<w1.heap.size:=by
 obtain ⟨MB,ms,v,xs,hW',hst,b1,b2,b3,b4,hB',hl2⟩:=h1.ex;have hW:NwG w N MB n ms v xs os:=hW'.held hb;have hB:Tu O w0 w:=hB'.held hb;have k1:=hW'.nt.mas.lt;have k2:=fun x hx=>(hW'.nt.mas.ok i hi).lt (x:=x) hx
 refine (dw8 hW.nt hi hps (fun ad e=>⟨fun e2=>by have:=hA ad e; omega,fun hm=>by have:=hA ad e; have:=k2 _ hm; omega⟩) hl hc).mono ?_;rintro e w' ⟨rfl,S,Mp,rest,hF,hN,t⟩;refine ⟨rfl,.one hW hst b1 b2 b3 b4 hB hl2 hi ?_ hN t (fun y hy=> .inl (by rw [hF]; exact List.mem_append_left _ hy)),_,t,fun x hx=>?_⟩
 ·rw [<- hst i hi]
  unfold SvG.crash;rw [MaG.disk_sv];rfl
 ·rcases List.mem_cons.1 hx with rfl|hx
  ·exact k1
  ·exact k2 x hx
end
def pkOf (x:Nat×Nat×Nat):Cr.Pk:=((x.1:Int),(x.2.1:Int),x.2.2)
theorem Ol.wider {α:Type} {e:TypeId} {cl:α->List Value} {k B B':Nat} {v:Value} {xs:List α} {W:World} (h:Ol e cl k B v xs W) (hB:B'<=B):Ol e cl k B' v xs W:=by
 obtain ⟨h1,h2⟩:=h;refine ⟨h1,h2.imp id ?_⟩;rintro ⟨g,cap,cur,a,b,c⟩;exact ⟨g,cap,cur,a,Nat.le_trans hB b,c⟩
theorem dw4 {b:List Nat} (hb:∀ c∈b,c<256):∀ x∈Sc.picksOf b,x.2.2<4294967296:=by
 intro x hx;unfold Sc.picksOf at hx;obtain ⟨j,-,rfl⟩:=List.mem_map.1 hx;exact Sc.val_lt 4 _ (by simp; omega) (fun c hc=>hb c (List.mem_of_mem_drop (List.mem_of_mem_take hc)))
theorem dw5 {B:Nat} {v:Value} {xs:List (Nat×Nat×Nat)} {w:World} (h:Sp.Op3 B v xs w) (hlt:∀ x∈xs,x.2.2<4294967296):∃ A cap,v= .slice A (xs.map pkOf).length cap/\Cr.PicksAt w A (xs.map pkOf)/\(∀ ad,A=some ad->B<=ad.block)/\(xs.map pkOf).length<=cap/\cap<=9223372036854775807:=by
 rcases h.2 with ⟨rfl,h0⟩|⟨g,cap,cur,rfl,h4,-,h6,h7,-⟩
 ·have h00:xs=[]:=List.eq_nil_of_length_eq_zero h0
  subst h00;exact ⟨none,0,rfl,(fun j q hq=>by simp at hq),(fun ad e=>by cases e),Nat.le_refl _,by decide⟩
 ·refine ⟨some ⟨g,0,none⟩,cap,by rw [List.length_map],fun j q hq=>?_,fun ad e=>by cases e; exact h4,by rw [List.length_map]; exact h6,by unfold maxLen at h7; omega⟩
  rw [List.getElem?_map,Option.map_eq_some_iff] at hq;obtain ⟨x,hx,rfl⟩:=hq;obtain ⟨hj,rfl⟩:=List.getElem?_eq_some_iff.1 hx;obtain ⟨g0,cap0,e0,-,-,hc⟩:=Ol.at_ Sp.elemP.len h hj;injection e0 with e1 e2 e3;injection e1 with e1;injection e1 with e1;subst e1;refine ⟨hlt _ (List.getElem_mem hj),_,rfl,?_,?_,?_⟩
  ·have:=hc 0 (by omega)
   rw [Addr.add_lit,Nat.zero_add];exact this
  ·have:=hc 1 (by omega)
   rw [Addr.add_lit,Nat.zero_add];exact this
  ·have:=hc 2 (by omega)
   rw [Addr.add_lit,Nat.zero_add];exact this
theorem dv0 {i k n len:Int} {a:Nat} {p:List UInt8} (ha:a<4294967296) (hr:Sc.right ⟨1,i,k,n,a,len,p⟩=true) {N:Nat} {w:World} {Q:Int->World->Prop}
  (H:∀ w2 v,Below w.heap.size w w2->Sp.Op3 w.heap.size v (Sc.picksOf (Sc.nats p)) w2->Calls prog 20 #[.pointer (some ⟨N,0,none⟩),.int .i64 i,v] w2 fun x w'=>∃ z,x= .returned (.int .i64 z)/\Q z w'/\∃ L,Turn L w2 w'/\∀ x,x∈L->x<w.heap.size):
  Calls prog 12 #[.pointer (some ⟨N,0,none⟩),.agg (Sp.ecs ⟨1,i,k,n,a,len,p⟩)] w fun x w'=>∃ z,x= .returned (.int .i64 z)/\Q z w':=by
 have HR:=Sp.eright_eq (e:=⟨1,i,k,n,a,len,p⟩) ha hr;have hpl:p.length<=5000:=by
  unfold Sc.right at hr;simp only [Bool.and_eq_true,decide_eq_true_eq] at hr;omega
 have HCh:=fun u=>Sp.chosen_any (e:=⟨1,i,k,n,a,len,p⟩) hpl u
 unfold Sp.ecs at HR HCh ⊢;simp only at HR HCh ⊢;clear hr hpl;obtain ⟨s,hs⟩:∃ s:ByteArray,(⟨p.toArray⟩:ByteArray)=s:=⟨_,rfl⟩;rw [hs] at HR HCh ⊢;clear hs;obtain ⟨hbs,BX⟩:=nw w 44 #[.int .i64 1,.int .i64 i,.int .i64 k,.int .i64 n,.int .u32 (a:Nat),.int .i64 len,.string s];have hsz:w.heap.size<(w.alloc (.cells #[.int .i64 1,.int .i64 i,.int .i64 k,.int .i64 n,.int .u32 (a:Nat),.int .i64 len,.string s] 44)).heap.size:=BX.lt;go_enter Tryz.func12,Tryz.ntmps12;go_upto_region 1 with fail;generalize w.alloc _=w1 at*;have c0:w1.cell? ⟨w.heap.size,0,none⟩=some (.int .i64 1):=BX.at_ 0;have c1:w1.cell? ⟨w.heap.size,1,none⟩=some (.int .i64 i):=BX.at_ 1;have c2:w1.cell? ⟨w.heap.size,2,none⟩=some (.int .i64 k):=BX.at_ 2;have c3:w1.cell? ⟨w.heap.size,3,none⟩=some (.int .i64 n):=BX.at_ 3;have c4:w1.cell? ⟨w.heap.size,4,none⟩=some (.int .u32 (a:Nat)):=BX.at_ 4;have c5:w1.cell? ⟨w.heap.size,5,none⟩=some (.int .i64 len):=BX.at_ 5;have c6:w1.cell? ⟨w.heap.size,6,none⟩=some (.string s):=BX.at_ 6;have HR1:=HR w1;clear BX HR;go_upto_region 3 with (go_at_call 18; refine HR1.mono ?_; rintro x w2 ⟨rfl,hb2⟩; clear HR1);replace c0:=held hb2 c0;replace c1:=held hb2 c1;replace c2:=held hb2 c2;replace c3:=held hb2 c3;replace c4:=held hb2 c4;replace c5:=held hb2 c5;replace c6:=held hb2 c6;have hsz2:w.heap.size<=w2.drew.heap.size:=Nat.le_trans (Nat.le_of_lt hsz) hb2.size;have HC:=fun w4 v (hb:Below w2.heap.size w2 w4) (hO:Sp.Op3 w2.drew.heap.size v (Sc.picksOf (Sc.nats p)) w4)=>H w4 v (next (next hbs hb2) hb) (hO.wider hsz2)
 clear H hbs hb2 hsz hsz2;go_upto_region 7 with fail;refine wp_region_held_drew (S:=fun u=>u.cell? ⟨w.heap.size,0,none⟩=some (.int .i64 1)/\u.cell? ⟨w.heap.size,1,none⟩=some (.int .i64 i)/\u.cell? ⟨w.heap.size,2,none⟩=some (.int .i64 k)/\u.cell? ⟨w.heap.size,3,none⟩=some (.int .i64 n)/\u.cell? ⟨w.heap.size,4,none⟩=some (.int .u32 (a:Nat))/\u.cell? ⟨w.heap.size,5,none⟩=some (.int .i64 len)/\u.cell? ⟨w.heap.size,6,none⟩=some (.string s)) (by kernel_rfl) ⟨c0,c1,c2,c3,c4,c5,c6⟩ (fun hHeld=>?_);refine tk 0 (.pointer (some ⟨N,0,none⟩)) rfl hHeld ?_;go_frame;refine tk 1 (.pointer (some ⟨w.heap.size,1,none⟩)) rfl hHeld ?_;go_frame;refine tk 2 (.int .i64 i) rfl hHeld ?_;go_frame;refine tk 3 (.agg #[.int .i64 1,.int .i64 i,.int .i64 k,.int .i64 n,.int .u32 (a:Nat),.int .i64 len,.string s]) rfl hHeld ?_;go_frame;refine rl 4 rfl fun K hK=>?_
 go_simp;refine (HCh _).mono ?_;rintro x w4 ⟨v4,rfl,hO4,hb4⟩;have q0:=held hb4 c0;have q1:=held hb4 c1;have q2:=held hb4 c2;have q3:=held hb4 c3;have q4:=held hb4 c4;have q5:=held hb4 c5;have q6:=held hb4 c6;have hb5:Below w2.heap.size w2 w4:=(Below.refl _ _).drew.trans hb4;have HC5:=HC w4 v4 hb5 hO4;refine hK.out _ _ ⟨q0,q1,q2,q3,q4,q5,q6⟩ (fun hHeld=>?_);clear hK K HC HCh hb4 hb5 hO4 c0 c1 c2 c3 c4 c5 c6;try go_frame
 refine rl 5 rfl fun K hK=>?_
 go_simp;refine HC5.mono ?_;rintro x w5 ⟨z,rfl,hQ,L,t,hL⟩;have hw:w.heap.size∉L:=fun hm=>Nat.lt_irrefl _ (hL _ hm)
 refine hK.out _ _ ⟨t.cell q0 hw,t.cell q1 hw,t.cell q2 hw,t.cell q3 hw,t.cell q4 hw,t.cell q5 hw,t.cell q6 hw⟩ (fun hHeld=>?_);clear hK K HC5 q0 q1 q2 q3 q4 q5 q6 t hL hw;try go_frame
 refine rl 6 rfl fun K hK=>?_
 go_simp;exact hK.out _ _ hHeld (fun hHeld=>by
  clear hK K;refine wpAnyH_done (by kernel_rfl) ?_ _;try go_frame
  clear hHeld;go_wp2_with fail;go_ret;exact ⟨z,rfl,hQ⟩)
theorem getD_in {α:Type} {l:List α} {k:Nat} (h:k<l.length) {d:α}:l.getD k d=l[k]:=by
 rw [List.getD_eq_getElem?_getD,List.getElem?_eq_getElem h];rfl
abbrev NsG:=(Nat->SvG)×List Dg
noncomputable def nKind (n:Nat) (e:Sc.Ev) (x:NsG):Nat->Int×NsG
 |0=>if 0<=e.i/\e.i<(n:Int) then (((x.1 e.i.toNat).boot e.i.toNat).1,setg x.1 e.i.toNat ((x.1 e.i.toNat).boot e.i.toNat).2,x.2) else (1,x)
 |1=>if 0<=e.i/\e.i<(n:Int) then (0,setg x.1 e.i.toNat ((x.1 e.i.toNat).crash ((Sc.picksOf (Sc.nats e.p)).map pkOf)),x.2) else (1,x)
 |2=>if 0<=e.i/\e.i<(n:Int) then (0,setg x.1 e.i.toNat ((x.1 e.i.toNat).fail e.n),x.2) else (1,x)
 |3=>if (0<=e.i/\e.i<(n:Int))/\(0<=e.k/\e.k<(n:Int))/\e.i≠e.k/\e.n<=1000 then (0,setg (setg x.1 e.i.toNat ((x.1 e.i.toNat).link e.k.toNat e.n)) e.k.toNat ((x.1 e.k.toNat).link e.i.toNat e.n),x.2) else (1,x)
 |4=>if 0<=e.i/\e.i<(n:Int) then (((x.1 e.i.toNat).own e.a e.len true).1,setg x.1 e.i.toNat ((x.1 e.i.toNat).own e.a e.len true).2,x.2) else (3,x)
 |5=>if 0<=e.i/\e.i<(n:Int) then (((x.1 e.i.toNat).own e.a e.len false).1,setg x.1 e.i.toNat ((x.1 e.i.toNat).own e.a e.len false).2,x.2) else (3,x)
 |6=>if 0<=e.i/\e.i<(n:Int) then ((x.1 e.i.toNat).tick.1,setg x.1 e.i.toNat (x.1 e.i.toNat).tick.2.1,sendAll e.i.toNat x.2 (x.1 e.i.toNat).tick.2.2) else (3,x)
 |7=>if 0<=e.k/\e.k<(x.2.length:Int) then (0,recvAll n x.1 (x.2.getD e.k.toNat (0,0,[])) e.n,x.2.eraseIdx e.k.toNat) else (2,x)
 |8=>if 0<=e.k/\e.k<(x.2.length:Int) then (0,x.1,x.2.eraseIdx e.k.toNat) else (2,x)
 |9=>if 0<=e.k/\e.k<(x.2.length:Int) then (0,x.1,sent1 (x.2.getD e.k.toNat (0,0,[])).1 x.2 (x.2.getD e.k.toNat (0,0,[])).2) else (2,x)
 |_=>(0,roundG n x.1 x.2,[])
noncomputable def nStep (n:Nat) (e:Sc.Ev) (x:NsG):Int×NsG:=if Sc.right e=true then nKind n e x e.kind.toNat else (1,x)
theorem cv4 {e:Sc.Ev} (h:Sc.right e=true):e.kind=0\/e.kind=1\/e.kind=2\/e.kind=3\/e.kind=4\/e.kind=5\/e.kind=6\/e.kind=7\/e.kind=8\/e.kind=9\/e.kind=10:=by
 unfold Sc.right at h;simp only [Bool.and_eq_true,decide_eq_true_eq] at h;omega
theorem du8 {e:Sc.Ev} (h:Sc.right e=true):(0<=e.i/\e.i<=65536)/\(0<=e.k/\e.k<=65536)/\(0<=e.n/\e.n<=65536)/\0<=e.len/\e.len<=32:=by
 unfold Sc.right Sc.small Am.right at h;simp only [Bool.and_eq_true,decide_eq_true_eq] at h;omega
theorem InvG.sub {n t dl:Nat} {st:Nat->SvG} {os os':List Dg} (h:InvG n t dl st os) (hs:∀ g∈os',g∈os):InvG n t dl st os':=h.list fun g hg=>h.dgs g (hs g hg)
def OkG (n t dl:Nat) (x:NsG):Prop:=InvG n t dl x.1 x.2/\x.2.length<=256
theorem dn7 {n t dl:Nat} {x:NsG} {e:Sc.Ev} (hx:OkG n (t+8) (dl+256) x) (h8:n<=8) (ht:t<1000000) (hd:1100*dl<=100000000):OkG n t dl (nStep n e x).2:=by
 obtain ⟨h,hl⟩:=hx;have h0:InvG n t dl x.1 x.2:=h.less (by omega) (by omega);have h1:InvG n (t+1) dl x.1 x.2:=h.less (by omega) (by omega);have h2:InvG n t (dl+1) x.1 x.2:=h.less (by omega) (by omega);unfold nStep;split
 ·rename_i hr
  have hk:=cv4 hr;have hn:=du8 hr;have hi:∀ {z:Int},0<=z/\z<(n:Int)->z.toNat<n:=by omega
  rcases hk with hk|hk|hk|hk|hk|hk|hk|hk|hk|hk|hk<;>rw [hk]
  ·show OkG n t dl (ite _ _ _:Int×NsG).2
   split
   ·rename_i hz; exact ⟨h0.boot (hi hz) ht hd,hl⟩
   ·exact ⟨h0,hl⟩
  ·show OkG n t dl (ite _ _ _:Int×NsG).2
   split
   ·rename_i hz; exact ⟨h0.crash (hi hz) _,hl⟩
   ·exact ⟨h0,hl⟩
  ·show OkG n t dl (ite _ _ _:Int×NsG).2
   split
   ·rename_i hz; exact ⟨h0.fail (hi hz) _,hl⟩
   ·exact ⟨h0,hl⟩
  ·show OkG n t dl (ite _ _ _:Int×NsG).2
   split
   ·rename_i hz
    obtain ⟨z1,z2,z3,z4⟩:=hz;have hh:=(h0.link (hi z1) (k:=e.k.toNat) hn.2.2.1.1 z4).link (hi z2) (k:=e.i.toNat) hn.2.2.1.1 z4;rw [aj4 (by omega:e.k.toNat≠e.i.toNat)] at hh;exact ⟨hh,hl⟩
   ·exact ⟨h0,hl⟩
  ·show OkG n t dl (ite _ _ _:Int×NsG).2
   split
   ·rename_i hz; exact ⟨h0.own (hi hz) _ _ _,hl⟩
   ·exact ⟨h0,hl⟩
  ·show OkG n t dl (ite _ _ _:Int×NsG).2
   split
   ·rename_i hz; exact ⟨h0.own (hi hz) _ _ _,hl⟩
   ·exact ⟨h0,hl⟩
  ·show OkG n t dl (ite _ _ _:Int×NsG).2
   split
   ·rename_i hz; exact ⟨h1.tick (hi hz),am0 _ _ hl⟩
   ·exact ⟨h0,hl⟩
  ·show OkG n t dl (ite _ _ _:Int×NsG).2
   split
   ·rename_i hz
    have hk:e.k.toNat<x.2.length:=by omega
    rw [getD_in hk];exact ⟨(h2.recv (h.dgs _ (List.getElem_mem hk)).1 e.n).sub fun g hg=>List.mem_of_mem_eraseIdx hg,by have:=List.length_eraseIdx_le x.2 e.k.toNat; show (x.2.eraseIdx _).length<=_; omega⟩
   ·exact ⟨h0,hl⟩
  ·show OkG n t dl (ite _ _ _:Int×NsG).2
   split
   ·exact ⟨h0.sub fun g hg=>List.mem_of_mem_eraseIdx hg,by have:=List.length_eraseIdx_le x.2 e.k.toNat; show (x.2.eraseIdx _).length<=_; omega⟩
   ·exact ⟨h0,hl⟩
  ·show OkG n t dl (ite _ _ _:Int×NsG).2
   split
   ·rename_i hz
    have hk:e.k.toNat<x.2.length:=by omega
    rw [getD_in hk];refine ⟨h0.list fun g hg=>?_,cd4 _ hl⟩;unfold sent1 at hg;split at hg
    ·rcases List.mem_append.1 hg with hg|hg
     ·exact h.dgs g hg
     ·simp only [List.mem_singleton] at hg
      rw [hg];exact h.dgs _ (List.getElem_mem hk)
    ·exact h.dgs g hg
   ·exact ⟨h0,hl⟩
  ·exact ⟨di6 h hl h8,Nat.zero_le _⟩
 ·exact ⟨h0,hl⟩
end
section
end
section
open Go.RowKit Go.Maps Rm Fm Sb
attribute [local go_sem] Oper.semAt_some
theorem dx7 {kd i k n len:Int} {a:Nat} {p:List UInt8} (ha:a<4294967296) (hr:Sc.right ⟨kd,i,k,n,a,len,p⟩=false) {N:Nat} {w:World}:
  Calls prog 12 #[.pointer (some ⟨N,0,none⟩),.agg (Sp.ecs ⟨kd,i,k,n,a,len,p⟩)] w fun x w'=>x= .returned (.int .i64 1)/\Below w.heap.size w w':=by
 have HR:=Sp.eright_eq (e:=⟨kd,i,k,n,a,len,p⟩) ha hr;unfold Sp.ecs at HR ⊢;simp only at HR ⊢;clear hr;obtain ⟨s,hs⟩:∃ s:ByteArray,(⟨p.toArray⟩:ByteArray)=s:=⟨_,rfl⟩;rw [hs] at HR ⊢;clear hs;obtain ⟨hbs,BX⟩:=nw w 44 #[.int .i64 kd,.int .i64 i,.int .i64 k,.int .i64 n,.int .u32 (a:Nat),.int .i64 len,.string s];go_enter Tryz.func12,Tryz.ntmps12;go_upto_region 1 with fail;generalize w.alloc _=w1 at*;have c0:w1.cell? ⟨w.heap.size,0,none⟩=some (.int .i64 kd):=BX.at_ 0;have c1:w1.cell? ⟨w.heap.size,1,none⟩=some (.int .i64 i):=BX.at_ 1;have c2:w1.cell? ⟨w.heap.size,2,none⟩=some (.int .i64 k):=BX.at_ 2;have c3:w1.cell? ⟨w.heap.size,3,none⟩=some (.int .i64 n):=BX.at_ 3;have c4:w1.cell? ⟨w.heap.size,4,none⟩=some (.int .u32 (a:Nat)):=BX.at_ 4;have c5:w1.cell? ⟨w.heap.size,5,none⟩=some (.int .i64 len):=BX.at_ 5;have c6:w1.cell? ⟨w.heap.size,6,none⟩=some (.string s):=BX.at_ 6;have HR1:=HR w1;have hB:=Lib.hid hbs;clear BX HR hbs;go_wp2_with (go_at_call 18; refine HR1.mono ?_; rintro x w2 ⟨rfl,hb2⟩; have hB2:=Lib.hid hb2; clear HR1 hb2);go_ret;exact ⟨rfl,next hB.out hB2.out⟩
def CameG (O:Nat->Prop) (w0:World) (N n:Nat) (y:Int×NsG) (z:Int) (w':World):Prop:=z=y.1/\BoG O w0 w' N n y.2.1 y.2.2
section
variable {O:Nat->Prop} {w0 w:World} {N n:Nat} {x:NsG}
theorem dy5 (h:BoG O w0 w N n x.1 x.2) (hI:InvG n 8 256 x.1 x.2) {e:Sc.Ev} (ha:e.a<4294967296):
  Calls prog 12 #[.pointer (some ⟨N,0,none⟩),.agg (Sp.ecs e)] w fun r w'=>∃ z,r= .returned (.int .i64 z)/\CameG O w0 N n (nStep n e x) z w':=by
 obtain ⟨kd,i,k,m,a,len,p⟩:=e;by_cases hr:Sc.right ⟨kd,i,k,m,a,len,p⟩=true
 ·have hk:=cv4 hr
  have hn:=du8 hr;have hs:nStep n ⟨kd,i,k,m,a,len,p⟩ x=nKind n ⟨kd,i,k,m,a,len,p⟩ x kd.toNat:=by unfold nStep; rw [if_pos hr]
  rw [hs];simp only at hk hn ha;obtain ⟨hi2,hk2,hm2,hlen⟩:=hn;have hp:Pk.ok ⟨a,len⟩:=⟨ha,by show -9223372036854775808<=len; omega,by show len<=9223372036854775807; omega⟩;rcases hk with rfl|rfl|rfl|rfl|rfl|rfl|rfl|rfl|rfl|rfl|rfl
  ·refine bd3 ha hr fun w1 hb=>?_
   show Calls _ _ _ _ fun x' w'=>∃ z,x'=_/\CameG O w0 N n (ite _ _ _) z w'
   split
   ·rename_i hz
    simp only at hz;obtain ⟨j,rfl⟩:∃ j:Nat,i=j:=⟨i.toNat,by omega⟩;have hj:j<n:=by omega
    refine (eb0 (h.held hb) hj (hI.low j hj)).mono ?_;rintro e w' ⟨rfl,hB⟩;exact ⟨_,rfl,rfl,hB⟩
   ·rename_i hz
    simp only at hz;refine (cl4 (h.held hb) hz).mono ?_;rintro e w' ⟨rfl,rfl⟩;exact ⟨_,rfl,rfl,h.held hb⟩
  ·refine dv0 ha hr fun w2 v hb hO=>?_
   have hps:∀ y∈Sc.picksOf (Sc.nats p),y.2.2<4294967296:=dw4 (fun c hc=>by unfold Sc.nats at hc; obtain ⟨b,-,rfl⟩:=List.mem_map.1 hc; exact b.toNat_lt);obtain ⟨A,cap,rfl,q1,q2,q3,q4⟩:=dw5 hO hps;show Calls _ _ _ _ fun x' w'=>∃ z,x'=_/\CameG O w0 N n (ite _ _ _) z w'/\_
   split
   ·rename_i hz
    simp only at hz;obtain ⟨j,rfl⟩:∃ j:Nat,i=j:=⟨i.toNat,by omega⟩;have hj:j<n:=by omega
    refine (dv4 h hb hj q1 q2 q3 q4).mono ?_;rintro e w' ⟨rfl,hB,L,t,hL⟩;exact ⟨_,rfl,⟨rfl,hB⟩,L,t,hL⟩
   ·rename_i hz
    simp only at hz;refine (by2 (h.held hb) hz _ _ _).mono ?_;rintro e w' ⟨rfl,rfl⟩;exact ⟨_,rfl,⟨rfl,h.held hb⟩,[],.refl _ _,fun x hx=>by cases hx⟩
  ·refine ea5 ha hr fun w1 hb=>?_
   show Calls _ _ _ _ fun x' w'=>∃ z,x'=_/\CameG O w0 N n (ite _ _ _) z w'
   split
   ·rename_i hz
    simp only at hz;obtain ⟨j,rfl⟩:∃ j:Nat,i=j:=⟨i.toNat,by omega⟩;have hj:j<n:=by omega
    refine (ea9 (h.held hb) hj (a:=m) (by omega)).mono ?_;rintro e w' ⟨rfl,hB⟩;exact ⟨_,rfl,rfl,hB⟩
   ·rename_i hz
    simp only at hz;refine (cl1 (h.held hb) hz _).mono ?_;rintro e w' ⟨rfl,rfl⟩;exact ⟨_,rfl,rfl,h.held hb⟩
  ·refine bn2 ha hr fun w1 hb=>?_
   show Calls _ _ _ _ fun x' w'=>∃ z,x'=_/\CameG O w0 N n (ite _ _ _) z w'
   split
   ·rename_i hz
    simp only at hz;obtain ⟨z1,z2,z3,z4⟩:=hz;obtain ⟨j,rfl⟩:∃ j:Nat,i=j:=⟨i.toNat,by omega⟩;obtain ⟨q,rfl⟩:∃ q:Nat,k=q:=⟨k.toNat,by omega⟩;refine (ea8 (h.held hb) (a:=j) (b:=q) (by omega) (by omega) (by omega) hm2.1 z4).mono ?_;rintro e w' ⟨rfl,hB⟩;exact ⟨_,rfl,rfl,hB⟩
   ·rename_i hz
    simp only at hz;refine (cj9 (h.held hb) hm2.1 hz).mono ?_;rintro e w' ⟨rfl,rfl⟩;exact ⟨_,rfl,rfl,h.held hb⟩
  ·refine cy0 ha hr fun w1 hb=>?_
   show Calls _ _ _ _ fun x' w'=>∃ z,x'=_/\CameG O w0 N n (ite _ _ _) z w'
   split
   ·rename_i hz
    simp only at hz;obtain ⟨j,rfl⟩:∃ j:Nat,i=j:=⟨i.toNat,by omega⟩;have hj:j<n:=by omega
    refine (dy6 (h.held hb) hj hp true).mono ?_;rintro e w' ⟨rfl,hB⟩;exact ⟨_,rfl,rfl,hB⟩
   ·rename_i hz
    simp only at hz;refine (bi8 (h.held hb) hz _ _ _).mono ?_;rintro e w' ⟨rfl,hB⟩;exact ⟨_,rfl,rfl,hB⟩
  ·refine do_off ha hr fun w1 hb=>?_
   show Calls _ _ _ _ fun x' w'=>∃ z,x'=_/\CameG O w0 N n (ite _ _ _) z w'
   split
   ·rename_i hz
    simp only at hz;obtain ⟨j,rfl⟩:∃ j:Nat,i=j:=⟨i.toNat,by omega⟩;have hj:j<n:=by omega
    refine (dy6 (h.held hb) hj hp false).mono ?_;rintro e w' ⟨rfl,hB⟩;exact ⟨_,rfl,rfl,hB⟩
   ·rename_i hz
    simp only at hz;refine (bi8 (h.held hb) hz _ _ _).mono ?_;rintro e w' ⟨rfl,hB⟩;exact ⟨_,rfl,rfl,hB⟩
  ·refine ea3 ha hr fun w1 hb=>?_
   show Calls _ _ _ _ fun x' w'=>∃ z,x'=_/\CameG O w0 N n (ite _ _ _) z w'
   split
   ·rename_i hz
    simp only at hz;obtain ⟨j,rfl⟩:∃ j:Nat,i=j:=⟨i.toNat,by omega⟩;have hj:j<n:=by omega
    refine (dv2 (h.held hb) hj fun y hy=>?_).mono ?_
    ·obtain ⟨g1,g2,-⟩:=hI.run j hj y hy
     exact ⟨g1,by omega⟩
    ·rintro e w' ⟨rfl,hB⟩
     exact ⟨_,rfl,rfl,hB⟩
   ·rename_i hz
    simp only at hz;refine (cj7 (h.held hb) hz).mono ?_;rintro e w' ⟨rfl,rfl⟩;exact ⟨_,rfl,rfl,h.held hb⟩
  ·refine dg8 ha hr fun w1 hb=>?_
   show Calls _ _ _ _ fun x' w'=>∃ z,x'=_/\CameG O w0 N n (ite _ _ _) z w'
   split
   ·rename_i hz
    simp only at hz;obtain ⟨j,rfl⟩:∃ j:Nat,k=j:=⟨k.toNat,by omega⟩;have hj:j<x.2.length:=by omega
    have hg:=hI.dgs _ (List.getElem_mem hj);refine (bj6 (h.held hb) hj m hg.1 (by have:=hg.2; omega) (fun i y hi hy=>by obtain ⟨-,-,c⟩:=hI.run i hi y hy; omega)).mono ?_;rintro e w' ⟨rfl,hB⟩;refine ⟨_,rfl,rfl,?_⟩;show BoG O w0 w' N n (recvAll n x.1 (x.2.getD j (0,0,[])) m) _;rw [getD_in hj];exact hB
   ·rename_i hz
    simp only at hz;refine (bh6 (h.held hb) hz _).mono ?_;rintro e w' ⟨rfl,rfl⟩;exact ⟨_,rfl,rfl,h.held hb⟩
  ·refine ea4 ha hr fun w1 hb=>?_
   show Calls _ _ _ _ fun x' w'=>∃ z,x'=_/\CameG O w0 N n (ite _ _ _) z w'
   split
   ·rename_i hz
    simp only at hz;obtain ⟨j,rfl⟩:∃ j:Nat,k=j:=⟨k.toNat,by omega⟩;refine (ea7 (h.held hb) (by omega)).mono ?_;rintro e w' ⟨rfl,hB⟩;exact ⟨_,rfl,rfl,hB⟩
   ·rename_i hz
    simp only at hz;refine (cj8 (h.held hb) hz).mono ?_;rintro e w' ⟨rfl,rfl⟩;exact ⟨_,rfl,rfl,h.held hb⟩
  ·refine dx8 ha hr fun w1 hb=>?_
   show Calls _ _ _ _ fun x' w'=>∃ z,x'=_/\CameG O w0 N n (ite _ _ _) z w'
   split
   ·rename_i hz
    simp only at hz;obtain ⟨j,rfl⟩:∃ j:Nat,k=j:=⟨k.toNat,by omega⟩;have hj:j<x.2.length:=by omega
    refine (dy1 (h.held hb) hj).mono ?_;rintro e w' ⟨rfl,hB⟩;refine ⟨_,rfl,rfl,?_⟩;show BoG O w0 w' N n x.1 (sent1 (x.2.getD j (0,0,[])).1 x.2 (x.2.getD j (0,0,[])).2);rw [getD_in hj];exact hB
   ·rename_i hz
    simp only at hz;refine (by6 (h.held hb) hz).mono ?_;rintro e w' ⟨rfl,rfl⟩;exact ⟨_,rfl,rfl,h.held hb⟩
  ·refine bt8 ha hr fun w1 hb=>?_
   refine (dv3 (t:=0) (dl:=0) (h.held hb) hI).mono ?_;rintro e w' ⟨rfl,hB⟩;exact ⟨rfl,rfl,hB⟩
 ·have hr':Sc.right ⟨kd,i,k,m,a,len,p⟩=false:=by simpa using hr
  have hs:nStep n ⟨kd,i,k,m,a,len,p⟩ x=(1,x):=by unfold nStep; rw [if_neg hr]
  rw [hs];refine (dx7 ha hr').mono ?_;rintro r w' ⟨rfl,hb⟩;exact ⟨_,rfl,rfl,h.held hb⟩
end
noncomputable def nAt (n:Nat) (ev:Nat->Sc.Ev) (x:NsG):Nat->NsG
 |0=>x
 |k+1=>(nStep n (ev k) (nAt n ev x k)).2
noncomputable def nZ (n:Nat) (ev:Nat->Sc.Ev) (x:NsG) (k:Nat):Int:=(nStep n (ev k) (nAt n ev x k)).1
theorem bn4 {n:Nat} {ev ev':Nat->Sc.Ev} {x:NsG}:∀ {k:Nat} (_:∀ j,j<k->ev j=ev' j),nAt n ev x k=nAt n ev' x k
 |0,_=>rfl
 |k+1,h=>by
  show (nStep n (ev k) (nAt n ev x k)).2=(nStep n (ev' k) (nAt n ev' x k)).2;rw [bn4 (k:=k) fun j hj=>h j (by omega),h k (by omega)]
theorem dz4 {n:Nat} {ev ev':Nat->Sc.Ev} {x:NsG} {k:Nat} (h:∀ j,j<=k->ev j=ev' j):nZ n ev x k=nZ n ev' x k:=by
 unfold nZ;rw [bn4 (k:=k) fun j hj=>h j (by omega),h k (by omega)]
def evOf (es:List Sc.Ev) (k:Nat):Sc.Ev:=es.getD k ⟨0,0,0,0,0,0,[]⟩
def nNew (sec:Nat):NsG:=(fun _=>⟨none,fun _=>0,zDisk sec⟩,[])
theorem dz5 (n t dl sec:Nat):OkG n t dl (nNew sec):=⟨⟨fun _ _ _=>⟨Int.le_refl _,by show (0:Int)<=1000; decide⟩,(fun _ _ x hx=>by cases hx),(fun g hg=>by cases hg)⟩,Nat.zero_le _⟩
theorem do3 {n:Nat} {ev:Nat->Sc.Ev} {x:NsG} {L:Nat} (h:OkG n (8*L) (256*L) x) (h8:n<=8) (ht:8*L<1000000) (hd:1100*(256*L)<=100000000):∀ {k:Nat} (_:k<=L),OkG n (8*(L - k)) (256*(L - k)) (nAt n ev x k)
 |0,_=>h
 |k+1,hk=>by
  have h1:=do3 (ev:=ev) h h8 ht hd (k:=k) (by omega);have e1:8*(L - k)=8*(L - (k+1))+8:=by omega
  have e2:256*(L - k)=256*(L - (k+1))+256:=by omega
  rw [e1,e2] at h1;exact dn7 h1 h8 (by omega) (by have:=Nat.mul_le_mul_left 256 (Nat.sub_le L (k+1)); omega)
theorem OkG.any {n t dl:Nat} {x:NsG} (h:OkG n t dl x) {t' dl':Nat} (h1:t'<=t) (h2:dl'<=dl):OkG n t' dl' x:=⟨h.1.less h1 h2,h.2⟩
section
variable {w w2 w3 wr:World} {N nn:Nat} {st:Nat->SvG} {os:List Dg} {v:Value} {zs:List Int}
theorem BoG.here {O:Nat->Prop} (h:BoG O w2 w3 N nn st os):BoG O w3 w3 N nn st os:=h.beside (.refl [] _) (fun x hx=>by cases hx) (fun _ _ h=>h) h.tu.wide
theorem dh1 (hO:Ol 25 icl 1 w.heap.size v zs w3) (hB:Below w.heap.size w w3) (hN:BoG (Ov w v) w2 w3 N nn st os) (z:Int) (hbig:zs.length<=1000000000):
  ∃ g' cap' W',(Builtin.append_ #[29,29] 29 #[v,.slice (some ⟨w3.heap.size,0,none⟩) 1 1]).run prog (w3.alloc (.cells #[.int .i64 z] 25))= .ok (.slice (some ⟨g',0,none⟩) (zs.length+1) cap') W'/\
   Ol 25 icl 1 w.heap.size (.slice (some ⟨g',0,none⟩) (zs.length+1) cap') (zs++[z]) W'/\BoG (Ov w (.slice (some ⟨g',0,none⟩) (zs.length+1) cap')) W' W' N nn st os/\Below w.heap.size w W':=by
 obtain ⟨g',cap',W',hrun,h6,t,hat⟩:=hO.push1 elemI hB.size z (by omega) 29;have hb:(Value.slice (some ⟨g',0,none⟩) (zs.length+1) cap').ownBlock=some g':=rfl;have hg:=h6.lt hb;refine ⟨g',cap',W',hrun,h6,hN.beside t (fun x hx=>?_) (fun x hx ho=>⟨ho.1,fun e=>?_⟩) (fun x hx=>⟨Nat.le_trans hB.size (Nat.le_trans t.size hx),fun e=>?_⟩),own_below hO hB hB.size t⟩
 ·have hx':v.ownBlock=some x:=by simpa using hx
  obtain ⟨C,hC⟩:=hO.blk hx';exact ⟨fun ho=>ho.2 hx',_,C,by decide,hC⟩
 ·rw [hb] at e
  injection e with e;rcases hat with h|h
  ·exact ho.2 (by rw [h,e])
  ·omega
 ·rw [hb] at e
  injection e with e;omega
structure EvG (ev:Nat->Sc.Ev) (x:NsG) (w:World) (N nn k:Nat) (v:Value) (wr:World):Prop where
 net:BoG (Ov w v) wr wr N nn (nAt nn ev x k).1 (nAt nn ev x k).2
 came:Ol 25 icl 1 w.heap.size v ((List.range k).map (nZ nn ev x)) wr
 below:Below w.heap.size w wr
theorem EvG.next {ev:Nat->Sc.Ev} {x:NsG} {k L:Nat} (h:EvG ev x w N nn k v wr) {w1:World} (hb:Below wr.heap.size wr w1) (hx:OkG nn (8*L) (256*L) x) (ht:8*L<1000000) (hd:1100*(256*L)<=100000000) (hk:k<L) (ha:(ev k).a<4294967296):
  Calls prog 12 #[.pointer (some ⟨N,0,none⟩),.agg (Sp.ecs (ev k))] w1 fun r w'=>∃ z,r= .returned (.int .i64 z)/\∃ g' cap' W',(Builtin.append_ #[29,29] 29 #[v,.slice (some ⟨w'.heap.size,0,none⟩) 1 1]).run prog (w'.alloc (.cells #[.int .i64 z] 25))= .ok (.slice (some ⟨g',0,none⟩) (k+1:Nat) cap') W'/\
   Hid (EvG ev x w N nn (k+1) (.slice (some ⟨g',0,none⟩) (k+1:Nat) cap') W'):=by
 obtain ⟨hN,hO,hB⟩:=h;have hok:=do3 (ev:=ev) hx hN.n8 ht hd (k:=k) (by omega);have hN1:=(hN.held hb).here;refine (dy5 hN1 (hok.any (t':=8) (dl':=256) (by omega) (by omega)).1 ha).mono ?_;rintro r w' ⟨z,rfl,hz,hN'⟩;have T:=hN'.tu;have hB1:=hB.trans (hb.mono hB.size);have hB':Below w.heap.size w w':=hB1.trans ⟨T.os,T.tape,T.output,T.size,fun i hi=>T.block i (Nat.lt_of_lt_of_le hi hB1.size) (fun ho=>by have:=ho.1; omega)⟩;have hO':=(hO.held hb).of_block (W':=w') (fun b e=>T.block b ((hO.held hb).lt e).1 (fun ho=>ho.2 e));obtain ⟨g',cap',W',hrun,h6,h7,h8⟩:=dh1 hO' hB' hN' z (by simp; omega);rw [List.length_map,List.length_range] at hrun h6 h7;refine ⟨z,rfl,g',cap',W',hrun,Lib.hid ⟨h7,?_,h8⟩⟩;rw [List.range_succ,List.map_append];show Ol _ _ _ _ _ (_++[nZ nn ev x k]) _;rw [show nZ nn ev x k=z from hz.symm];exact h6
end
theorem ae3 {A:Option Addr} {n cap nn sec:Nat} {es:List Sc.Ev} {w:World} (hE:Sp.El w A n cap es) (hn:n<=1000000000) (h1:1<=nn) (h8:nn<=8) (hs1:1<=sec) (hs2:sec<=512) (hd:1100*(256*es.length)<=100000000) (ht:8*es.length<1000000) (ha:∀ e∈es,e.a<4294967296):
  Calls prog 8 #[.int .i64 (nn:Nat),.int .i64 (sec:Nat),.slice A n cap] w fun x w'=>∃ N v,x= .returned (.tuple #[.pointer (some ⟨N,0,none⟩),v])/\EvG (evOf es) (nNew sec) w N nn n v w':=by
 have HN:=bg_new nn h1 h8 sec hs1 hs2 w;have hlen:=hE.len;have H:=H5 hE hd ht hlen ha;clear hE hd ht hlen ha;go_enter Tryz.func8,Tryz.ntmps8;go_wp2_with fail;refine HN.mono ?_;rintro x w1 ⟨N,rfl,h1⟩;have R0:Hid (EvG (evOf es) (nNew sec) w N nn 0 (.slice none 0 0) w1):=Lib.hid ⟨h1.beside (.refl [] _) (fun x hx=>by cases hx) (fun x hx ho=>⟨ho,fun e=>by cases e⟩) (fun x hx=>⟨Nat.le_trans h1.tu.size hx,fun e=>by cases e⟩),Ol.nil _ _,h1.tu.below⟩;clear HN h1;go_wp2_with fail;go_loopw [9,17] (fun v i wr=>∃ k:Nat,i= .int .i64 (k:Nat)/\k<=n/\Hid (EvG (evOf es) (nNew sec) w N nn k v wr)) (fun _ i _=>n - (intOf i).toNat)
 case atStart=>exact ⟨0,rfl,Nat.zero_le _,R0⟩
 case round=>
  clear R0;rename_i v i wr;obtain ⟨k,rfl,hkn,R⟩:=hrel;by_cases hlt:k<n
  ·have hk:k<es.length:=by rw [H.out.2.2.2.1]; exact hlt
   obtain ⟨b,off,rfl⟩:=H.out.1.plain (by omega);have hEw:=H.out.1.held (w':=wr) (by have:=R.out.below; exact this);have HD:=fun (w10:World) (hb:Below wr.heap.size wr w10)=>R.out.next (w1:=w10) hb (dz5 nn _ _ sec) H.out.2.2.1 H.out.2.1 hk (by unfold evOf; rw [getD_in hk]; exact H.out.2.2.2.2 _ (List.getElem_mem hk))
   obtain ⟨e,he⟩:∃ e,es[k]=e:=⟨_,rfl⟩;obtain ⟨c0,c1,c2,c3,c4,c5,c6⟩:=hEw.at_ hk he;rw [show evOf es k=e from (getD_in hk).trans he] at HD;unfold Sp.ecs at HD;have i1:(k:Int)<(n:Int):=by omega
   clear hEw he;generalize hy0:e.kind=y0 at*;generalize hy1:e.i=y1 at*;generalize hy2:e.k=y2 at*;generalize hy3:e.n=y3 at*;generalize hy4:e.a=y4 at*;generalize hy5:e.len=y5 at*;generalize hy6:(⟨e.p.toArray⟩:ByteArray)=s at*;clear hy0 hy1 hy2 hy3 hy4 hy5 hy6;obtain ⟨hbx,BX⟩:=nw wr 44 #[.int .i64 y0,.int .i64 y1,.int .i64 y2,.int .i64 y3,.int .u32 (y4:Nat),.int .i64 y5,.string s];have X:=H2 hbx BX;clear hbx BX;go_upto_region 6 with fail;generalize wr.alloc _=w10 at*;have x0:w10.cell? ⟨wr.heap.size,0,none⟩=some (.int .i64 y0):=X.out.2.at_ 0;have x1:w10.cell? ⟨wr.heap.size,1,none⟩=some (.int .i64 y1):=X.out.2.at_ 1;have x2:w10.cell? ⟨wr.heap.size,2,none⟩=some (.int .i64 y2):=X.out.2.at_ 2;have x3:w10.cell? ⟨wr.heap.size,3,none⟩=some (.int .i64 y3):=X.out.2.at_ 3;have x4:w10.cell? ⟨wr.heap.size,4,none⟩=some (.int .u32 (y4:Nat)):=X.out.2.at_ 4;have x5:w10.cell? ⟨wr.heap.size,5,none⟩=some (.int .i64 y5):=X.out.2.at_ 5;have x6:w10.cell? ⟨wr.heap.size,6,none⟩=some (.string s):=X.out.2.at_ 6;have HD10:=HD w10 X.out.1;clear HD c0 c1 c2 c3 c4 c5 c6 R X;go_wp2_with fail;refine HD10.mono ?_;rintro x w11 ⟨z,rfl,g',cap',W',hrun,R'⟩;clear HD10 x0 x1 x2 x3 x4 x5 x6;go_wp2_with (first|(at_builtin; refine Lib.wpList_append_run _ rfl (.tmp 21) (.tmp 25) 29 29 rfl _ _ rfl rfl _ _ hrun ?_)|fail);go_roundw
   case rel=>exact ⟨k+1,by go_num,by omega,R'⟩
   case measure=>simp [intOf]; omega
  ·obtain rfl:k=n:=by omega
   go_wp2_with fail;go_ret2;exact ⟨N,_,rfl,R.out⟩
end
section
open Go.RowKit Go.Maps Rm Fm Sb
theorem dh6 (k i:Nat):(zDisk k).rcd i=none:=bw5
theorem be4 (k f id:Nat):(zDisk k).begunAt f id=none:=by
 unfold Dm.begunAt;rw [dh6]
theorem cf1 {k:Nat} (hk:4<=k) (id:Nat):∃ E J,(zDisk k).opened id=(0,E,some (J,sm0)):=by
 have hj:(zDisk k).journal id=none:=by
  unfold Dm.journal;rw [be4,be4]
 have hp:∀ bs,((zDisk k).put 0 bs).1=0:=fun bs=>by
  unfold Dm.put Dm.write Dm.sync zDisk;rfl
 unfold Dm.opened;rw [if_neg (by show ¬ k / 2<2; omega),hj];simp only;rw [if_neg (by rw [hp]; simp)];exact ⟨_,_,rfl⟩
section
variable {w w':World} {A:Option Addr} {n cap:Nat} {es:List Sc.Ev}
theorem Sp.El.take (h:Sp.El w A n cap es) {k:Nat} (hk:k<=n):Sp.El w A k cap (es.take k):=by
 have hl:=h.len;refine ⟨by rw [List.length_take]; omega,Nat.le_trans hk h.max,Nat.le_trans hk h.cap,fun h0=>h.plain (by omega),fun b off e i hi j hj=>?_,fun e he=>h.good e (List.mem_of_mem_take he)⟩;have hi2:i<es.length:=by rw [List.length_take] at hi; omega
 rw [List.getElem_take];exact h.cells b off e i hi2 j hj
end
theorem du9 {es:List Sc.Ev} {k j:Nat} (h:j<k):evOf (es.take k) j=evOf es j:=by
 unfold evOf;rw [List.getD_eq_getElem?_getD,List.getD_eq_getElem?_getD,List.getElem?_take,if_pos h]
def zEv:Sc.Ev:=⟨0,0,0,0,0,0,[]⟩
theorem cp1 {n:Nat} (hn:0<n) (x:NsG):nStep n zEv x=(((x.1 0).boot 0).1,setg x.1 0 ((x.1 0).boot 0).2,x.2):=by
 unfold nStep;rw [if_pos (by decide)];show (if (0:Int)<=0/\(0:Int)<(n:Int) then (((x.1 0).boot 0).1,setg x.1 0 ((x.1 0).boot 0).2,x.2) else (1,x))=_;rw [if_pos ⟨Int.le_refl _,by omega⟩]
theorem am9:nZ 2 (evOf [zEv,zEv]) (nNew 64) 0=0/\nZ 2 (evOf [zEv,zEv]) (nNew 64) 1=3/\((nAt 2 (evOf [zEv,zEv]) (nNew 64) 2).1 0).r≠none/\((nAt 2 (evOf [zEv,zEv]) (nNew 64) 2).1 1).r=none:=by
 obtain ⟨E,J,hX⟩:=cf1 (k:=64) (by decide) (0+1);have h0:nStep 2 zEv (nNew 64)=(0,setg (nNew 64).1 0 ⟨some ⟨J,100000000,mrB (0+1) 0 sm0 (fun _=>0)⟩,fun _=>0,zDisk 64⟩,[]):=by
  rw [cp1 (by decide),SvG.boot_on (s:=(nNew 64).1 0) rfl hX];rfl
 have e1:nAt 2 (evOf [zEv,zEv]) (nNew 64) 1=(setg (nNew 64).1 0 ⟨some ⟨J,100000000,mrB (0+1) 0 sm0 (fun _=>0)⟩,fun _=>0,zDisk 64⟩,[]):=by
  show (nStep 2 zEv (nNew 64)).2=_;rw [h0]
 have hr:((nAt 2 (evOf [zEv,zEv]) (nNew 64) 1).1 0).r=some ⟨J,100000000,mrB (0+1) 0 sm0 (fun _=>0)⟩:=by rw [e1]; rfl
 have h1:=cp1 (n:=2) (by decide) (nAt 2 (evOf [zEv,zEv]) (nNew 64) 1);rw [SvG.boot_runs hr] at h1;have e2:nAt 2 (evOf [zEv,zEv]) (nNew 64) 2=(nStep 2 zEv (nAt 2 (evOf [zEv,zEv]) (nNew 64) 1)).2:=rfl;refine ⟨?_,?_,?_,?_⟩
 ·show (nStep 2 zEv (nNew 64)).1=0
  rw [h0]
 ·show (nStep 2 zEv (nAt 2 (evOf [zEv,zEv]) (nNew 64) 1)).1=3
  rw [h1]
 ·rw [e2,h1]
  show (setg (nAt 2 (evOf [zEv,zEv]) (nNew 64) 1).1 0 ((nAt 2 (evOf [zEv,zEv]) (nNew 64) 1).1 0) 0).r≠none;rw [ak8,hr];simp
 ·rw [e2,h1,e1]
  rfl
end
section
open Go.RowKit Go.Maps Rm Fm Sb
attribute [local go_sem] Oper.semAt_some
def WaitsL (w:World) (N L:Nat):Prop:=∃ p c,w.cell? ⟨N,1,none⟩=some (.slice p L c)
theorem aq5 {w:World} {N L:Nat} (h:WaitsL w N L):Calls prog 10 #[.pointer (some ⟨N,0,none⟩)] w fun e w'=>e= .returned (.int .i64 L)/\w'=w:=by
 obtain ⟨p,c,c0⟩:=h;go_enter Tryz.func10,Tryz.ntmps10;go_wp2_with fail;go_ret;exact ⟨rfl,rfl⟩
theorem BoG.waits {O:Nat->Prop} {w0 w:World} {N n:Nat} {st:Nat->SvG} {os:List Dg} (h:BoG O w0 w N n st os):WaitsL w N os.length/\N<w.heap.size:=by
 obtain ⟨MB,ms,v,xs,hW,-⟩:=h.ex;obtain ⟨p,cap,rfl,-⟩:=hW.wy.own.form;exact ⟨⟨p,cap,by rw [<- hW.wy.len]; exact hW.nt.head.at_ 1⟩,hW.nt.head.lt⟩
structure TwR (es:List Sc.Ev) (x:NsG) (n k L:Nat) (A:Option Addr) (cap:Nat) (N1 N3:Nat) (va vb vp:Value) (w w3:World) (i:Nat) (wr:World):Prop where
 net:BoG (Ov w3 vp) wr wr N3 n (nAt n (evOf es) x (max i k)).1 (nAt n (evOf es) x (max i k)).2
 a:Ol 25 icl 1 0 va ((List.range L).map (nZ n (evOf es) x)) wr
 b:Ol 25 icl 1 0 vb ((List.range L).map (nZ n (evOf es) x)) wr
 p:Ol 25 icl 1 0 vp ((List.range k).map (nZ n (evOf es) x)) wr
 list:Sp.El w A L cap es
 wait:WaitsL wr N1 (nAt n (evOf es) x L).2.length
 below:Below w.heap.size w wr
 old:(∀ y,va.ownBlock=some y->y<w3.heap.size)/\(∀ y,vb.ownBlock=some y->y<w3.heap.size)/\N1<w3.heap.size/\w.heap.size<=w3.heap.size/\w3.heap.size<=wr.heap.size
 ok:OkG n (8*L) (256*L) x
 lim:8*L<1000000/\1100*(256*L)<=100000000/\k<=L
section
variable {es:List Sc.Ev} {x:NsG} {n k L:Nat} {A:Option Addr} {cap:Nat} {N1 N3:Nat} {va vb vp:Value} {w w3:World} {i:Nat} {wr w':World}
theorem TwR.hold (h:TwR es x n k L A cap N1 N3 va vb vp w w3 i wr) (hb:Below wr.heap.size wr w'):TwR es x n k L A cap N1 N3 va vb vp w w3 i w':=by
 obtain ⟨p,c,c0⟩:=h.wait;exact ⟨(h.net.held hb).here,h.a.held hb,h.b.held hb,h.p.held hb,h.list,⟨p,c,held hb c0⟩,h.below.trans (hb.mono h.below.size),by obtain ⟨a,b,c,d,e⟩:=h.old; exact ⟨a,b,c,d,Nat.le_trans e hb.size⟩,h.ok,h.lim⟩
theorem TwR.skip (h:TwR es x n k L A cap N1 N3 va vb vp w w3 i wr) (hi:i<k):TwR es x n k L A cap N1 N3 va vb vp w w3 (i+1) wr:=by
 have e:max (i+1) k=max i k:=by omega
 exact ⟨by rw [e]; exact h.net,h.a,h.b,h.p,h.list,h.wait,h.below,h.old,h.ok,h.lim⟩
theorem TwR.act (h:TwR es x n k L A cap N1 N3 va vb vp w w3 i wr) (_:k<=i) (hi:i<es.length) (hb:Below wr.heap.size wr w'):
  Calls prog 12 #[.pointer (some ⟨N3,0,none⟩),.agg (Sp.ecs es[i])] w' fun r w2=>r= .returned (.int .i64 (nZ n (evOf es) x i))/\Hid (TwR es x n k L A cap N1 N3 va vb vp w w3 (i+1) w2):=by
 have h':=h.hold hb;have hl:=h.list.len;obtain ⟨l1,l2,l3⟩:=h.lim;have hok:=do3 (ev:=evOf es) h.ok h.net.n8 l1 l2 (k:=i) (by omega);have e:max i k=i:=by omega
 have hN:=h'.net;rw [e] at hN;have hev:evOf es i=es[i]:=getD_in hi;have hD:=dy5 hN (hok.any (t':=8) (dl':=256) (by omega) (by omega)).1 (e:=es[i]) (h.list.good _ (List.getElem_mem hi)).fits.a;refine hD.mono ?_;rintro r w2 ⟨z,rfl,hz,hN'⟩;have T:=hN'.tu;obtain ⟨o1,o2,o3,o4,o5⟩:=h'.old;have away:∀ y,y<w3.heap.size->¬ Ov w3 vp y:=fun y hy ho=>by have:=ho.1; omega
 have hz':z=nZ n (evOf es) x i:=by
  unfold nZ;rw [hev];exact hz
 refine ⟨by rw [hz'],Lib.hid ⟨?_,h'.a.of_block (fun y hy=>T.block y (h'.a.lt hy).1 (away y (o1 y hy))),h'.b.of_block (fun y hy=>T.block y (h'.b.lt hy).1 (away y (o2 y hy))),h'.p.of_block (fun y hy=>T.block y (h'.p.lt hy).1 (fun ho=>ho.2 hy)),h.list,?_,h'.below.trans ⟨T.os,T.tape,T.output,T.size,fun y hy=>T.block y (Nat.lt_of_lt_of_le hy h'.below.size) (away y (by omega))⟩,⟨o1,o2,o3,o4,Nat.le_trans o5 T.size⟩,h.ok,h.lim⟩⟩
 ·have e2:max (i+1) k=i+1:=by omega
  rw [e2];show BoG _ w2 w2 N3 n (nStep n (evOf es i) (nAt n (evOf es) x i)).2.1 (nStep n (evOf es i) (nAt n (evOf es) x i)).2.2;rw [hev];exact hN'.here
 ·obtain ⟨p,c,c0⟩:=h'.wait
  refine ⟨p,c,?_⟩;unfold World.cell? at c0 ⊢;rw [T.block N1 (by omega) (away N1 o3)];exact c0
theorem TwR.start {w1 w2 w3' wr:World} {N2:Nat} (hL:Sp.El w A L cap es) (hk:k<=L) (hb1:Below w.heap.size w w1) (g1:EvG (evOf es) x w1 N1 n L va w2) (g2:EvG (evOf es) x w2 N2 n L vb w3') (hb3:Below w3'.heap.size w3' w3) (g3:EvG (evOf (es.take k)) x w3 N3 n k vp wr)
  (ok:OkG n (8*L) (256*L) x) (h1:8*L<1000000) (h2:1100*(256*L)<=100000000):TwR es x n k L A cap N1 N3 va vb vp w w3 0 wr:=by
 have hsame:∀ j,j<k->evOf (es.take k) j=evOf es j:=fun j hj=>du9 hj
 have eN:nAt n (evOf (es.take k)) x k=nAt n (evOf es) x k:=bn4 hsame;have eZ:(List.range k).map (nZ n (evOf (es.take k)) x)=(List.range k).map (nZ n (evOf es) x):=List.map_congr_left fun j hj=>dz4 fun q hq=>hsame q (by have:=List.mem_range.1 hj; omega)
 have hN:=g3.net;have hP:=g3.came;rw [eN] at hN;rw [eZ] at hP;obtain ⟨hw1,hn1⟩:=g1.net.waits;have b12:Below w2.heap.size w2 w3':=g2.below;have b3r:Below w3.heap.size w3 wr:=g3.below;have b13:Below w2.heap.size w2 w3:=b12.trans (hb3.mono b12.size);have b1r:Below w2.heap.size w2 wr:=b13.trans (b3r.mono b13.size);have b2r:Below w3'.heap.size w3' wr:=hb3.trans (b3r.mono hb3.size);have hbw2:Below w.heap.size w w2:=hb1.trans (g1.below.mono hb1.size);have hbr:Below w.heap.size w wr:=hbw2.trans (b1r.mono hbw2.size);have hA:=g1.came;have hB:=g2.came;refine ⟨by rw [show max 0 k=k by omega]; exact hN,(hA.held b1r).wider (Nat.zero_le _),(hB.held b2r).wider (Nat.zero_le _),hP.wider (Nat.zero_le _),hL,?_,hbr,⟨fun y hy=>Nat.lt_of_lt_of_le (hA.lt hy).1 b13.size,fun y hy=>Nat.lt_of_lt_of_le (hB.lt hy).1 hb3.size,Nat.lt_of_lt_of_le hn1 b13.size,Nat.le_trans hbw2.size b13.size,b3r.size⟩,ok,h1,h2,hk⟩;obtain ⟨p,c,c0⟩:=hw1;exact ⟨p,c,held b1r c0⟩
theorem TwR.at_a (h:TwR es x n k L A cap N1 N3 va vb vp w w3 i wr) {j:Nat} (hj:j<L):∃ g c,va= .slice (some ⟨g,0,none⟩) L c/\wr.cell? ⟨g,j,none⟩=some (.int .i64 (nZ n (evOf es) x j)):=by
 obtain ⟨g,c,e,-,-,hc⟩:=Ol.at_ elemI.len h.a (i:=j) (by simpa using hj);have:=hc 0 (by omega);simp only [List.length_map,List.length_range,List.getElem_map,List.getElem_range,Nat.mul_one,Nat.add_zero] at e this;exact ⟨g,c,e,this⟩
theorem TwR.at_b (h:TwR es x n k L A cap N1 N3 va vb vp w w3 i wr) {j:Nat} (hj:j<L):∃ g c,vb= .slice (some ⟨g,0,none⟩) L c/\wr.cell? ⟨g,j,none⟩=some (.int .i64 (nZ n (evOf es) x j)):=by
 obtain ⟨g,c,e,-,-,hc⟩:=Ol.at_ elemI.len h.b (i:=j) (by simpa using hj);have:=hc 0 (by omega);simp only [List.length_map,List.length_range,List.getElem_map,List.getElem_range,Nat.mul_one,Nat.add_zero] at e this;exact ⟨g,c,e,this⟩
theorem TwR.at_p (h:TwR es x n k L A cap N1 N3 va vb vp w w3 i wr) {j:Nat} (hj:j<k):∃ g c,vp= .slice (some ⟨g,0,none⟩) k c/\wr.cell? ⟨g,j,none⟩=some (.int .i64 (nZ n (evOf es) x j)):=by
 obtain ⟨g,c,e,-,-,hc⟩:=Ol.at_ elemI.len h.p (i:=j) (by simpa using hj);have:=hc 0 (by omega);simp only [List.length_map,List.length_range,List.getElem_map,List.getElem_range,Nat.mul_one,Nat.add_zero] at e this;exact ⟨g,c,e,this⟩
theorem TwR.ends (h:TwR es x n k L A cap N1 N3 va vb vp w w3 L wr):∃ q:Nat,(Calls prog 10 #[.pointer (some ⟨N3,0,none⟩)] wr fun e w'=>e= .returned (.int .i64 q)/\w'=wr)/\Calls prog 10 #[.pointer (some ⟨N1,0,none⟩)] wr fun e w'=>e= .returned (.int .i64 q)/\w'=wr:=by
 have hN:=h.net;have hk:=h.lim.2.2;rw [show max L k=L by omega] at hN;exact ⟨_,dh4 hN,aq5 h.wait⟩
theorem EvG.len {ev:Nat->Sc.Ev} {N:Nat} {v:Value} {w1 w2:World} (h:EvG ev x w1 N n k v w2):∃ p c,v= .slice p k c:=by
 obtain ⟨p,c,e,-⟩:=h.came.form;rw [List.length_map,List.length_range] at e;exact ⟨p,c,e⟩
end
end
section
open Go.RowKit Go.Maps Rm Fm Sb
theorem gp_ecs (e:Sc.Ev):(Sp.ecs e).toList=Sp.ecl e:=rfl
theorem aq0 {W:World} {g:Nat} {es:List Sc.Ev} (h:Blk 44 W g (es.flatMap Sp.ecl).toArray) (hl:es.length<=1000) (hg:∀ e∈es,e.Good):Sp.El W (some ⟨g,0,none⟩) es.length es.length es:=by
 refine ⟨rfl,by unfold maxLen; omega,Nat.le_refl _,fun _=>⟨_,_,rfl⟩,fun b off e i hi j hj=>?_,hg⟩
 cases e;have e2:=ai1 (cl:=Sp.ecl) (k:=7) (fun _=>rfl) es i hi j hj;rw [h.at_,Nat.zero_add,show 7*i+j=i*7+j by omega,show (Sp.ecs es[i])[j]?=(Sp.ecl es[i])[j]? by rw [<- gp_ecs]; simp,<- e2];simp
def hdCells:Array Value:=#[.int .i64 0,.int .i64 0,.int .i64 0,.int .i64 0,.int .u32 0,.int .i64 0,.string ⟨#[]⟩,.int .i64 0,.int .i64 0,.int .i64 0,.int .i64 0,.int .u32 0,.int .i64 0,.string ⟨#[]⟩]
theorem an1:([zEv,zEv].flatMap Sp.ecl).toArray=hdCells:=rfl
theorem al7:∀ e∈[zEv,zEv],e.Good:=by
 intro e he;have:e=zEv:=by simpa using he
 subst this;exact ⟨⟨by decide,by decide,by decide,by decide,by decide,by decide,by decide,by decide,by decide,by decide,by decide⟩,by unfold maxLen; decide⟩
theorem an4 {w:World} {g:Nat} (LB:Blk 44 w g hdCells):Calls prog 8 #[.int .i64 2,.int .i64 64,.slice (some ⟨g,0,none⟩) 2 2] w fun x w'=>
  ∃ N g c,x= .returned (.tuple #[.pointer (some ⟨N,0,none⟩),.slice (some ⟨g,0,none⟩) 2 c])/\w'.cell? ⟨g,0,none⟩=some (.int .i64 0)/\w'.cell? ⟨g,1,none⟩=some (.int .i64 3)/\
   (∃ p,Calls prog 13 #[.pointer (some ⟨N,0,none⟩),.int .i64 0] w' fun e w2=>e= .returned (.pointer (some p))/\w2=w')/\(Calls prog 13 #[.pointer (some ⟨N,0,none⟩),.int .i64 1] w' fun e w2=>e= .returned (.pointer none)/\w2=w')/\Below w.heap.size w w':=by
 have LB':Blk 44 w g ([zEv,zEv].flatMap Sp.ecl).toArray:=by rw [an1]; exact LB
 have HE:=ae3 (nn:=2) (sec:=64) (aq0 LB' (by decide) al7) (by decide) (by decide) (by decide) (by decide) (by decide) (by decide) (by decide) (fun e he=>(al7 e he).fits.a);refine Calls.mono HE ?_;rintro x w' ⟨N,v,rfl,hE⟩;obtain ⟨f1,f2,f3,f4⟩:=am9;have hO:=hE.came;obtain ⟨g1,c1,e1,-,-,h1⟩:=Ol.at_ elemI.len hO (i:=0) (by decide);obtain ⟨g2,c2,e2,-,-,h2⟩:=Ol.at_ elemI.len hO (i:=1) (by decide);have q1:=h1 0 (by omega);have q2:=h2 0 (by omega);rw [e1] at e2;injection e2 with a1 a2 a3;injection a1 with a1;injection a1 with a1;subst a1;have k1:w'.cell? ⟨g1,0,none⟩=some (.int .i64 (nZ 2 (evOf [zEv,zEv]) (nNew 64) 0)):=q1;have k2:w'.cell? ⟨g1,1,none⟩=some (.int .i64 (nZ 2 (evOf [zEv,zEv]) (nNew 64) 1)):=q2;rw [f1] at k1;rw [f2] at k2;refine ⟨N,g1,c1,by rw [e1]; rfl,k1,k2,?_,?_,hE.below⟩
 ·obtain ⟨x0,hx0⟩:=Option.ne_none_iff_exists'.1 f3
  obtain ⟨MB,ms,v1,xs,hW,hst,-⟩:=hE.net.ex;obtain ⟨R,M,hm,-⟩:=MaG.sv_some (hst 0 (by decide)) hx0;have H:=bd0 hW.nt (i:=0) (by decide);rw [hm] at H;exact ⟨⟨R,0,none⟩,H⟩
 ·obtain ⟨MB,ms,v1,xs,hW,hst,-⟩:=hE.net.ex
  have hm:=MaG.sv_none (hst 1 (by decide)) f4;have H:=bd0 hW.nt (i:=1) (by decide);rw [hm] at H;exact H
end
end Go.Proofs.YtbepbkidkjblgaaGreat
