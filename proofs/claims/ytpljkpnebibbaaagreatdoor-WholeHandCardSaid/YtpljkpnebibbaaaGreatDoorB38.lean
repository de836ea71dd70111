import Derived.Test.YtpljkpnebibbaaaGreatDoorB37
set_option maxHeartbeats 8000000
set_option maxRecDepth 100000
namespace Go.Proofs.YtpljkpnebibbaaaGreatDoor
open _root_.Go.Proofs.Tryz (prog)
section
open Go.RowKit Go.Maps
attribute [local go_sem] Oper.semAt_some
section
variable {O:Nat->Prop} {w0 w1 w:World} {N n:Nat} {st:Nat->Sv} {os:List Dg}
theorem cv6 (h1:Bo O w0 w1 N n st os) (hb:Below w1.heap.size w1 w) {i:Nat} (hi:i<n) (A:Option Addr) (m cap:Nat):
  Calls prog 65 #[.pointer (some ⟨N,0,none⟩),.int .i64 i,.slice A m cap] w fun e w'=>e= .returned (.int .i64 0)/\Bo O w0 w' N n (sets st i ⟨(st i).d,none,(st i).c,(st i).dead⟩) os/\∃ L,Turn L w w'/\∀ x,x∈L->x<w1.heap.size:=by
 obtain ⟨MB,ms,v,xs,hW',hst,b1,b2,b3,b4,hB',hl2⟩:=h1.ex;have hW:Nw w N MB n ms v xs os:=hW'.held hb;have hB:Tu O w0 w:=hB'.held hb;have k1:=hW'.nt.mas.lt;have k2:=fun x hx=>(hW'.nt.mas.ok i hi).lt (x:=x) hx
 refine (ch6 hW.nt hi A m cap).mono ?_;rintro e w' ⟨rfl,S,Mp,rest,hF,hN,t⟩;refine ⟨rfl,.one hW hst b1 b2 b3 b4 hB hl2 hi ?_ hN t (fun y hy=> .inl (by rw [hF]; exact List.mem_append_left _ hy)),_,t,fun x hx=>?_⟩
 ·rw [<- hst i hi,Ma.dead_sv]
  rfl
 ·rcases List.mem_cons.1 hx with rfl|hx
  ·exact k1
  ·exact k2 x hx
end
theorem cv1 {i k n len:Int} {a:Nat} (ha:a<4294967296) (hr:Sc.right ⟨1,i,k,n,a,len,[]⟩=true) {N:Nat} {w:World} {Q:Int->World->Prop}
  (H:∀ w2,Below w.heap.size w w2->Calls prog 65 #[.pointer (some ⟨N,0,none⟩),.int .i64 i,.slice none 0 0] w2 fun x w'=>∃ z,x= .returned (.int .i64 z)/\Q z w'/\∃ L,Turn L w2 w'/\∀ x,x∈L->x<w.heap.size):
  Calls prog 38 #[.pointer (some ⟨N,0,none⟩),.agg (Sp.ecs ⟨1,i,k,n,a,len,[]⟩)] w fun x w'=>∃ z,x= .returned (.int .i64 z)/\Q z w':=by
 have HR:=Sp.eright_eq (e:=⟨1,i,k,n,a,len,[]⟩) ha hr;have HCh:=fun u=>bo1 1 i k n a len u
 unfold Sp.ecs at HR ⊢;simp only at HR ⊢;clear hr;obtain ⟨s,hs⟩:∃ s:ByteArray,(⟨#[]⟩:ByteArray)=s:=⟨_,rfl⟩;rw [show (⟨([]:List UInt8).toArray⟩:ByteArray)=⟨#[]⟩ from rfl] at HR ⊢;rw [hs] at HR HCh ⊢;clear hs;obtain ⟨hbs,BX⟩:=nw w 29 #[.int .i64 1,.int .i64 i,.int .i64 k,.int .i64 n,.int .u32 (a:Nat),.int .i64 len,.string s];have hsz:w.heap.size<(w.alloc (.cells #[.int .i64 1,.int .i64 i,.int .i64 k,.int .i64 n,.int .u32 (a:Nat),.int .i64 len,.string s] 29)).heap.size:=BX.lt;go_enter Tryz.func38,Tryz.ntmps38;go_upto_region 1 with fail;generalize w.alloc _=w1 at*;have c0:w1.cell? ⟨w.heap.size,0,none⟩=some (.int .i64 1):=BX.at_ 0;have c1:w1.cell? ⟨w.heap.size,1,none⟩=some (.int .i64 i):=BX.at_ 1;have c2:w1.cell? ⟨w.heap.size,2,none⟩=some (.int .i64 k):=BX.at_ 2;have c3:w1.cell? ⟨w.heap.size,3,none⟩=some (.int .i64 n):=BX.at_ 3;have c4:w1.cell? ⟨w.heap.size,4,none⟩=some (.int .u32 (a:Nat)):=BX.at_ 4;have c5:w1.cell? ⟨w.heap.size,5,none⟩=some (.int .i64 len):=BX.at_ 5;have c6:w1.cell? ⟨w.heap.size,6,none⟩=some (.string s):=BX.at_ 6;have HR1:=HR w1;clear BX HR;go_upto_region 3 with (go_at_call 29; refine HR1.mono ?_; rintro x w2 ⟨rfl,hb2⟩; clear HR1);replace c0:=held hb2 c0;replace c1:=held hb2 c1;replace c2:=held hb2 c2;replace c3:=held hb2 c3;replace c4:=held hb2 c4;replace c5:=held hb2 c5;replace c6:=held hb2 c6;have HC:=fun w4 (hb:Below w2.heap.size w2 w4)=>H w4 (next (next hbs hb2) hb)
 clear H hbs hb2 hsz;go_upto_region 7 with fail;refine wp_region_held_drew (S:=fun u=>u.cell? ⟨w.heap.size,0,none⟩=some (.int .i64 1)/\u.cell? ⟨w.heap.size,1,none⟩=some (.int .i64 i)/\u.cell? ⟨w.heap.size,2,none⟩=some (.int .i64 k)/\u.cell? ⟨w.heap.size,3,none⟩=some (.int .i64 n)/\u.cell? ⟨w.heap.size,4,none⟩=some (.int .u32 (a:Nat))/\u.cell? ⟨w.heap.size,5,none⟩=some (.int .i64 len)/\u.cell? ⟨w.heap.size,6,none⟩=some (.string s)) (by kernel_rfl) ⟨c0,c1,c2,c3,c4,c5,c6⟩ (fun hHeld=>?_);refine tk 0 (.pointer (some ⟨N,0,none⟩)) rfl hHeld ?_;go_frame;refine tk 1 (.pointer (some ⟨w.heap.size,1,none⟩)) rfl hHeld ?_;go_frame;refine tk 2 (.int .i64 i) rfl hHeld ?_;go_frame;refine tk 3 (.agg #[.int .i64 1,.int .i64 i,.int .i64 k,.int .i64 n,.int .u32 (a:Nat),.int .i64 len,.string s]) rfl hHeld ?_;go_frame;refine rl 4 rfl fun K hK=>?_
 go_simp;refine (HCh _).mono ?_;rintro x w4 ⟨rfl,hb4⟩;have q0:=held hb4 c0;have q1:=held hb4 c1;have q2:=held hb4 c2;have q3:=held hb4 c3;have q4:=held hb4 c4;have q5:=held hb4 c5;have q6:=held hb4 c6;have hb5:Below w2.heap.size w2 w4:=(Below.refl _ _).drew.trans hb4;have HC5:=HC w4 hb5;refine hK.out _ _ ⟨q0,q1,q2,q3,q4,q5,q6⟩ (fun hHeld=>?_);clear hK K HC HCh hb4 hb5 c0 c1 c2 c3 c4 c5 c6;try go_frame
 refine rl 5 rfl fun K hK=>?_
 go_simp;refine HC5.mono ?_;rintro x w5 ⟨z,rfl,hQ,L,t,hL⟩;have hw:w.heap.size∉L:=fun hm=>Nat.lt_irrefl _ (hL _ hm)
 refine hK.out _ _ ⟨t.cell q0 hw,t.cell q1 hw,t.cell q2 hw,t.cell q3 hw,t.cell q4 hw,t.cell q5 hw,t.cell q6 hw⟩ (fun hHeld=>?_);clear hK K HC5 q0 q1 q2 q3 q4 q5 q6 t hL hw;try go_frame
 refine rl 6 rfl fun K hK=>?_
 go_simp;exact hK.out _ _ hHeld (fun hHeld=>by
  clear hK K;refine wpAnyH_done (by kernel_rfl) ?_ _;try go_frame
  clear hHeld;go_wp2_with fail;go_ret;exact ⟨z,rfl,hQ⟩)
end
section
open Go.RowKit Go.Maps Rm Fm Sb
def lev (x:Int):Sc.Ev:=⟨3,0,1,x,0,0,[]⟩
def oev (i:Nat):Sc.Ev:=⟨4,(i:Nat),0,0,167772160+i*65536,16,[]⟩
def rev:Sc.Ev:=⟨10,0,0,0,0,0,[]⟩
def cev:Sc.Ev:=⟨1,0,0,0,0,0,[]⟩
def hE (x:Int) (R:Nat) (crash:Bool):List Sc.Ev:=[bev 0,bev 1,lev x,oev 0,oev 1]++List.replicate R rev++(if crash=true then [cev,bev 0] else [])
def hEn (R:Nat) (crash:Bool):Nat:=5+R+(if crash=true then 2 else 0)
theorem av9 {x:Int} {R:Nat} {crash:Bool}:(hE x R crash).length=hEn R crash:=by
 unfold hE hEn
 cases crash<;>simp<;>omega
theorem bg9 {x:Int} (h1:1<=x) (h2:x<=1000):Sc.right (lev x)=true:=by
 have e:Sc.small x=true:=by
  unfold Sc.small;simp;omega
 unfold Sc.right Sc.bare lev;simp only [e];simp [Sc.hasI,Sc.hasK,Sc.hasN,Sc.hasP,Sc.hasS,Sc.small];decide+kernel
theorem cu0 {x:Int} {R:Nat} {crash:Bool} {r:Nat} (hr:r<R) (h:5+r<(hE x R crash).length):(hE x R crash)[5+r]=rev:=by
 have e:(hE x R crash)[5+r]?=some rev:=by
  unfold hE;rw [List.getElem?_append_left (by simp only [List.length_append,List.length_replicate,List.length_cons,List.length_nil]; omega),List.getElem?_append_right (by simp only [List.length_cons,List.length_nil]; omega),show 5+r - [bev 0,bev 1,lev x,oev 0,oev 1].length=r from by simp only [List.length_cons,List.length_nil]; omega,List.getElem?_replicate,if_pos hr]
 rw [List.getElem?_eq_getElem h] at e;exact Option.some.inj e
theorem cu1 {x:Int} {R:Nat} {crash:Bool} (h:5+R<(hE x R crash).length):(hE x R crash)[5+R]=cev/\crash=true:=by
 have hc:crash=true:=by
  rw [av9] at h;unfold hEn at h;by_cases hc:crash=true
  ·exact hc
  ·rw [if_neg hc] at h; omega
 subst hc;refine ⟨?_,rfl⟩;have e:(hE x R true)[5+R]?=some cev:=by
  unfold hE;rw [List.getElem?_append_right (by simp only [List.length_append,List.length_replicate,List.length_cons,List.length_nil]; omega),show 5+R - ([bev 0,bev 1,lev x,oev 0,oev 1]++List.replicate R rev).length=0 from by simp only [List.length_append,List.length_replicate,List.length_cons,List.length_nil]; omega];rfl
 rw [List.getElem?_eq_getElem h] at e;exact Option.some.inj e
theorem cu2 {x:Int} {R:Nat} {crash:Bool} (h:6+R<(hE x R crash).length):(hE x R crash)[6+R]=bev 0:=by
 have hc:crash=true:=by
  rw [av9] at h;unfold hEn at h;by_cases hc:crash=true
  ·exact hc
  ·rw [if_neg hc] at h; omega
 subst hc;have e:(hE x R true)[6+R]?=some (bev 0):=by
  unfold hE;rw [List.getElem?_append_right (by simp only [List.length_append,List.length_replicate,List.length_cons,List.length_nil]; omega),show 6+R - ([bev 0,bev 1,lev x,oev 0,oev 1]++List.replicate R rev).length=1 from by simp only [List.length_append,List.length_replicate,List.length_cons,List.length_nil]; omega];rfl
 rw [List.getElem?_eq_getElem h] at e;exact Option.some.inj e
def hvR (x:Int) (t d own oth r:Nat):Sv:=hv own oth x t d (62 - r) (90000 - 1000*r) (decide (2<=r)) ((r:Int)+3) r
theorem cj1 (x:Int) (t d own oth:Nat):hvR x t d own oth 1=hv own oth x t d 61 89000 false (1+3) 1:=rfl
theorem bs8 {x:Int} {t d own oth r:Nat} (hr:1<=r):hvR x t d own oth (r+1)=hv own oth x t d (62 - (r+1)) (90000 - 1000*(r+1)) true ((r:Int)+1+3) ((r:Int)+1):=by
 unfold hvR;rw [decide_eq_true (show 2<=r+1 by omega),show ((r+1:Nat):Int)=(r:Int)+1 from by omega]
theorem cx6 {x:Int} {t d own oth r:Nat} (h8:r+1<=8):hvR x t d own oth r=hv own oth x t d (62 - (r+1)+1) (90000 - 1000*(r+1)+1000) (decide (2<=r)) ((r:Int)+3) r:=by
 unfold hvR;rw [show 62 - r=62 - (r+1)+1 by omega,show 90000 - 1000*r=90000 - 1000*(r+1)+1000 by omega]
def hdz (t R:Nat):Dz:=⟨1,62 - R,⟨8,fun z=>if z=pz 0 then some true else none,flb (decide (2<=R)) (pz 1) 2 t⟩⟩
def hSt (x:Int) (t R:Nat) (d:Nat->Nat) (k:Nat):Nat->Sv:=
 if k=0 then two (qD d 128 0) (qD d 128 1) else if k=1 then two (qU d 128 0) (qD d 128 1) else if k=2 then two (qU d 128 0) (qU d 128 1)
 else if k=3 then two (svS (d 0) 1 63 90000 (cL 1 x) fN 0 (z63 0)) (svS (d 1) 2 63 90000 (cL 0 x) fN 0 (z63 1))
 else if k=4 then two (hs0 x (d 0) 62 90000 0 1) (svS (d 1) 2 63 90000 (cL 0 x) fN 0 (z63 1))
 else if k=5 then two (hs0 x (d 0) 62 90000 0 1) (hs0 x (d 1) 62 90000 1 0)
 else if k<=5+R then two (hvR x t (d 0) 0 1 (k - 5)) (hvR x t (d 1) 1 0 (k - 5))
 else if k=6+R then two ⟨d 0,none,cL 1 x,hdz t R⟩ (hvR x t (d 1) 1 0 R)
 else two (hc0 x t (d 0) (62 - R) (decide (2<=R)) (hdz t R)) (hvR x t (d 1) 1 0 R)
theorem aj4 {x:Int} {t R:Nat} {d:Nat->Nat} {r:Nat} (h1:1<=r) (h2:r<=R):hSt x t R d (5+r)=two (hvR x t (d 0) 0 1 r) (hvR x t (d 1) 1 0 r):=by
 unfold hSt;rw [if_neg (by omega),if_neg (by omega),if_neg (by omega),if_neg (by omega),if_neg (by omega),if_neg (by omega),if_pos (by omega),show 5+r - 5=r by omega]
theorem bh6 {x:Int} {t R:Nat} {d:Nat->Nat}:hSt x t R d (6+R)=two ⟨d 0,none,cL 1 x,hdz t R⟩ (hvR x t (d 1) 1 0 R):=by
 unfold hSt;rw [if_neg (by omega),if_neg (by omega),if_neg (by omega),if_neg (by omega),if_neg (by omega),if_neg (by omega),if_neg (by omega),if_pos rfl]
theorem bh7 {x:Int} {t R:Nat} {d:Nat->Nat}:hSt x t R d (7+R)=two (hc0 x t (d 0) (62 - R) (decide (2<=R)) (hdz t R)) (hvR x t (d 1) 1 0 R):=by
 unfold hSt;rw [if_neg (by omega),if_neg (by omega),if_neg (by omega),if_neg (by omega),if_neg (by omega),if_neg (by omega),if_neg (by omega),if_neg (by omega)]
def hP (x:Int) (t R:Nat) (d:Nat->Nat) (k:Nat) (zs:List Int) (st:Nat->Sv) (os:List Dg):Prop:=zs=List.replicate k 0/\os=[]/\∀ i,i<2->st i=hSt x t R d k i
theorem ar0 {a b:Sv} {st:Nat->Sv} (h0:st 0=a) (h1:st 1=b):∀ i,i<2->st i=two a b i:=fun i hi=>by
 have:i=0\/i=1:=by omega
 rcases this with rfl|rfl
 ·exact h0
 ·exact h1
theorem dd8 (x:Int) (t R:Nat) (d:Nat->Nat):hP x t R d 0 [] (fun i=>⟨d i,none,fun _=>0,⟨i+1,128 / 2 - 1,sm0⟩⟩) []:=⟨rfl,rfl,ar0 rfl rfl⟩
section
variable {O:Nat->Prop} {wx:World} {N:Nat} {d:Nat->Nat} {st:Nat->Sv} {x:Int} {t R:Nat}
theorem cx7 {k:Nat} (hk:k<2) (hst:∀ i,i<2->st i=hSt x t R d k i) (hB:Bo O wx wx N 2 st []):
  Calls prog 38 #[.pointer (some ⟨N,0,none⟩),.agg (Sp.ecs (bev k))] wx fun y w'=>∃ z,y= .returned (.int .i64 z)/\∃ st' os',hP x t R d (k+1) (List.replicate k 0++[z]) st' os'/\Bo O wx w' N 2 st' os':=by
 refine bd3 (Q:=fun z w'=>∃ st' os',hP x t R d (k+1) (List.replicate k 0++[z]) st' os'/\Bo O wx w' N 2 st' os') (by decide) (ao7 (i:=k) (by omega)).1 (fun w1 hb=>?_);have hk2:k=0\/k=1:=by omega
 rcases hk2 with rfl|rfl
 ·refine (cf0 (hB.held hb) (i:=0) (by omega) (hst 0 (by omega))).mono ?_
  rintro e w' ⟨rfl,h2⟩;exact ⟨0,rfl,_,_,⟨rfl,rfl,ar0 (by rw [ab5]) (by rw [ab1 (by omega)]; exact hst 1 (by omega))⟩,h2⟩
 ·refine (cf0 (hB.held hb) (i:=1) (by omega) (hst 1 (by omega))).mono ?_
  rintro e w' ⟨rfl,h2⟩;exact ⟨0,rfl,_,_,⟨rfl,rfl,ar0 (by rw [ab1 (by omega)]; exact hst 0 (by omega)) (by rw [ab5])⟩,h2⟩
theorem h_link (h1:1<=x) (h2:x<=1000) (hst:∀ i,i<2->st i=hSt x t R d 2 i) (hB:Bo O wx wx N 2 st []):
  Calls prog 38 #[.pointer (some ⟨N,0,none⟩),.agg (Sp.ecs (lev x))] wx fun y w'=>∃ z,y= .returned (.int .i64 z)/\∃ st' os',hP x t R d 3 (List.replicate 2 0++[z]) st' os'/\Bo O wx w' N 2 st' os':=by
 refine bn2 (Q:=fun z w'=>∃ st' os',hP x t R d 3 (List.replicate 2 0++[z]) st' os'/\Bo O wx w' N 2 st' os') (by decide) (bg9 h1 h2) (fun w1 hb=>?_);have hS:Bo O wx w1 N 2 (hSt x t R d 2) []:=(hB.held hb).same hst;refine Calls.mono (show Calls prog 68 #[.pointer (some ⟨N,0,none⟩),.int .i64 0,.int .i64 1,.int .i64 x] w1 _ from bo4 hS (a:=0) (b:=1) (by omega) (by omega) (by omega) (cost:=x) (by omega) h2) ?_;rintro e w' ⟨rfl,h3⟩;refine ⟨0,rfl,_,_,⟨rfl,rfl,ar0 ?_ ?_⟩,h3⟩
 ·show Sv.mk _ (some ⟨_,_,Mr.link (Ms (d 0) 1 c00 fN 0) 1 x⟩) _ _=_
  rw [show fN=fun _=>none from rfl,aq5]; rfl
 ·show Sv.mk _ (some ⟨_,_,Mr.link (Ms (d 1) 2 c00 fN 0) 0 x⟩) _ _=_
  rw [show fN=fun _=>none from rfl,aq5]; rfl
theorem h_own {i:Nat} (hi:i<2) (hst:∀ j,j<2->st j=hSt x t R d (3+i) j) (hB:Bo O wx wx N 2 st []):
  Calls prog 38 #[.pointer (some ⟨N,0,none⟩),.agg (Sp.ecs (oev i))] wx fun y w'=>∃ z,y= .returned (.int .i64 z)/\∃ st' os',hP x t R d (3+i+1) (List.replicate (3+i) 0++[z]) st' os'/\Bo O wx w' N 2 st' os':=by
 have hk2:i=0\/i=1:=by omega
 refine cy0 (Q:=fun z w'=>∃ st' os',hP x t R d (3+i+1) (List.replicate (3+i) 0++[z]) st' os'/\Bo O wx w' N 2 st' os') (by show 167772160+i*65536<4294967296; omega) (by rcases hk2 with rfl|rfl<;>decide+kernel) (fun w1 hb=>?_);rcases hk2 with rfl|rfl
 ·refine Calls.mono (show Calls prog 69 #[.pointer (some ⟨N,0,none⟩),.int .i64 (0:Nat),.agg #[.int .u32 ((167772160+0*65536:Nat):Int),.int .i64 16],.bool true] w1 _ from aw9 (hB.held hb) (i:=0) (by omega) (room:=62) (hst 0 (by omega)) (k:=0) (by omega)) ?_
  rintro e w' ⟨rfl,h2⟩;exact ⟨0,rfl,_,_,⟨rfl,rfl,ar0 (by rw [ab5]; rfl) (by rw [ab1 (by omega)]; exact hst 1 (by omega))⟩,h2⟩
 ·refine Calls.mono (show Calls prog 69 #[.pointer (some ⟨N,0,none⟩),.int .i64 (1:Nat),.agg #[.int .u32 ((167772160+1*65536:Nat):Int),.int .i64 16],.bool true] w1 _ from aw9 (hB.held hb) (i:=1) (by omega) (room:=62) (hst 1 (by omega)) (k:=1) (by omega)) ?_
  rintro e w' ⟨rfl,h2⟩;exact ⟨0,rfl,_,_,⟨rfl,rfl,ar0 (by rw [ab1 (by omega)]; exact hst 0 (by omega)) (by rw [ab5]; rfl)⟩,h2⟩
theorem dd9 (h1:1<=x) (h2:x<=1000) (hx:x=(t:Int)) (hR:R<=8) {r:Nat} (hr:r<R) (hst:∀ j,j<2->st j=hSt x t R d (5+r) j) (hB:Bo O wx wx N 2 st []):
  Calls prog 38 #[.pointer (some ⟨N,0,none⟩),.agg (Sp.ecs rev)] wx fun y w'=>∃ z,y= .returned (.int .i64 z)/\∃ st' os',hP x t R d (5+r+1) (List.replicate (5+r) 0++[z]) st' os'/\Bo O wx w' N 2 st' os':=by
 refine bt8 (Q:=fun z w'=>∃ st' os',hP x t R d (5+r+1) (List.replicate (5+r) 0++[z]) st' os'/\Bo O wx w' N 2 st' os') (by decide) (by decide+kernel) (fun w1 hb=>?_);have hS:Bo O wx w1 N 2 (hSt x t R d (5+r)) []:=(hB.held hb).same hst
 cases r with
 |zero=>
  refine (cj4 (x:=x) (t:=t) (d:=d) (room:=61) (sp:=89000) hS h1 hx).mono ?_;rintro e w' ⟨rfl,h3⟩;refine ⟨rfl,_,_,⟨rfl,rfl,fun i _=>?_⟩,h3⟩;rw [show 5+0+1=5+1 from rfl,aj4 (Nat.le_refl _) (by omega),cj1,cj1]
 |succ r=>
  rw [aj4 (by omega) (by omega),cx6 (by omega),cx6 (by omega)] at hS;refine (ct9 hS h1 h2 hx (by omega) (by omega)).mono ?_;rintro e w' ⟨rfl,h3⟩;refine ⟨rfl,_,_,⟨ae3 _,rfl,fun i _=>?_⟩,h3⟩;rw [show 5+(r+1)+1=5+(r+1+1) by omega,aj4 (by omega) (by omega),bs8 (by omega),bs8 (by omega)]
theorem de0 (hst:∀ j,j<2->st j=hSt x t R d (5+R) j) (hR:1<=R) (hB:Bo O wx wx N 2 st []):
  Calls prog 38 #[.pointer (some ⟨N,0,none⟩),.agg (Sp.ecs cev)] wx fun y w'=>∃ z,y= .returned (.int .i64 z)/\∃ st' os',hP x t R d (5+R+1) (List.replicate (5+R) 0++[z]) st' os'/\Bo O wx w' N 2 st' os':=by
 refine cv1 (Q:=fun z w'=>∃ st' os',hP x t R d (5+R+1) (List.replicate (5+R) 0++[z]) st' os'/\Bo O wx w' N 2 st' os') (by decide) (by decide+kernel) (fun w2 hb=>?_);have hS:Bo O wx wx N 2 (hSt x t R d (5+R)) []:=hB.same hst;rw [aj4 hR (Nat.le_refl _)] at hS;refine (cv6 hS hb (i:=0) (by omega) none 0 0).mono ?_;rintro y w' ⟨rfl,h2,L,t1,t2⟩;refine ⟨0,rfl,⟨_,_,⟨ae3 _,rfl,fun i hi=>?_⟩,h2⟩,L,t1,t2⟩;rw [show 5+R+1=6+R by omega,bh6];exact ar0 (by rw [ab5]; rfl) (by rw [ab1 (by omega)]; rfl) i hi
theorem de1 (h1:1<=x) (h2:x<=1000) (hst:∀ j,j<2->st j=hSt x t R d (6+R) j) (hB:Bo O wx wx N 2 st []):
  Calls prog 38 #[.pointer (some ⟨N,0,none⟩),.agg (Sp.ecs (bev 0))] wx fun y w'=>∃ z,y= .returned (.int .i64 z)/\∃ st' os',hP x t R d (6+R+1) (List.replicate (6+R) 0++[z]) st' os'/\Bo O wx w' N 2 st' os':=by
 refine bd3 (Q:=fun z w'=>∃ st' os',hP x t R d (6+R+1) (List.replicate (6+R) 0++[z]) st' os'/\Bo O wx w' N 2 st' os') (by decide) (ao7 (i:=0) (by omega)).1 (fun w1 hb=>?_);have hS:Bo O wx w1 N 2 (hSt x t R d (6+R)) []:=(hB.held hb).same hst;rw [bh6] at hS;refine (bo5 hS (i:=0) (by omega) (d:=d 0) (room:=62 - R) (sm:=(hdz t R).sm) (c:=cL 1 x) rfl (fun k=>by unfold cL; split<;>omega)).mono ?_;rintro y w' ⟨rfl,h3⟩;refine ⟨0,rfl,_,_,⟨ae3 _,rfl,fun i hi=>?_⟩,h3⟩;rw [show 6+R+1=7+R by omega,bh7];refine ar0 ?_ (by rw [ab1 (by omega)]; rfl) i hi;rw [ab5];unfold mrB;rw [bm1];have ec:(fun i=>if i<8 then cL 1 x i else 0)=cL 1 x:=by
  funext i;unfold cL;by_cases h:i=1
  ·rw [if_pos h,if_pos (by omega)]
  ·rw [if_neg h]; split<;>rfl
 rw [ec];rfl
theorem h_step {crash:Bool} (h1:1<=x) (h2:x<=1000) (hx:x=(t:Int)) (hR1:1<=R) (hR:R<=8) (N:Nat) (d:Nat->Nat) (k:Nat) (zs:List Int) (st:Nat->Sv) (os:List Dg) (O:Nat->Prop) (wx:World) (hk:k<(hE x R crash).length) (hP0:hP x t R d k zs st os) (hB:Bo O wx wx N 2 st os):
  Calls prog 38 #[.pointer (some ⟨N,0,none⟩),.agg (Sp.ecs (hE x R crash)[k])] wx fun y w'=>∃ z,y= .returned (.int .i64 z)/\∃ st' os',hP x t R d (k+1) (zs++[z]) st' os'/\Bo O wx w' N 2 st' os':=by
 obtain ⟨rfl,rfl,hst⟩:=hP0;have hk2:=hk;rw [av9] at hk2;have hk3:k<7+R:=by
  unfold hEn at hk2;split at hk2<;>omega
 have:k=0\/k=1\/k=2\/k=3\/k=4\/(∃ r,r<R/\k=5+r)\/k=5+R\/k=6+R:=by
  by_cases h5:5<=k/\k<5+R
  ·exact .inr (.inr (.inr (.inr (.inr (.inl ⟨k - 5,by omega,by omega⟩)))))
  ·omega
 rcases this with rfl|rfl|rfl|rfl|rfl|⟨r,hr,rfl⟩|rfl|rfl
 ·exact cx7 (k:=0) (by omega) hst hB
 ·exact cx7 (k:=1) (by omega) hst hB
 ·exact h_link h1 h2 hst hB
 ·exact h_own (i:=0) (by omega) hst hB
 ·exact h_own (i:=1) (by omega) hst hB
 ·rw [cu0 hr hk]
  exact dd9 h1 h2 hx hR hr hst hB
 ·rw [(cu1 hk).1]
  exact de0 hst hR1 hB
 ·rw [cu2 hk]
  exact de1 h1 h2 hst hB
def hFe (R:Nat) (crash:Bool) (i:Nat):List Fe:=if i=0 then (if crash=true then hEc (decide (2<=R)) else hE0) else hE1
def hLs (x:Int) (R:Nat) (crash:Bool) (i:Nat):List ByteArray:=if i=0 then (if crash=true then hLc (decide (2<=R)) else hL0 x) else hL1 x
theorem h_end {crash:Bool} (h1:1<=x) (h2:x<=1000) (hx:x=(t:Int)) (hR1:1<=R) (d:Nat->Nat) (zs:List Int) (st:Nat->Sv) (os:List Dg) (h:hP x t R d (hEn R crash) zs st os):zs=List.replicate (hEn R crash) 0/\∀ i,i<2->Fibd (st i) (hFe R crash i)/\Mld (st i) i (hFe R crash i) (hLs x R crash i):=by
 obtain ⟨rfl,-,hst⟩:=h;refine ⟨rfl,fun i hi=>?_⟩;rw [hst i hi];have hi2:i=0\/i=1:=by omega
 cases crash with
 |true=>
  rw [show hEn R true=7+R from by unfold hEn; rw [if_pos rfl]; omega,bh7];rcases hi2 with rfl|rfl
  ·exact dd6
  ·exact bs7 h1 h2 (by omega)
 |false=>
  rw [show hEn R false=5+R from by unfold hEn; rw [if_neg (by decide)]; rfl,aj4 hR1 (Nat.le_refl _)];rcases hi2 with rfl|rfl
  ·exact ct7 h1 h2 (by omega)
  ·exact bs7 h1 h2 (by omega)
end
end
end Go.Proofs.YtpljkpnebibbaaaGreatDoor
