import Derived.Test.YtpljkpnebibbaaaGreatDoorB38
import Derived.Test.YtpljkpnebibbaaaGreatDoorB34
import Derived.Lib.OwnBridge
import Derived.Test.YtpljkpnebibbaaaGreatDoorB33
set_option maxHeartbeats 8000000
set_option maxRecDepth 100000
namespace Go.Proofs.YtpljkpnebibbaaaGreatDoor.Lo
open _root_.Go.Proofs.Tryz (prog)
section
open Go.RowKit Lm
def toE (e:Fe):En:=⟨e.a,e.n,e.how,e.nx⟩
def hfs (R:Nat) (crash:Bool):List (List En):=[(hFe R crash 0).map toE,(hFe R crash 1).map toE]
theorem de5 {x i:Nat} (hi:i<2) {how nx:Int} (hh:how≠0):good x ⟨(pz i).a,(pz i).n,how,nx⟩=decide (x / 65536=2560+i):=by
 have hr:Am.right (pz i).a (16:Nat)=true:=ab2 (by omega);have h1:Am.has (pz i).a (16:Nat) x=decide (x / 2 ^ (32 - 16)=(pz i).a / 2 ^ (32 - 16)):=Am.has_in hr;have h2:(how==0)=false:=by simpa using hh
 have h3:(pz i).a / 2 ^ (32 - 16)=2560+i:=by
  show (167772160+i*65536) / 65536=2560+i;omega
 unfold good;rw [show Am.has (pz i).a (pz i).n x=_ from h1,h3];simp only [h2,Bool.not_false,Bool.true_and]
theorem cw6 {R:Nat} {crash:Bool} {x k:Nat} (hk:k<(hfs R crash).length) {a:Nat} {n nx:Int} (h:lookB x (hfs R crash)[k]=⟨a,n,2,nx⟩):(k=0/\x / 65536=2561/\nx=1)\/(k=1/\x / 65536=2560/\nx=0):=by
 have hk2:k=0\/k=1:=by
  have:(hfs R crash).length=2:=rfl;omega
 have g:∀ (i:Nat) (how nx:Int),i<2->how≠0->good x ⟨(pz i).a,(pz i).n,how,nx⟩=decide (x / 65536=2560+i):=fun i how nx hi hh=>de5 hi hh
 have g01:=g 0 1 0 (by omega) (by decide);have g02:=g 0 2 0 (by omega) (by decide);have g11:=g 1 1 0 (by omega) (by decide);have g12:=g 1 2 1 (by omega) (by decide);have g13:=g 1 3 0 (by omega) (by decide);by_cases u0:x / 65536=2560
 ·have e0:decide (x / 65536=2560+0)=true:=decide_eq_true u0
  have e1:decide (x / 65536=2560+1)=false:=decide_eq_false (by omega);rw [e0] at g01 g02;rw [e1] at g11 g12 g13;rcases hk2 with rfl|rfl
  ·exfalso
   cases crash
   ·have h':lookB x [⟨(pz 0).a,(pz 0).n,1,0⟩,⟨(pz 1).a,(pz 1).n,2,1⟩]=⟨a,n,2,nx⟩:=h
    simp [lookB,stepL,g01,g12,En.zero] at h'
   ·cases hb:decide (2<=R)
    ·have h':lookB x ((hEc (decide (2<=R))).map toE)=⟨a,n,2,nx⟩:=h
     rw [hb] at h';replace h':lookB x [⟨(pz 0).a,(pz 0).n,1,0⟩]=⟨a,n,2,nx⟩:=h';simp [lookB,stepL,g01,En.zero] at h'
    ·have h':lookB x ((hEc (decide (2<=R))).map toE)=⟨a,n,2,nx⟩:=h
     rw [hb] at h';replace h':lookB x [⟨(pz 0).a,(pz 0).n,1,0⟩,⟨(pz 1).a,(pz 1).n,3,0⟩]=⟨a,n,2,nx⟩:=h';simp [lookB,stepL,g01,g13,En.zero] at h'
  ·have h':lookB x [⟨(pz 0).a,(pz 0).n,2,0⟩,⟨(pz 1).a,(pz 1).n,1,0⟩]=⟨a,n,2,nx⟩:=h
   simp [lookB,stepL,g02,g11,En.zero] at h';exact .inr ⟨rfl,u0,h'.2.2.symm⟩
 ·have e0:decide (x / 65536=2560+0)=false:=decide_eq_false u0
  rw [e0] at g01 g02;by_cases u1:x / 65536=2561
  ·have e1:decide (x / 65536=2560+1)=true:=decide_eq_true u1
   rw [e1] at g11 g12 g13;rcases hk2 with rfl|rfl
   ·cases crash
    ·have h':lookB x [⟨(pz 0).a,(pz 0).n,1,0⟩,⟨(pz 1).a,(pz 1).n,2,1⟩]=⟨a,n,2,nx⟩:=h
     simp [lookB,stepL,g01,g12,En.zero] at h';exact .inl ⟨rfl,u1,h'.2.2.symm⟩
    ·exfalso
     cases hb:decide (2<=R)
     ·have h':lookB x ((hEc (decide (2<=R))).map toE)=⟨a,n,2,nx⟩:=h
      rw [hb] at h';replace h':lookB x [⟨(pz 0).a,(pz 0).n,1,0⟩]=⟨a,n,2,nx⟩:=h';simp [lookB,stepL,g01,En.zero] at h'
     ·have h':lookB x ((hEc (decide (2<=R))).map toE)=⟨a,n,2,nx⟩:=h
      rw [hb] at h';replace h':lookB x [⟨(pz 0).a,(pz 0).n,1,0⟩,⟨(pz 1).a,(pz 1).n,3,0⟩]=⟨a,n,2,nx⟩:=h';simp [lookB,stepL,g01,g13,En.zero] at h'
   ·exfalso
    have h':lookB x [⟨(pz 0).a,(pz 0).n,2,0⟩,⟨(pz 1).a,(pz 1).n,1,0⟩]=⟨a,n,2,nx⟩:=h;simp [lookB,stepL,g02,g11,En.zero] at h'
  ·exfalso
   have e1:decide (x / 65536=2560+1)=false:=decide_eq_false u1;rw [e1] at g11 g12 g13;rcases hk2 with rfl|rfl
   ·cases crash
    ·have h':lookB x [⟨(pz 0).a,(pz 0).n,1,0⟩,⟨(pz 1).a,(pz 1).n,2,1⟩]=⟨a,n,2,nx⟩:=h
     simp [lookB,stepL,g01,g12,En.zero] at h'
    ·cases hb:decide (2<=R)
     ·have h':lookB x ((hEc (decide (2<=R))).map toE)=⟨a,n,2,nx⟩:=h
      rw [hb] at h';replace h':lookB x [⟨(pz 0).a,(pz 0).n,1,0⟩]=⟨a,n,2,nx⟩:=h';simp [lookB,stepL,g01,En.zero] at h'
     ·have h':lookB x ((hEc (decide (2<=R))).map toE)=⟨a,n,2,nx⟩:=h
      rw [hb] at h';replace h':lookB x [⟨(pz 0).a,(pz 0).n,1,0⟩,⟨(pz 1).a,(pz 1).n,3,0⟩]=⟨a,n,2,nx⟩:=h';simp [lookB,stepL,g01,g13,En.zero] at h'
   ·have h':lookB x [⟨(pz 0).a,(pz 0).n,2,0⟩,⟨(pz 1).a,(pz 1).n,1,0⟩]=⟨a,n,2,nx⟩:=h
    simp [lookB,stepL,g02,g11,En.zero] at h'
theorem by2 {R:Nat} {crash:Bool} {x:Nat} {from_:Int} {p:List Int} {how:Int} {ok:Bool} (h:Walks (hfs R crash) x [] from_ p how ok):ok=true:=by
 cases h with
 |out h=>rfl
 |ring h hm=>cases hm
 |stop e h hm hl hh=>rfl
 |go e h hm hl hr=>
  have h1:=cw6 h hl
  cases hr with
  |out h=>rfl
  |ring h hm=>
   have:_=_:=List.mem_singleton.1 hm;omega
  |stop e h hm hl hh=>rfl
  |go e' h' hm' hl' hr'=>
   have h2:=cw6 h' hl';omega
end
section
open Go.RowKit Go.Maps Lm
def pzE (e:En):Prop:=∃ i,i<2/\e.a=(pz i).a/\e.n=16
def adE (e:En):List Int:=[(e.a:Int),((e.a+65535:Nat):Int)]
def adsOf (es:List En):List Int:=es.flatMap adE
theorem aj8:∀ es:List En,(adsOf es).length=2*es.length
 |[]=>rfl
 |e::r=>by
  unfold adsOf;rw [List.flatMap_cons,List.length_append,show (r.flatMap adE)=adsOf r from rfl,aj8 r,List.length_cons];show 2+_=_;omega
theorem ca5 (es:List En) (e:En):adsOf (es++[e])=adsOf es++[(e.a:Int),((e.a+65535:Nat):Int)]:=by
 unfold adsOf;rw [List.flatMap_append];simp [adE]
theorem pz_or {i:Nat} (hi:i<2):bits .or .u32 (((pz i).a:Nat):Int) 65535=(((pz i).a+65535:Nat):Int):=by
 have:i=0\/i=1:=by omega
 rcases this with rfl|rfl<;>rfl
theorem co4:∀ xs:List Int,xs.flatMap acl=xs.map (Value.int .u32)
 |[]=>rfl
 |x::r=>by rw [List.flatMap_cons,co4 r]; rfl
structure AdR (w:World) (es:List En) (p:Option Addr) (m c:Nat) (wr:World):Prop where
 bx:Blk 137 wr w.heap.size #[.slice p m c]
 own:Oa (w.heap.size+1) (.slice p m c) (adsOf es) wr
 below:Below w.heap.size w wr
theorem AdR.len {w wr:World} {es:List En} {p:Option Addr} {m c:Nat} (h:AdR w es p m c wr):m=2*es.length:=by
 obtain ⟨p',c',e,-⟩:=Ol.form h.own;injection e with e1 e2 e3;rw [e2,aj8]
theorem ar7 {w:World} {g cap n:Nat} {fss:List (List En)} (h:InF w g cap fss) (hn:fss.length=n) (hn8:n<=8) (hall:∀ es∈fss,es.length<=10/\∀ e∈es,pzE e) {xs:List Int} {srt:Array Int} {ys:List Int} (hd:adsOf fss.flatten=xs) (h0:0<xs.length) (h12:xs.length<=12)
  (hs:Sort.insertionSort Sort.ltInt xs.toArray 0 xs.length=srt) (hss:srt.size=xs.length) (hc:Lib.compactUpTo srt xs.length=ys) (hy:ys.length<=xs.length):
  Calls prog 58 #[.slice (some ⟨g,0,none⟩) n cap] w fun e w'=>∃ g' cap',e= .returned (.slice (some ⟨g',0,none⟩) ys.length cap')/\ys.length<=cap'/\(∀ i (hi:i<ys.length),w'.cell? ⟨g',i,none⟩=some (.int .u32 ys[i]))/\Below w.heap.size w w':=by
 have hcap:=h.le;rw [hn] at hcap;have H:=H3 h hn hall;have D:=H7 hd h0 h12 hs hss hc hy;clear h hn hall hd h0 h12 hs hss hc hy;have S0:=Lib.hid (show AdR w [] none 0 0 (w.alloc (.cells #[.slice none 0 0] 137)) from ⟨Blk.new w _ _,Ol.nil _ _,aa0 _ _⟩);go_enter Tryz.func58,Tryz.ntmps58;go_wp2_with fail;go_loopw [12] (fun i wr=>∃ (k m:Nat) (p0:Option Addr) (cc:Nat),i= .int .i64 k/\k<=n/\Hid (AdR w (fss.take k).flatten p0 m cc wr)) (fun i _=>n - (intOf i).toNat)
 case atStart=>exact ⟨0,0,none,0,rfl,by omega,S0⟩
 case round=>
  clear S0;obtain ⟨k,m,p0,cc,rfl,hk,S⟩:=hrel;by_cases hk2:k<n
  ·have hkz:(k:Int)<(n:Int):=by omega
   have hkc:(k:Int)<(cap:Int):=by omega
   have hkf:k<fss.length:=by rw [H.out.2.1]; exact hk2
   obtain ⟨A,c,qw,hE⟩:=H.out.1.rows k hkf;have hL10:=(H.out.2.2 fss[k] (List.getElem_mem hkf)).1;obtain ⟨es,hes⟩:∃ es,fss[k]=es:=⟨_,rfl⟩;have hpz:=(H.out.2.2 fss[k] (List.getElem_mem hkf)).2;rw [hes] at hE hL10 hpz qw;obtain ⟨L,hL⟩:∃ L,es.length=L:=⟨_,rfl⟩;rw [hL] at hE hL10 qw;have q0:=held S.out.below qw;have hcc:=hE.hc;have EW:=H4 hE hpz hes hL;have S0:Hid (AdR w ((fss.take k).flatten++es.take 0) p0 m cc wr):=by rw [List.take_zero,List.append_nil]; exact S
   clear S qw hE hpz;go_wp2_with fail;go_loopw [18] (fun i wr2=>∃ (j m1:Nat) (p1:Option Addr) (c1:Nat),i= .int .i64 j/\j<=L/\Hid (AdR w ((fss.take k).flatten++es.take j) p1 m1 c1 wr2)) (fun i _=>L - (intOf i).toNat)
   case atStart=>exact ⟨0,m,p0,cc,rfl,by omega,S0⟩
   case round=>
    clear S0 q0;obtain ⟨j,m1,p1,c1,rfl,hj,S⟩:=hrel;by_cases hj1:j<L
    ·have hjz:(j:Int)<(L:Int):=by omega
     have hjc:(j:Int)<(c:Int):=by omega
     obtain ⟨b,off,rfl⟩:=EW.out.1.hA (by omega);have hjl:j<es.length:=by rw [EW.out.2.2.2]; exact hj1
     obtain ⟨a,q,how,nx,he⟩:∃ a q how nx,es[j]=⟨a,q,how,nx⟩:=⟨_,_,_,_,rfl⟩;obtain ⟨i,hi,ha,hq⟩:=EW.out.2.1 es[j] (List.getElem_mem hjl);rw [he] at ha hq;simp only at ha hq;subst hq;obtain ⟨x0,x1,x2,x3⟩:=Ents.cells (EW.out.1.hR b off rfl) hjl he;have e0:=held S.out.below x0;have e1:=held S.out.below x1;have e2:=held S.out.below x2;have e3:=held S.out.below x3;have hor:bits .or .u32 (a:Nat) 65535=((a+65535:Nat):Int):=by rw [ha]; exact pz_or hi
     have hri:Am.right a 16=true:=by rw [ha]; exact ab2 (by omega)
     have ha2:a<4294967296:=by rw [ha]; exact (ad3 (i:=i) (by omega)).1
     have hb1:=aa0 wr (.cells #[.int .u32 (a:Nat),.int .i64 16,.int .i64 how,.int .i64 nx] 135);have hlen:(adsOf ((fss.take k).flatten++es.take j)).length=m1:=by
      obtain ⟨p',c',e,-⟩:=Ol.form S.out.own;injection e with e1 e2 e3;exact e2.symm
     have hm1:m1<=100:=by
      have h1:=D.out.2.2.1;rw [<- D.out.1,aj8] at h1;have h2:fss.flatten.length=(fss.take k).flatten.length+(fss[k].length+(fss.drop (k+1)).flatten.length):=by
       conv=>lhs; rw [<- List.take_append_drop k fss,List.drop_eq_getElem_cons hkf,List.flatten_append,List.flatten_cons,List.length_append,List.length_append]
      rw [aj8,List.length_append,List.length_take] at hlen;rw [EW.out.2.2.1] at h2;have h3:=EW.out.2.2.2;omega
     have hA:=dg5 (a:=a) (b:=a+65535) ha2 hri hor (S.out.bx.held hb1) (S.out.own.held hb1) hlen hm1;have B1:=S.out.below.trans (hb1.mono S.out.below.size);have Bn:=(Blk.new wr 135 #[.int .u32 (a:Nat),.int .i64 16,.int .i64 how,.int .i64 nx]);have n0:=Bn.at_ 0;have n1:=Bn.at_ 1;have HE:=Lib.hid he;clear S hb1 Bn x0 x1 x2 x3 hor hri ha2 ha hi hm1 hlen he;go_wp2_with (first|(go_at_call 87; refine hA.mono ?_; rintro e w2 ⟨rfl,g2,c2,hx2,hO2,hB2⟩; have S2:=H3 hx2 hO2 (B1.trans hB2); clear hA hx2 hO2 hB2 B1)|fail);go_roundw
     case rel=>
      refine ⟨j+1,m1+2,some ⟨g2,0,none⟩,c2,by go_num,hj1,Lib.hid ⟨S2.out.1,?_,S2.out.2.2⟩⟩;rw [List.take_succ_eq_append_getElem hjl,<- List.append_assoc,ca5,HE.out];exact S2.out.2.1
     case measure=>simp [intOf]; omega
    ·have hje:j=L:=by omega
     subst hje;have djz:decide ((j:Int)<(j:Int))=false:=decide_eq_false (by omega);have S2:Hid (AdR w (fss.take (k+1)).flatten p1 m1 c1 wr):=by
      have e:(fss.take (k+1)).flatten=(fss.take k).flatten++es.take j:=by
       rw [List.take_succ_eq_append_getElem hkf,List.flatten_append,EW.out.2.2.1];have:=EW.out.2.2.2;rw [<- this,List.take_length];simp
      rw [e];exact S
     clear S hj hj1;go_wp2_with fail;go_roundw
     case rel=>exact ⟨k+1,m1,p1,c1,by go_num,by omega,S2⟩
     case measure=>simp [intOf]; omega
  ·have hke:k=n:=by omega
   have hS:=S.out;rw [hke,<- H.out.2.1,List.take_length] at hS;have hm:=hS.len;rw [<- aj8,D.out.1] at hm;subst hke;have dkz:decide ((k:Int)<(k:Int))=false:=decide_eq_false (by omega);clear S hk hk2;have hbx:=hS.bx;have hO:=hS.own;have hB:=hS.below;rw [D.out.1] at hO;have h0:=D.out.2.1;have h12:=D.out.2.2.1;have hne:Value.slice p0 m cc≠ .slice none 0 0:=fun e=>by
    injection e with e1 e2 e3;omega
   have hrow:wr.ownsRow (w.heap.size+1) 23 1 (.slice p0 m cc) xs.length (xs.map (Value.int .u32)):=by rw [<- co4]; exact hO
   obtain ⟨g1,c1,e2,hgb,hgl,hcl,hcm,-,hH⟩:=Lib.holds_of_ownsRow hrow hne;injection e2 with q1 q2 q3;subst q1 q3;clear q2;have b0:=hbx.at_ 0;have hO2:w.heap.size+1<=wr.heap.size:=hbx.lt;have hsz:xs.toArray.size=m:=by rw [List.size_toArray]; exact hm.symm
   have hs3:Sort.insertionSort Sort.ltInt xs.toArray 0 m=srt:=by rw [hm]; exact D.out.2.2.2.1
   have hss:srt.size=m:=by rw [hm]; exact D.out.2.2.2.2.1
   have hcs:Lib.compactUpTo srt m=ys:=by rw [hm]; exact D.out.2.2.2.2.2.1
   have hys:ys.length<=m:=by rw [hm]; exact D.out.2.2.2.2.2.2
   have hm12:m<=12:=by omega
   have hlc:m<=cc:=by omega
   have HSo:Calls prog 88 #[.slice (some ⟨g1,0,none⟩) m cc] wr fun e w'=>e= .returned (.tuple #[])/\∃ n,w'=Sort.putRow (Value.int .u32) (Sort.ahead wr n) g1 0 srt:=by
    have:=sort32 g1 cc xs.toArray wr hH (by rw [hsz]; exact hm12);rw [hsz,hs3] at this;exact this
   have HP:=fun n=>Sort.holds_putRow (Value.int .u32) (Sort.ahead wr n) g1 0 xs.toArray srt (Sort.holds_ahead _ _ _ _ _ _ hH) (hss.trans hsz.symm)
   have Z:=H5 hB HP hgb hcm hlc;have Y0:=H4 hss hcs hys hm12;clear hO hrow hH hs3 HP hB hcm hS hm h0 h12 hne hsz hss hcs hys hm12 hcl;go_upto_region 13 with (first|(go_at_call 88; refine HSo.mono ?_; rintro e w2 ⟨rfl,n2,rfl⟩)|fail);have hh:=Z.out.2.1 n2;have HC:=compact32 g1 0 cc srt _ hh (by have:=Y0.out.1; have:=Y0.out.2.2.2; omega) (by have:=Z.out.2.2.2.2; have:=Y0.out.1; omega);rw [Y0.out.1,Y0.out.2.1] at HC;have b1:(Sort.putRow (Value.int .u32) (Sort.ahead wr n2) g1 0 srt).cell? ⟨w.heap.size,0,none⟩=some (.slice (some ⟨g1,0,none⟩) m cc):=by
    rw [Sort.cell?_putRow_other _ _ _ _ _ _ (.inl (by show w.heap.size≠g1; omega))];exact b0
   have hB3:=Lib.below_putRow (enc:=Value.int .u32) (q:=n2) (d:=srt) Z.out.1 (show w.heap.size<=g1 by omega);have Y:=H2 hB3 hh;clear hh hB3 b0 hbx HSo;generalize Sort.putRow (Value.int .u32) (Sort.ahead wr n2) g1 0 srt=w3 at*;go_wp2_with (first|(go_at_call 89; refine HC.mono ?_; rintro e w4 ⟨rfl,q,rfl⟩)|fail);go_ret;have hsz4:(ys++List.replicate (m - ys.length) 0).toArray.size=srt.size:=by
    have:=Y0.out.1;have:=Y0.out.2.2.1;rw [List.size_toArray,List.length_append,List.length_replicate];omega
   have hh4:=Sort.holds_putRow e32 (Sort.ahead w3 q) g1 0 srt (ys++List.replicate (m - ys.length) 0).toArray (Sort.holds_ahead _ _ _ _ _ _ Y.out.2) hsz4;refine ⟨g1,cc,rfl,by have:=Z.out.2.2.2.2; have:=Y0.out.2.2.1; omega,fun i hi=>?_,Lib.below_putRow Y.out.1 (by omega)⟩;have hi2:i<(ys++List.replicate (m - ys.length) 0).toArray.size:=by rw [List.size_toArray,List.length_append]; omega
   have h5:=(hh4 i hi2).1;rw [Nat.zero_add,List.getElem!_toArray,List.getElem!_eq_getElem?_getD,List.getElem?_append_left hi,List.getElem?_eq_getElem hi] at h5;exact h5
theorem df3 {w:World} {B cap:Nat} {A:Option Addr} {fe:List Fe} (h:Lf B (.slice A fe.length cap) fe w) (hl:fe.length<=1000) (hf:∀ e∈fe,(toE e).Fits):InE w A fe.length cap (fe.map toE):=by
 have hO:Ol 135 fcl 4 B (.slice A fe.length cap) fe w:=h.1;obtain ⟨p,c,e,hc⟩:=Ol.form hO;injection e with e1 e2 e3;subst e1 e3;refine ⟨List.length_map ..,by unfold maxLen; omega,hc,fun h0=>?_,fun e he=>?_,fun b off e=>?_⟩
 ·obtain ⟨g,c',e,-⟩:=Ol.at_ al3 hO h0
  injection e with e1 e2 e3;exact ⟨g,0,e1⟩
 ·obtain ⟨x,hx,rfl⟩:=List.mem_map.1 he
  exact hf x hx
 ·intro i hi j hj
  have hi2:i<fe.length:=by rw [List.length_map] at hi; exact hi
  obtain ⟨g,c',e',-,-,hat⟩:=Ol.at_ al3 hO hi2;injection e' with e1 e2 e3;rw [e] at e1;injection e1 with e1;injection e1 with e1 e4 e5;subst e1 e4;rw [Nat.zero_add,hat j hj,List.getElem_map];rfl
theorem bd0 {R:Nat} {crash:Bool} {i:Nat} (hi:i<2):(hFe R crash i).length<=10/\∀ e∈hFe R crash i,(toE e).Fits/\pzE (toE e):=by
 have key:∀ (k:Nat) (how nx:Int),k<2->0<=how->how<=3->0<=nx->nx<=3->(toE ⟨(pz k).a,(pz k).n,how,nx⟩).Fits/\pzE (toE ⟨(pz k).a,(pz k).n,how,nx⟩):=fun k how nx hk h1 h2 h3 h4=>by
  have ha:(pz k).a<4294967296:=(ad3 (i:=k) (by omega)).1;exact ⟨⟨ha,by show -9223372036854775808<=(16:Int); omega,by show (16:Int)<=9223372036854775807; omega,by show -9223372036854775808<=how; omega,by show how<=9223372036854775807; omega,by show -9223372036854775808<=nx; omega,by show nx<=9223372036854775807; omega⟩,k,hk,rfl,rfl⟩
 have hi2:i=0\/i=1:=by omega
 unfold hFe;rcases hi2 with rfl|rfl
 ·rw [if_pos rfl]
  cases crash
  ·rw [if_neg (by decide)]
   refine ⟨by simp [hE0],fun e he=>?_⟩;simp only [hE0,List.mem_cons,List.not_mem_nil,or_false] at he;rcases he with rfl|rfl<;>exact key _ _ _ (by decide) (by decide) (by decide) (by decide) (by decide)
  ·rw [if_pos rfl]
   cases decide (2<=R)
   ·refine ⟨by simp [hEc],fun e he=>?_⟩
    have he':e∈[(⟨(pz 0).a,(pz 0).n,1,0⟩:Fe)]:=he;rw [List.mem_singleton] at he';subst he';exact key _ _ _ (by decide) (by decide) (by decide) (by decide) (by decide)
   ·refine ⟨by simp [hEc],fun e he=>?_⟩
    have he':e∈[(⟨(pz 0).a,(pz 0).n,1,0⟩:Fe),⟨(pz 1).a,(pz 1).n,3,0⟩]:=he;simp only [List.mem_cons,List.not_mem_nil,or_false] at he';rcases he' with rfl|rfl<;>exact key _ _ _ (by decide) (by decide) (by decide) (by decide) (by decide)
 ·rw [if_neg (by decide)]
  refine ⟨by simp [hE1],fun e he=>?_⟩;simp only [hE1,List.mem_cons,List.not_mem_nil,or_false] at he;rcases he with rfl|rfl<;>exact key _ _ _ (by decide) (by decide) (by decide) (by decide) (by decide)
theorem ci7 {w:World} {g T R:Nat} {crash:Bool} (h:FbAt w g T 2 (hFe R crash)):InF w g 2 (hfs R crash):=by
 refine ⟨Nat.le_refl _,by omega,fun i hi=>?_⟩;have hi2:i<2:=hi;obtain ⟨p,cap,q0,hL⟩:=h.row hi2;have hf:=bd0 (R:=R) (crash:=crash) hi2;have e:(hfs R crash)[i]=(hFe R crash i).map toE:=by
  have:i=0\/i=1:=by omega
  rcases this with rfl|rfl<;>rfl
 have key:∀ l:List En,l=(hFe R crash i).map toE->∃ A c,w.cell? ⟨g,i,none⟩=some (.slice A l.length c)/\InE w A l.length c l:=fun l hl=>by
  subst hl;rw [List.length_map];exact ⟨p,cap,q0,df3 hL (by have:=hf.1; omega) fun x hx=>(hf.2 x hx).1⟩
 exact key _ e
def ysH:List Int:=[167772160,167837695,167837696,167903231]
theorem cw5 {w:World} {g T R:Nat} {crash:Bool} (h:FbAt w g T 2 (hFe R crash)):
  Calls prog 58 #[.slice (some ⟨g,0,none⟩) 2 2] w fun e w'=>∃ g' cap',e= .returned (.slice (some ⟨g',0,none⟩) 4 cap')/\4<=cap'/\(∀ i (hi:i<ysH.length),w'.cell? ⟨g',i,none⟩=some (.int .u32 ysH[i]))/\Below w.heap.size w w':=by
 have hall:∀ es∈hfs R crash,es.length<=10/\∀ e∈es,pzE e:=fun es he=>by
  simp only [hfs,List.mem_cons,List.not_mem_nil,or_false] at he;rcases he with rfl|rfl
  ·have hf:=bd0 (R:=R) (crash:=crash) (i:=0) (by omega)
   exact ⟨by rw [List.length_map]; exact hf.1,fun e he=>by obtain ⟨x,hx,rfl⟩:=List.mem_map.1 he; exact (hf.2 x hx).2⟩
  ·have hf:=bd0 (R:=R) (crash:=crash) (i:=1) (by omega)
   exact ⟨by rw [List.length_map]; exact hf.1,fun e he=>by obtain ⟨x,hx,rfl⟩:=List.mem_map.1 he; exact (hf.2 x hx).2⟩
 have h8:adsOf (hfs R crash).flatten=[167772160,167837695,167837696,167903231,167772160,167837695,167837696,167903231]\/adsOf (hfs R crash).flatten=[167772160,167837695,167772160,167837695,167837696,167903231]:=by
  unfold hfs hFe
  cases crash
  ·exact .inl rfl
  ·cases decide (2<=R)
   ·exact .inr rfl
   ·exact .inl rfl
 rcases h8 with e|e
 ·exact ar7 (n:=2) (ci7 h) rfl (by omega) hall (srt:=#[167772160,167772160,167837695,167837695,167837696,167837696,167903231,167903231]) (ys:=ysH) e (by decide) (by decide) (by decide+kernel) (by decide) (by decide+kernel) (by decide)
 ·exact ar7 (n:=2) (ci7 h) rfl (by omega) hall (srt:=#[167772160,167772160,167837695,167837695,167837696,167903231]) (ys:=ysH) e (by decide) (by decide) (by decide+kernel) (by decide) (by decide+kernel) (by decide)
theorem find_hand {w:World} {g T R:Nat} {crash:Bool} (h:FbAt w g T 2 (hFe R crash)):
  Calls prog 35 #[.slice (some ⟨g,0,none⟩) 2 2] w fun e w'=>e= .returned (.tuple #[.int .i64 0,.int .u32 0,.bool false])/\Below w.heap.size w w':=by
 have HA:=cw5 h;have H:=Lib.hid (ci7 h);clear h;go_enter Tryz.func35,Tryz.ntmps35;go_wp2_with (go_at_call 58; refine HA.mono ?_; rintro e w1 ⟨g1,c1,rfl,hc1,q0,hb1⟩; clear HA);have Q:=H2 q0 hb1;have hcz:(4:Int)<=(c1:Int):=by omega
 clear q0 hb1;go_loopw [14] (fun i wr=>∃ k:Nat,i= .int .i64 (k:Nat)/\k<=4/\Hid (Below w1.heap.size w1 wr)) (fun i _=>4 - (intOf i).toNat)
 case atStart=>exact ⟨0,rfl,Nat.zero_le _,Lib.hid (.refl _ _)⟩
 case round=>
  obtain ⟨k,rfl,hk,S⟩:=hrel;by_cases hlt:k<4
  ·have hkz:(k:Int)<4:=by omega
   have hkc:(k:Int)<(c1:Int):=by omega
   have hk4:k<ysH.length:=hlt;obtain ⟨x,hx,hx2⟩:∃ x:Nat,ysH[k]=(x:Int)/\x<4294967296:=by
    have:k=0\/k=1\/k=2\/k=3:=by omega
    rcases this with rfl|rfl|rfl|rfl
    ·exact ⟨167772160,rfl,by omega⟩
    ·exact ⟨167837695,rfl,by omega⟩
    ·exact ⟨167837696,rfl,by omega⟩
    ·exact ⟨167903231,rfl,by omega⟩
   have qk:=held S.out (Q.out.1 k hk4);rw [hx] at qk;have X:=Lib.hid hx2;clear hx hx2;go_wp2_with fail;go_loopw [20] (fun i wr2=>∃ j:Nat,i= .int .i64 (j:Nat)/\j<=2/\Hid (Below w1.heap.size w1 wr2)) (fun i _=>2 - (intOf i).toNat)
   case atStart=>exact ⟨0,rfl,Nat.zero_le _,S⟩
   case round=>
    clear S qk;obtain ⟨j,rfl,hj,S⟩:=hrel;by_cases hjlt:j<2
    ·have hjz:(j:Int)<2:=by omega
     have HW:=co9 (H.out.held (next Q.out.2 S.out)) X.out (j:Int);replace HW:Calls prog 59 #[.slice (some ⟨g,0,none⟩) 2 2,.int .i64 (j:Nat),.int .u32 (x:Nat)] _ fun e w'=>∃ v p how ok,e= .returned (.tuple #[v,.int .i64 how,.bool ok])/\Walks (hfs R crash) x [] (j:Int) p how ok/\Path (hfs R crash) p/\Oi _ v p w'/\Below _ _ w':=HW
     go_wp2_with (go_at_call 59; refine HW.mono ?_; rintro e w2 ⟨v,p,how,ok,rfl,hw2,-,-,hb2⟩; obtain rfl:=by2 hw2; have S2:=Lib.hid (S.out.trans (hb2.mono S.out.size)); clear HW hw2 hb2 S);go_roundw
     case rel=>exact ⟨j+1,by go_num,by omega,S2⟩
     case measure=>simp [intOf]; omega
    ·have djz:¬ ((j:Int)<2):=by omega
     go_wp2_with fail;go_roundw
     case rel=>exact ⟨k+1,by go_num,by omega,S⟩
     case measure=>simp [intOf]; omega
  ·have dkz:¬ ((k:Int)<4):=by omega
   have B:=Lib.hid (next Q.out.2 S.out);clear S;go_wp2_with fail;go_ret3;exact ⟨rfl,B.out⟩
end
end Go.Proofs.YtpljkpnebibbaaaGreatDoor.Lo
namespace Go.Proofs.YtpljkpnebibbaaaGreatDoor
open _root_.Go.Proofs.Tryz (prog)
section
open Go.RowKit Go.Maps Rm Fm Sb
theorem cj8 {x:Int} {R:Nat} {crash:Bool} {e:Sc.Ev} (h:e∈hE x R crash):e=lev x\/(e=bev 0\/e=bev 1\/e=oev 0\/e=oev 1\/e=rev\/e=cev):=by
 unfold hE at h;simp only [List.mem_append,List.mem_cons,List.not_mem_nil,or_false] at h;rcases h with (h|h)|h
 ·rcases h with rfl|rfl|rfl|rfl|rfl<;>simp
 ·obtain rfl:=List.eq_of_mem_replicate h
  simp
 ·cases crash
  ·rw [if_neg (by decide)] at h
   cases h
  ·rw [if_pos rfl] at h
   simp only [List.mem_cons,List.not_mem_nil,or_false] at h;rcases h with rfl|rfl<;>simp
theorem bt1 {x:Int} {R:Nat} {crash:Bool} (h1:1<=x) (h2:x<=1000):∀ e∈hE x R crash,Sc.right e=true/\e.a<4294967296:=fun e he=>by
 rcases cj8 he with rfl|h
 ·exact ⟨bg9 h1 h2,by show 0<4294967296; omega⟩
 ·rcases h with rfl|rfl|rfl|rfl|rfl|rfl<;>exact ⟨by decide+kernel,by decide+kernel⟩
theorem di0 {x:Int} (h1:1<=x) (h2:x<=1000):(lev x).Good:=by
 refine ⟨?_,by show (0:Nat)<=maxLen; omega⟩;unfold lev;constructor<;>(simp only []; omega)
theorem de4 {x:Int} {R:Nat} {crash:Bool} (h1:1<=x) (h2:x<=1000):∀ e∈hE x R crash,e.Good:=fun e he=>by
 rcases cj8 he with rfl|h
 ·exact di0 h1 h2
 ·rcases h with rfl|rfl|rfl|rfl|rfl|rfl<;>exact ⟨by constructor<;>decide,by unfold maxLen; decide⟩
theorem de9 {x:Int} {R:Nat} {crash:Bool}:(Sc.flat (hE x R crash)).length=16*hEn R crash:=by
 have key:∀ l:List Sc.Ev,(∀ e∈l,e.p=[])->(Sc.flat l).length=16*l.length:=fun l=>by
  induction l with
  |nil=>intro _; rfl
  |cons e r ih=>
   intro h;have he:e.p=[]:=h e (by simp);rw [Sc.flat_cons,List.length_append,ih (fun y hy=>h y (by simp [hy])),List.length_cons];have:(Sc.ebytes e).length=16:=by
    unfold Sc.ebytes Sc.hd;rw [he];simp [Sc.three,Sc.four,Sc.nats]
   omega
 rw [key _ (fun e he=>by rcases cj8 he with rfl|h; rfl; rcases h with rfl|rfl|rfl|rfl|rfl|rfl<;>rfl),av9]
theorem hE_all {x:Int} {R:Nat} {crash:Bool} (h1:1<=x) (h2:x<=1000):Sc.allRight (hE x R crash)=true:=by
 unfold Sc.allRight;rw [List.all_eq_true];exact fun e he=>(bt1 h1 h2 e he).1
theorem di3 {R:Nat} {crash:Bool} (hR:R<=8):hEn R crash<=15:=by
 unfold hEn;split<;>omega
def hTold (x:Int) (R:Nat) (crash:Bool):List ByteArray:=List.replicate (hEn R crash) okA++(hLs x R crash 0++hLs x R crash 1)
theorem cj7 {x:Int} {R:Nat} {crash:Bool} {i:Nat} (hi:i<2):(hLs x R crash i).length<=3:=by
 have hi2:i=0\/i=1:=by omega
 unfold hLs;rcases hi2 with rfl|rfl
 ·rw [if_pos rfl]
  cases crash
  ·exact Nat.le_refl _
  ·rw [if_pos rfl]
   unfold hLc
   cases decide (2<=R)
   ·exact Nat.le_succ _
   ·exact Nat.le_refl _
 ·exact Nat.le_refl _
theorem di2 {x:Int} {t R:Nat} {crash:Bool} (h1:1<=x) (h2:x<=1000) (hx:x=(t:Int)) (hR1:1<=R) (hR:R<=8) {w:World} {A:Option Addr} {n cap:Nat} (h:Sp.Sl w A n cap (Sc.script 2 128 (hE x R crash))) (hn:n<=262144) (ht:Tab w):
  Calls prog 9 #[.slice A n cap] w fun e w'=>∃ p n c,e= .returned (.slice p n c)/\Lns w.heap.size (.slice p n c) (hTold x R crash) w'/\Below w.heap.size w w':=by
 obtain ⟨s1,s2,s3⟩:=bf3 (es:=hE x R crash) (show 2<256 by omega) (show 128<65536 by omega);have hE15:=di3 (R:=R) (crash:=crash) hR;have hh:Sc.headed (Sc.script 2 128 (hE x R crash))=true:=by
  unfold Sc.headed;rw [s1,s2,Sc.script_length];unfold Sc.scripted;simp
 have HD0:=Sp.decode_good h hn hh;rw [s1,s2] at HD0;have HD:Calls prog 19 #[.slice A n cap] w fun y w'=>∃ (A':Option Addr) (c':Nat),y= .returned (.tuple #[.int .i64 (2:Nat),.int .i64 (128:Nat),.slice A' (hEn R crash) c',.int .i64 ((Sc.script 2 128 (hE x R crash)).length:Nat),.int .i64 0])/\Hid (Sp.El w' A' (hEn R crash) c' (hE x R crash)/\Below w.heap.size w w'):=by
  refine HD0.mono ?_;rintro y w' ⟨v,l,k,e,rfl,hO,hEv,hB⟩;obtain ⟨rfl,rfl,rfl⟩:=hEv.back (bt1 h1 h2) s3 (by rw [av9]; omega);obtain ⟨A',c',rfl,hEl⟩:=hO.el (de4 h1 h2);rw [av9] at hEl;refine ⟨A',c',?_,Lib.hid ⟨hEl,hB⟩⟩;rw [av9];rfl
 have hlen:(Sc.script 2 128 (hE x R crash)).length<=1000:=by rw [Sc.script_length,de9]; omega
 have l0:=cj7 (x:=x) (R:=R) (crash:=crash) (i:=0) (by omega);have l1:=cj7 (x:=x) (R:=R) (crash:=crash) (i:=1) (by omega);have hml:machL (hLs x R crash) 2=hLs x R crash 0++hLs x R crash 1:=by
  show ([]++hLs x R crash 0)++hLs x R crash 1=_;rw [List.nil_append]
 have hcut:cutL ((cameL (List.replicate (hEn R crash) 0)++machL (hLs x R crash) 2)++errL 0 ((Sc.script 2 128 (hE x R crash)).length:Nat))=hTold x R crash:=by
  rw [bi8,hml];unfold errL cutL hTold;rw [if_pos rfl,List.append_nil,if_neg];rw [List.length_append,List.length_append,List.length_replicate];omega
 have:=da2 (m:=hEn R crash) (nn:=2) (sec:=128) (at_:=((Sc.script 2 128 (hE x R crash)).length:Nat)) (ez:=0) (es:=hE x R crash) (pl:=cameL (List.replicate (hEn R crash) 0)++machL (hLs x R crash) 2) (by omega) HD (fun w' A' c' hb hEl=>bw8 hEl (by omega) (nn:=2) (sec:=128) (by omega) (by omega) (by omega) (by omega) (ht.held hb) (P:=hP x t R) (dd8 x t R) (fun N d k zs st os O wx hk hP hB=>h_step h1 h2 hx hR1 hR N d k zs st os O wx hk hP hB) (zs:=List.replicate (hEn R crash) 0) (fe:=hFe R crash) (ls:=hLs x R crash)
  (fun z hz=>by rw [List.eq_of_mem_replicate hz]; decide) (fun d zs' st os hP=>h_end h1 h2 hx hR1 d zs' st os hP) (fun w' g T hF=>Lo.find_hand hF)) ht (by decide) (by omega) (by
   rw [bi8,hml,List.length_append,List.length_append,List.length_replicate];omega)
 rw [hcut] at this;exact this
end
end Go.Proofs.YtpljkpnebibbaaaGreatDoor
