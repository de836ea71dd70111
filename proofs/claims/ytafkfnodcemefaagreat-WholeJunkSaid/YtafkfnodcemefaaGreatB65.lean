import Derived.Test.YtafkfnodcemefaaGreatB64
import Derived.Test.YtafkfnodcemefaaGreatB62
import Derived.Test.YtafkfnodcemefaaGreatB56
import Derived.Room.AppendZeros
import Derived.Test.YtafkfnodcemefaaGreatB33
set_option maxHeartbeats 8000000
set_option maxRecDepth 100000
namespace Go.Proofs.YtafkfnodcemefaaGreat
open _root_.Go.Proofs.Tryz (prog)
section
open Go.RowKit Go.Maps Rm Fm Sb
attribute [local go_sem] Oper.semAt_some
theorem junk_walk (a:Int) {A:Option Addr} {L cap:Nat} {es:List Sc.Ev} {w:World} (hE:Sp.El w A L cap es) {A2:Option Addr} {nj capj:Nat} {js:List Nat} (hJ:T.Sl w A2 nj capj js) (cut:Int):
  Q 4 #[I a,.slice A L cap,.slice A2 nj capj,I cut] w (Rr0 w (O true)):=by
 obtain ⟨x0,hx0,m1⟩:=dh5 a 3 G;replace m1:bits .and .i64 a 3=(x0:Int):=m1;obtain ⟨n,hnn⟩:∃ n:Nat,2+(x0:Int)=(n:Int):=⟨2+x0,G⟩;have k1:wrap64 (2+(x0:Int))=(n:Int):=by rw [hnn]; exact IntWalk.wrap64_in _ G
 have hn1:1<=n:=G
 have hn8:n<=8:=G
 have HA:=cv9 w;have hl:=hE.len;have X:=H5 hE hn1 hn8 hl hJ;clear hE hn1 hn8 hl hnn hx0 hJ;go_enter Tryz.func4,Tryz.ntmps4;go_upto_region 3 with (go_at_call 6; refine HA.mono ?_; rintro e w1 ⟨rfl,hb1⟩);have HR:=Sp.topright_any (X.out.1.held hb1);have B1:=Z hb1;clear HA hb1;go_wp2_with fail;refine HR.mono ?_;rintro e w2 ⟨⟨q,rfl,hq⟩,hb2⟩;have B2:=Z (next B1.out hb2);clear HR hb2 B1
 cases q with
 |false=>
  clear hq m1 k1;go_wp2_with fail;go_ret;exact ⟨rfl,B2.out⟩
 |true=>
  have FEW:=Z (hq rfl);clear hq
  cases hj:decide ((200:Int)<(nj:Int)) with
  |true=>
   clear m1 k1;go_wp2_with fail;go_ret;exact ⟨rfl,B2.out⟩
  |false=>
   go_upto_region 6 with fail;rw [k1];clear m1 k1 hj;have hL:=FEW.out.1;have hLL:=X.out.2.2.2.1;have HE1:Q 8 #[I (n:Nat),I 512,.slice A L cap] w2 fun x w'=>∃ N v,x= .returned (.tuple #[K N,v])/\EvG (evOf es) (nNew 512) w2 N n L v w':=
    ae3 (sec:=512) (X.out.1.held B2.out) G X.out.2.1 X.out.2.2.1 G G G G (fun e he=>(X.out.1.good e he).fits.a)
   go_upto_region 7 with (go_at_call 8; refine HE1.mono ?_; rintro e w3 ⟨N1,va,rfl,g1⟩);have B3:=Z (next B2.out g1.below);have HE2:Q 8 #[I (n:Nat),I 512,.slice A L cap] w3 fun x w'=>∃ N v,x= .returned (.tuple #[K N,v])/\EvG (evOf es) (nNew 512) w3 N n L v w':=
    ae3 (sec:=512) (X.out.1.held B3.out) G X.out.2.1 X.out.2.2.1 G G G G (fun e he=>(X.out.1.good e he).fits.a)
   have G1:=Z g1;clear HE1 g1;go_upto_region 8 with (go_at_call 8; refine HE2.mono ?_; rintro e w5 ⟨N2,vb,rfl,g2⟩);have T5:=Z (two_start G1.out g2 G);obtain ⟨pa,ca,rfl⟩:=G1.out.len;obtain ⟨pb,cb,rfl⟩:=g2.len;have B5:=Z (next B3.out g2.below);clear HE2 g2 G1 hL hLL;obtain ⟨st,os,hT,hD⟩:=T5.out;have T0:=Z hT;have D0:=Z hD;clear hT hD T5;go_wp2_with fail;have S0:=Z (Below.refl w5.heap.size w5);have hn64:n<=8:=X.out.2.2.1;go_loopw [13] (fun i wr=>∃ k:Nat,i= I (k:Nat)/\k<=n/\Hid (Below w5.heap.size w5 wr)) (fun i _=>n - (intOf i).toNat)
   case atStart=>exact ⟨0,rfl,Nat.zero_le _,S0⟩
   case round=>
    clear S0;obtain ⟨k,rfl,hk,R⟩:=hrel;by_cases hkn:k<n
    ·have i1:(k:Int)<(n:Int):=G
     obtain ⟨rv,HRt0,hrv⟩:=two_router T0.out hkn;have HRt:=HRt0 wr R.out;clear HRt0
     cases rv with
     |none=>
      clear hrv;go_wp2_with (go_at_call 12; refine HRt.mono ?_; rintro e w6 ⟨rfl,hw⟩; have hw2:=hw.symm; subst hw2; clear hw);go_roundw
      case rel=>exact ⟨k+1,by go_num,G,R⟩
      case measure=>simp [intOf]; omega
     |some ad=>
      obtain ⟨Rr0,F,J,sp,M,rfl,hG⟩:=hrv ad rfl;have HG:=Z hG;have HD:=T.decode_any (X.out.2.2.2.2.held (next B5.out R.out)) rfl;clear hrv hG;go_upto_region 15 with (go_at_call 12; refine HRt.mono ?_; rintro e w6 ⟨rfl,hw⟩; have hw2:=hw.symm; subst hw2; clear hw);go_wp2_with fail;refine HD.mono ?_;rintro e w7 ⟨hb7,⟨hno,rfl⟩|⟨us,v,-,rfl,hLu⟩⟩
      ·have R7:=Z (next R.out hb7)
       have HN:=Z hno;clear HD HRt hb7 hno R;go_wp2_with fail;go_loopw [17] (fun i u=>∃ j:Nat,i= I (j:Nat)/\j<=n/\Hid (Below w5.heap.size w5 u)) (fun i _=>n - (intOf i).toNat)
       case atStart=>exact ⟨0,rfl,Nat.zero_le _,R7⟩
       case round=>
        clear R7;obtain ⟨j,rfl,hjn,R⟩:=hrel;by_cases hj:j<n
        ·have i2:(j:Int)<(n:Int):=G
         have HC:=gz_junk (HG.out wr R.out) (X.out.2.2.2.2.held (next B5.out R.out)) HN.out (j:Int);go_wp2_with (go_at_call 14; refine HC.mono ?_; rintro e w8 ⟨rfl,hb8⟩; have R8:=Z (next R.out hb8); clear hb8 HC R);go_roundw
         case rel=>exact ⟨j+1,by go_num,G,R8⟩
         case measure=>simp [intOf]; omega
        ·obtain rfl:j=n:=G
         go_wp2_with fail;go_roundw
         case rel=>exact ⟨k+1,by go_num,G,R⟩
         case measure=>simp [intOf]; omega
      ·have R7:=Z (next R.out hb7)
       obtain ⟨pv,cv,rfl,-⟩:=hLu.form;generalize us.length=nv at*;clear HD HRt hb7 R hLu;go_wp2_with fail;go_roundw
       case rel=>exact ⟨k+1,by go_num,G,R7⟩
       case measure=>simp [intOf]; omega
    ·obtain rfl:k=n:=G
     obtain ⟨Jn,hJn⟩:=ey os.length;have Q0:∃ o:List Dg,o.length=Jn/\Hid (Two w2 wr N1 N2 k st o o/\∀ d∈o,DgOk d):=⟨os,hJn,Z ⟨T0.out.held R.out,D0.out⟩⟩;clear hJn R T0 D0 hkn hk;go_wp2_with fail;go_loopg [] Jn (fun g wr2=>∃ o:List Dg,o.length=g/\Hid (Two w2 wr2 N1 N2 k st o o/\∀ d∈o,DgOk d))
     case atStart=>exact Q0
     case round=>
      clear Q0;obtain ⟨o,ho,T⟩:=hrel;have HW:=dh4 T.out.1.bo1;rw [ho] at HW;by_cases hg:gk=0
      ·subst hg
       go_wp2_with fail;refine HW.mono ?_;rintro e w6 ⟨rfl,hw⟩;have hw2:=hw.symm;subst hw2;clear hw HW;go_wp2_with fail;have NM:=H3 T.out.1.bo1 T.out.1.bo2 (next B2.out T.out.1.below);have HF1:=cv8 NM.out.1;clear T ho;refine HF1.mono ?_;rintro e w6 ⟨rfl,h1⟩;have B8:=Z (next NM.out.2.2 h1.below);have HF2:=cv8 (NM.out.2.1.held h1.below);have F1:=Z h1;clear HF1 h1;go_upto_region 27 with (go_at_call 10; refine HF2.mono ?_; rintro e w7 ⟨rfl,h2⟩);have B9:=Z (next B8.out h2.below);have FF:=Z (And.intro (fun (u:World) (hb:Below w7.heap.size w7 u) (i:Nat) (hi:i<k)=>F1.out.at_ (next h2.below hb) hi) (fun (u:World) (hb:Below w7.heap.size w7 u) (i:Nat) (hi:i<k)=>h2.at_ hb hi));clear HF2 h2 F1 NM B8;generalize wr.heap.size=f1 at*;generalize w6.heap.size=f2 at*;go_wp2_with fail;have T0:=Z (Below.refl w7.heap.size w7);go_loopw [107] (fun i wr=>∃ j:Nat,i= I (j:Nat)/\j<=k/\Hid (Below w7.heap.size w7 wr)) (fun i _=>k - (intOf i).toNat)
       case atStart=>exact ⟨0,rfl,Nat.zero_le _,T0⟩
       case round=>
        clear T0;obtain ⟨i,rfl,hi,R⟩:=hrel;by_cases hin:i<k
        ·have i1:(i:Int)<(k:Int):=G
         have FA:=Z (And.intro (fun (u:World) (hb:Below w7.heap.size w7 u)=>FF.out.1 u hb i hin) (fun (u:World) (hb:Below w7.heap.size w7 u)=>FF.out.2 u hb i hin));generalize SvG.fib (st i)=us at FA;obtain ⟨pa1,ca1,qa,-⟩:=FA.out.1 wr R.out;obtain ⟨pb1,cb1,qb,-⟩:=FA.out.2 wr R.out;obtain ⟨m,hm⟩:=ey us.length;rw [hm] at qa qb;have HM:=Z hm;clear hm;go_upto_region 30 with fail;go_region_held3 (fun u=>u.cell? (Y f1 i)=some (.slice pa1 m ca1)/\u.cell? (Y f2 i)=some (.slice pb1 m cb1)) (go_keep) (fail);have R1:=Z R.out.drew;clear qa qb R;generalize wr.drew=w8 at*;obtain ⟨pa1,ca1,qa,-⟩:=FA.out.1 w8 R1.out;rw [HM.out] at qa;go_wp2_with fail;go_loopw [126] (fun v u=>∃ j:Nat,v= I (j:Nat)/\j<=m/\Hid (Below w7.heap.size w7 u)) (fun v _=>m - (intOf v).toNat)
         case atStart=>exact ⟨0,rfl,Nat.zero_le _,R1⟩
         case round=>
          clear qa R1;obtain ⟨j,rfl,hj,R⟩:=hrel;by_cases hjm:j<m
          ·have i2:(j:Int)<(m:Int):=G
           have hju:j<us.length:=by rw [HM.out]; exact hjm
           obtain ⟨e,he⟩:=ey (us[j]);obtain ⟨pa2,ca2,qa,ea⟩:=FA.out.1 wr R.out;obtain ⟨pb2,cb2,qb,eb⟩:=FA.out.2 wr R.out;obtain ⟨ga,rfl,hm64,a0,a1,a2,a3⟩:=ea j hju e he;obtain ⟨gb,rfl,-,b0,b1,b2,b3⟩:=eb j hju e he;rw [HM.out] at qa qb hm64;clear ea eb he hju;generalize e.a=y0 at*;generalize e.n=y1 at*;generalize e.how=y2 at*;generalize e.nx=y3 at*;go_upto_region 35 with fail;go_region_held3 (fun u=>u.cell? (Y f1 i)=Xp ga m ca2/\u.cell? (Y f2 i)=Xp gb m cb2/\u.cell? (Y ga (j*4))=some (U (y0:Nat))/\u.cell? (Y ga (j*4+1))=some (I y1)/\u.cell? (Y ga (j*4+2))=some (I y2)/\u.cell? (Y ga (j*4+3))=some (I y3)/\u.cell? (Y gb (j*4))=some (U (y0:Nat))/\u.cell? (Y gb (j*4+1))=some (I y1)/\u.cell? (Y gb (j*4+2))=some (I y2)/\u.cell? (Y gb (j*4+3))=some (I y3)) (go_keep) (fail);have R1:=Z R.out.drew;go_wp2_with fail;go_roundw
           case rel=>exact ⟨j+1,by go_num,G,R1⟩
           case measure=>simp [intOf]; omega
          ·obtain rfl:j=m:=G
           go_wp2_with fail;go_roundw
           case rel=>exact ⟨i+1,by go_num,G,R⟩
           case measure=>simp [intOf]; omega
        ·obtain rfl:i=k:=G
         have B10:=Z (next B9.out R.out);clear R FF;go_wp2_with fail;go_ret;exact ⟨rfl,B10.out⟩
      ·obtain ⟨g,rfl⟩:∃ g,gk=g+1:=⟨gk - 1,G⟩
       obtain ⟨d,r,rfl⟩:∃ d r,o=d::r:=by
        cases o with
        |nil=>simp at ho
        |cons d r=>exact ⟨d,r,rfl⟩
       have hr:r.length=g:=by simpa using ho
       have hd:=T.out.2 d List.mem_cons_self;have hrd:∀ x∈r,DgOk x:=fun x hx=>T.out.2 x (List.mem_cons_of_mem _ hx)
       obtain ⟨z,hz⟩:=ey d.2.2.length;have HP:=two_packet0 T.out.1 hd;rw [hz] at HP;obtain ⟨m,hm,hmm⟩:∃ m:Nat,m<z/\wrap64 ((IntKind.u64.wrap cut).tmod (z:Int))=(m:Int):=mod_in cut (by rw [<- hz]; exact hd.2.2.2) (by rw [<- hz]; exact hd.2.2.1);have ST:=H5 hr hrd hd hm hz;have hz5:z<=5000:=by rw [<- hz]; exact hd.2.2.1
       have hz1:1<=z:=by rw [<- hz]; exact hd.2.2.2
       have d0:(0:Int)<((g+1:Nat):Int):=G
       clear hr hrd hd hm hz ho hg;go_wp2_with fail;refine HW.mono ?_;rintro e w6 ⟨rfl,hw⟩;have hw2:=hw.symm;subst hw2;clear hw HW d0;go_wp2_with fail;refine HP.mono ?_;rintro e w7 ⟨x,y,gp,cp,rfl,hb7⟩;have T7:=Z (T.out.1.held hb7);clear HP hb7 T;have BX:=Blk.new w7 53 #[I x,I y,Lt gp z cp];have T8:=Z (T7.out.held (aa0 w7 (.cells #[I x,I y,Lt gp z cp] 53)));clear T7;go_upto_region 23 with fail;generalize w7.alloc _=w8 at*;have x2:w8.cell? (Y w7.heap.size 2)=Xp gp z cp:=BX.at_ 2;have M9:=Z hmm;clear BX hmm;go_wp2_with fail;rw [M9.out];refine (two_cut0 T8.out (by rw [ST.out.2.2.2.2]; exact ST.out.2.2.2.1) ST.out.2.2.1).mono ?_;rintro e w9 ⟨rfl,h9⟩;have T9:=Z h9;clear h9 T8 x2;go_wp2_with fail;refine (two_lose0 T9.out).mono ?_;rintro e w10 ⟨rfl,h10⟩;have T10:=Z h10;clear h10 T9;go_wp2_with fail;go_roundg g
       case measure=>omega
       case rel=>exact ⟨r,ST.out.1,Z ⟨T10.out,ST.out.2.1⟩⟩
end
end Go.Proofs.YtafkfnodcemefaaGreat
