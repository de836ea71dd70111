import Derived.Test.YtafkfnodcemefaaGreatB57
import Derived.Test.YtafkfnodcemefaaGreatB46
import Derived.Test.YtafkfnodcemefaaGreatB33
import Derived.Room.AppendZeros
set_option maxHeartbeats 8000000
set_option maxRecDepth 100000
namespace Go.Proofs.YtafkfnodcemefaaGreat
open _root_.Go.Proofs.Tryz (prog)
section
open Go.RowKit Go.Maps Rm Fm Sb
attribute [local go_sem] Oper.semAt_some
theorem am1 (a:Int) {A:Option Addr} {L cap:Nat} {es:List Sc.Ev} {w:World} (hE:Sp.El w A L cap es):
  Q 3 #[I a,.slice A L cap] w (Rr0 w (O true)):=by
 obtain ⟨x0,hx0,m1⟩:=dh5 a 3 G;replace m1:bits .and .i64 a 3=(x0:Int):=m1;obtain ⟨n,hnn⟩:∃ n:Nat,2+(x0:Int)=(n:Int):=⟨2+x0,G⟩;have k1:wrap64 (2+(x0:Int))=(n:Int):=by rw [hnn]; exact IntWalk.wrap64_in _ G
 have hn1:1<=n:=G
 have hn8:n<=8:=G
 have HA:=cv9 w;have hl:=hE.len;have hmx:L<=9223372036854775807:=by have:=hE.max; unfold maxLen at this; omega
 have X:=H4 hE hn1 hn8 hl;clear hE hn1 hn8 hl hnn hx0;go_enter Tryz.func3,Tryz.ntmps3;go_upto_region 3 with (go_at_call 6; refine HA.mono ?_; rintro e w1 ⟨rfl,hb1⟩);have HR:=Sp.topright_any (X.out.1.held hb1);have B1:=Z hb1;clear HA hb1;go_upto_if 25 with (go_at_call 7; refine HR.mono ?_; rintro e w2 ⟨⟨q,rfl,hq⟩,hb2⟩);have B2:=Z (next B1.out hb2);clear HR hb2 B1
 cases q with
 |false=>
  clear hq m1 k1;go_wp2_with fail;go_ret;exact ⟨rfl,B2.out⟩
 |true=>
  have FEW:=Z (hq rfl);clear hq;go_upto_region 6 with fail;rw [k1,Bool.not_true];clear m1 k1;have G0:=Z (show Gw w2 (calm (es.take 0)) (Lt w2.heap.size 0 0) (w2.alloc (.cells #[] 30)) from Gw.start w2);go_upto_region 7 with fail;go_wp2_with fail;go_loopw [5,32] (fun v i wr=>∃ (k q c:Nat) (p:Option Addr),v= .slice p q c/\i= I (k:Nat)/\k<=L/\Hid (Gw w2 (calm (es.take k)) (.slice p q c) wr)) (fun _ i _=>L - (intOf i).toNat)
  case atStart=>exact ⟨0,0,0,_,rfl,rfl,Nat.zero_le _,G0⟩
  case round=>
   clear G0;obtain ⟨k,q,c,p,rfl,rfl,hk,R⟩:=hrel;by_cases hkL:k<L
   ·have i1:(k:Int)<(L:Int):=G
    have hkE:k<es.length:=by rw [X.out.2.2.2]; exact hkL
    obtain ⟨b0,off,rfl⟩:=X.out.1.plain G;obtain ⟨e,he⟩:=ey (es[k]);obtain ⟨c0,c1,c2,c3,c4,c5,c6⟩:=(X.out.1.held (next B2.out R.out.below)).at_ hkE he;have CT:=Z (ao7 hkE he);have hbx:=aa0 wr (.cells (Sp.ecs e) 30);have BX:=Blk.new wr 30 (Sp.ecs e);have hlen:(calm (es.take k)).length<=1000:=by
     have h1:=ao9 (es.take k);have h2:=FEW.out.1;rw [List.length_take] at h1;omega
    obtain ⟨p',q',c',ev,g',cap',W',hrun,R2⟩:=R.out.push hbx e hlen;injection ev with e1 e2 e3;subst e1 e2 e3;have R3:=R.out.held hbx;unfold Sp.ecs at hrun R3 hbx BX;clear he hkE hlen;generalize hkk:e.kind=y0 at*;generalize e.i=y1 at*;generalize e.k=y2 at*;generalize e.n=y3 at*;generalize e.a=y4 at*;generalize e.len=y5 at*;generalize (⟨e.p.toArray⟩:ByteArray)=s at*;clear hkk;have ZB:=H2 BX R3;clear BX R3 hbx R;go_upto_region 10 with fail;generalize wr.alloc _=w5 at*;have x0:w5.cell? (Y wr.heap.size 0)=some (I y0):=ZB.out.1.at_ 0;have x1:w5.cell? (Y wr.heap.size 1)=some (I y1):=ZB.out.1.at_ 1;have x2:w5.cell? (Y wr.heap.size 2)=some (I y2):=ZB.out.1.at_ 2;have x3:w5.cell? (Y wr.heap.size 3)=some (I y3):=ZB.out.1.at_ 3;have x4:w5.cell? (Y wr.heap.size 4)=some (U (y4:Nat)):=ZB.out.1.at_ 4;have x5:w5.cell? (Y wr.heap.size 5)=some (I y5):=ZB.out.1.at_ 5;have x6:w5.cell? (Y wr.heap.size 6)=some (Ss s):=ZB.out.1.at_ 6;clear c0 c1 c2 c3 c4 c5 c6
    cases hkd:(y0 !=2) with
    |false=>
     have R4:=Z (show Gw w2 (calm (es.take (k+1))) (.slice p q c) w5 by rw [CT.out,hkd]; exact ZB.out.2);clear hrun R2 ZB;go_wp2_with fail;go_roundw
     case rel=>exact ⟨k+1,q,c,p,rfl,by go_num,G,R4⟩
     case measure=>simp [intOf]; omega
    |true=>
     have R4:=Z (show Gw w2 (calm (es.take (k+1))) (Lt g' (q+1) cap') W' by rw [CT.out,hkd]; exact R2.out);clear R2 ZB;go_wp2_with (first|(at_builtin; refine Lib.wpList_append_run _ rfl (.tmp 39) (.tmp 41) 22 22 rfl _ _ rfl rfl _ _ hrun ?_)|fail);go_roundw
     case rel=>exact ⟨k+1,q+1,cap',_,rfl,by go_num,G,R4⟩
     case measure=>simp [intOf]; omega
   ·obtain rfl:k=L:=G
    clear hkL hk;have hce:calm (es.take k)=calm es:=by rw [<- X.out.2.2.2,List.take_length]
    have R5:=R.out;rw [hce] at R5;have hin:∀ e∈calm es,e∈es/\e.kind≠2:=fun e he=>ay2 he
    have hle:(calm es).length<=120:=Nat.le_trans (ao9 es) FEW.out.1;clear R hce;generalize calm es=cs at*;obtain ⟨A1,cap1,ev,hEl⟩:=R5.el (fun e he=>X.out.1.good e (hin e he).1);injection ev with e1 e2 e3;subst e1 e3;rw [<- e2] at hEl;rw [<- e2] at hle;have hq:=hEl.len;have hB5:=Z (next B2.out R5.below);have hmq:q<=9223372036854775807:=G
    have HE1:Q 8 #[I (n:Nat),I 512,.slice p q c] wr fun x w'=>∃ N v,x= .returned (.tuple #[K N,v])/\EvG (evOf cs) (nNew 512) wr N n q v w':=
     ae3 (sec:=512) hEl G X.out.2.1 X.out.2.2.1 G G (by rw [hq]; omega) (by rw [hq]; omega) (fun e he=>(X.out.1.good e (hin e he).1).fits.a)
    have CS:=H4 hEl hin hle hq;clear hEl hin hle e2 hq R5;go_upto_region 14 with (go_at_call 8; refine HE1.mono ?_; rintro e w3 ⟨N1,va,rfl,g1⟩);obtain ⟨pa,ca,rfl⟩:=g1.len;have hB3:=Z (next hB5.out g1.below);have G1:=Z g1;have E1:=Z (CS.out.1.held g1.below);have G0:=Z (show Gw w3 (nLess n cs (nNew 512) 0) (Lt w3.heap.size 0 0) (w3.alloc (.cells #[] 30)) by rw [an1]; exact Gw.start w3);clear HE1 g1 hB5;go_upto_region 15 with fail;go_wp2_with fail;go_loopw [10,53] (fun v i wr=>∃ (k q2 c2:Nat) (p2:Option Addr),v= .slice p2 q2 c2/\i= I (k:Nat)/\k<=q/\Hid (Gw w3 (nLess n cs (nNew 512) k) (.slice p2 q2 c2) wr)) (fun _ i _=>q - (intOf i).toNat)
    case atStart=>exact ⟨0,0,0,_,rfl,rfl,Nat.zero_le _,G0⟩
    case round=>
     clear G0;obtain ⟨k,q2,c2,p2,rfl,rfl,hk,R⟩:=hrel;by_cases hkq:k<q
     ·have i1:(k:Int)<(q:Int):=G
      have hkC:k<cs.length:=by rw [CS.out.2.2.2]; exact hkq
      obtain ⟨g,ca',ev,qa⟩:=G1.out.at_ R.out.below hkq;injection ev with e1 e2 e3;subst e1 e3;clear e2;obtain ⟨z,hz⟩:=ey (nZ n (evOf cs) (nNew 512) k);rw [hz] at qa;have NS:=an4 n cs (nNew 512) k;rw [hz] at NS;clear hz
      cases hz0:(z==0) with
      |false=>
       have R4:=Z (show Gw w3 (nLess n cs (nNew 512) (k+1)) (.slice p2 q2 c2) wr by rw [NS,if_neg (by simpa using hz0)]; exact R.out);clear NS R;go_wp2_with fail;go_roundw
       case rel=>exact ⟨k+1,q2,c2,p2,rfl,by go_num,G,R4⟩
       case measure=>simp [intOf]; omega
      |true=>
       obtain ⟨b0,off,rfl⟩:=E1.out.plain G;obtain ⟨e,he⟩:=ey (cs[k]);obtain ⟨c0,c1,c2,c3,c4,c5,c6⟩:=(E1.out.held R.out.below).at_ hkC he;rw [if_pos (by simpa using hz0),show evOf cs k=e from (getD_in hkC).trans he] at NS;have hlen:(nLess n cs (nNew 512) k).length<=1000:=by
        have h1:=ag8 (m:=n) (es:=cs) (x:=nNew 512) (k:=k);have h2:=CS.out.2.2.1;omega
       obtain ⟨p',q',c',ev,g',cap',W',hrun,R2⟩:=R.out.push (Below.refl _ _) e hlen;injection ev with e1 e2 e3;subst e1 e2 e3;rw [<- NS] at R2;unfold Sp.ecs at hrun;clear NS R he hkC hlen;generalize hkk:e.kind=y0 at*;generalize e.i=y1 at*;generalize e.k=y2 at*;generalize e.n=y3 at*;generalize e.a=y4 at*;generalize e.len=y5 at*;generalize (⟨e.p.toArray⟩:ByteArray)=s at*;clear hkk;go_wp2_with (first|(at_builtin; refine Lib.wpList_append_run _ rfl (.tmp 60) (.tmp 65) 22 22 rfl _ _ rfl rfl _ _ hrun ?_)|fail);go_roundw
       case rel=>exact ⟨k+1,q2+1,cap',_,rfl,by go_num,G,R2⟩
       case measure=>simp [intOf]; omega
     ·obtain rfl:k=q:=G
      clear hkq hk;have R5:=R.out;have hin:∀ e∈nLess n cs (nNew 512) k,e∈cs:=fun e he=>ah8 (Nat.le_of_eq CS.out.2.2.2.symm) he
      have hle:(nLess n cs (nNew 512) k).length<=120:=Nat.le_trans ag8 CS.out.2.2.1;have hat:=aq6 (m:=n) (sec:=512) G (fun e he=>(CS.out.2.1 e he).2);have hok:=fun j hj=>aq5 (m:=n) (sec:=512) (es:=cs) G (fun e he=>(CS.out.2.1 e he).2) (j:=j) hj
      rw [CS.out.2.2.2] at hat hok;clear R;generalize nLess n cs (nNew 512) k=ls at*;obtain ⟨A2,cap2,ev,hEl⟩:=R5.el (fun e he=>X.out.1.good e (CS.out.2.1 e (hin e he)).1);injection ev with e1 e2 e3;subst e1 e3;rw [<- e2] at hEl hle hat hok;have hq:=hEl.len;have hB5:=Z (next hB3.out R5.below);have hmq:q2<=9223372036854775807:=G
      have HE2:Q 8 #[I (n:Nat),I 512,.slice p2 q2 c2] wr fun x w'=>∃ N v,x= .returned (.tuple #[K N,v])/\EvG (evOf ls) (nNew 512) wr N n q2 v w':=
       ae3 (sec:=512) hEl G X.out.2.1 X.out.2.2.1 G G (by rw [hq]; omega) (by rw [hq]; omega) (fun e he=>(X.out.1.good e (CS.out.2.1 e (hin e he)).1).fits.a)
      have LS:=H5 hEl hin hle hat hok;have NA:=Z (G1.out.net.held R5.below);clear hEl hin hle e2 hq R5 hat hok;go_upto_region 22 with (go_at_call 8; refine HE2.mono ?_; rintro e w5 ⟨N2,vb,rfl,g2⟩);obtain ⟨pb,cb,rfl⟩:=g2.len;have hB6:=Z (next hB5.out g2.below);have E2:=Z (LS.out.1.held g2.below);have n2:=g2.net;rw [LS.out.2.2.2.1] at n2;have NN:=H2 (NA.out.held g2.below) n2;have HW1:=dh4 NN.out.1;have HW2:=dh4 NN.out.2;have G2:=Z g2;generalize (nAt n (evOf cs) (nNew 512) k).2.length=wn at*;clear HE2 g2 n2 hB5 NA;go_upto_if 93 with (go_at_call 9; first|(refine HW1.mono ?_; rintro r w7 ⟨rfl,hw⟩; have hw2:=hw.symm; subst hw2; clear hw)|(refine HW2.mono ?_; rintro r w7 ⟨rfl,hw⟩; have hw2:=hw.symm; subst hw2; clear hw));clear HW1 HW2;go_wp2_with fail;have T0:=Z (Below.refl w5.heap.size w5);go_loopw [96] (fun i wr=>∃ j:Nat,i= I (j:Nat)/\j<=q2/\Hid (Below w5.heap.size w5 wr)) (fun i _=>q2 - (intOf i).toNat)
      case atStart=>exact ⟨0,rfl,Nat.zero_le _,T0⟩
      case round=>
       clear T0;obtain ⟨j,rfl,hj,R⟩:=hrel;by_cases hjq:j<q2
       ·have i1:(j:Int)<(q2:Int):=G
        obtain ⟨g,cb',ev,qa⟩:=G2.out.at_ R.out hjq;injection ev with e1 e2 e3;subst e1 e3;clear e2;rw [LS.out.2.2.2.2 j hjq] at qa;go_wp2_with fail;go_roundw
        case rel=>exact ⟨j+1,by go_num,G,R⟩
        case measure=>simp [intOf]; omega
       ·obtain rfl:j=q2:=G
        have B7:=Z (next hB6.out R.out);have E3:=Z (E2.out.held R.out);have NM:=H2 (NN.out.1.held R.out) (NN.out.2.held R.out);have HF1:=cv8 NM.out.1;clear R NN G2 hjq hj;go_upto_region 31 with (go_at_call 10; refine HF1.mono ?_; rintro e w6 ⟨rfl,h1⟩);have B8:=Z (next B7.out h1.below);have HF2:=cv8 (NM.out.2.held h1.below);have F1:=Z h1;clear HF1 h1;go_upto_region 32 with (go_at_call 10; refine HF2.mono ?_; rintro e w7 ⟨rfl,h2⟩);have B9:=Z (next B8.out h2.below);have E4:=Z (E3.out.held (next F1.out.below h2.below));have FF:=Z (And.intro (fun (u:World) (hb:Below w7.heap.size w7 u) (i:Nat) (hi:i<n)=>F1.out.at_ (next h2.below hb) hi) (fun (u:World) (hb:Below w7.heap.size w7 u) (i:Nat) (hi:i<n)=>h2.at_ hb hi));clear HF2 h2 F1 NM B8 E3;generalize wr.heap.size=f1 at*;generalize w6.heap.size=f2 at*;go_wp2_with fail;have T0:=Z (Below.refl w7.heap.size w7);have hn64:n<=8:=X.out.2.2.1;go_loopw [109] (fun i wr=>∃ j:Nat,i= I (j:Nat)/\j<=n/\Hid (Below w7.heap.size w7 wr)) (fun i _=>n - (intOf i).toNat)
        case atStart=>exact ⟨0,rfl,Nat.zero_le _,T0⟩
        case round=>
         clear T0;obtain ⟨i,rfl,hi,R⟩:=hrel;by_cases hin:i<n
         ·have i1:(i:Int)<(n:Int):=G
          have FA:=Z (And.intro (fun (u:World) (hb:Below w7.heap.size w7 u)=>FF.out.1 u hb i hin) (fun (u:World) (hb:Below w7.heap.size w7 u)=>FF.out.2 u hb i hin));generalize SvG.fib ((nAt n (evOf cs) (nNew 512) k).1 i)=us at FA;obtain ⟨pa1,ca1,qa,-⟩:=FA.out.1 wr R.out;obtain ⟨pb1,cb1,qb,-⟩:=FA.out.2 wr R.out;obtain ⟨m,hm⟩:=ey us.length;rw [hm] at qa qb;have HM:=Z hm;clear hm;go_upto_region 35 with fail;go_region_held3 (fun u=>u.cell? (Y f1 i)=some (.slice pa1 m ca1)/\u.cell? (Y f2 i)=some (.slice pb1 m cb1)) (go_keep) (fail);have R1:=Z R.out.drew;clear qa qb R;generalize wr.drew=w8 at*;obtain ⟨pa1,ca1,qa,-⟩:=FA.out.1 w8 R1.out;rw [HM.out] at qa;go_wp2_with fail;go_loopw [128] (fun v u=>∃ j:Nat,v= I (j:Nat)/\j<=m/\Hid (Below w7.heap.size w7 u)) (fun v _=>m - (intOf v).toNat)
          case atStart=>exact ⟨0,rfl,Nat.zero_le _,R1⟩
          case round=>
           clear qa R1;obtain ⟨j,rfl,hj,R⟩:=hrel;by_cases hjm:j<m
           ·have i2:(j:Int)<(m:Int):=G
            have hju:j<us.length:=by rw [HM.out]; exact hjm
            obtain ⟨e,he⟩:=ey (us[j]);obtain ⟨pa2,ca2,qa,ea⟩:=FA.out.1 wr R.out;obtain ⟨pb2,cb2,qb,eb⟩:=FA.out.2 wr R.out;obtain ⟨ga,rfl,hm64,a0,a1,a2,a3⟩:=ea j hju e he;obtain ⟨gb,rfl,-,b0,b1,b2,b3⟩:=eb j hju e he;rw [HM.out] at qa qb hm64;clear ea eb he hju;generalize e.a=y0 at*;generalize e.n=y1 at*;generalize e.how=y2 at*;generalize e.nx=y3 at*;go_upto_region 40 with fail;go_region_held3 (fun u=>u.cell? (Y f1 i)=Xp ga m ca2/\u.cell? (Y f2 i)=Xp gb m cb2/\u.cell? (Y ga (j*4))=some (U (y0:Nat))/\u.cell? (Y ga (j*4+1))=some (I y1)/\u.cell? (Y ga (j*4+2))=some (I y2)/\u.cell? (Y ga (j*4+3))=some (I y3)/\u.cell? (Y gb (j*4))=some (U (y0:Nat))/\u.cell? (Y gb (j*4+1))=some (I y1)/\u.cell? (Y gb (j*4+2))=some (I y2)/\u.cell? (Y gb (j*4+3))=some (I y3)) (go_keep) (fail);have R1:=Z R.out.drew;go_wp2_with fail;go_roundw
            case rel=>exact ⟨j+1,by go_num,G,R1⟩
            case measure=>simp [intOf]; omega
           ·obtain rfl:j=m:=G
            go_wp2_with fail;go_roundw
            case rel=>exact ⟨i+1,by go_num,G,R⟩
            case measure=>simp [intOf]; omega
         ·obtain rfl:i=n:=G
          have HFw:=Sp.few_true (E4.out.held R.out) LS.out.2.2.1 (fun x hx=>FEW.out.2 x (CS.out.2.1 x (LS.out.2.1 x hx)).1);have B10:=Z (next B9.out R.out);clear R FF;go_wp2_with (go_at_call 11; refine HFw.mono ?_; rintro e w9 ⟨rfl,hb9⟩);go_ret;exact ⟨rfl,next B10.out hb9⟩
end
end Go.Proofs.YtafkfnodcemefaaGreat
