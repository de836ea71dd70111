import Derived.Test.YtafkfnodcemefaaGreatB69
import Derived.Test.YtafkfnodcemefaaGreatB46
import Derived.Test.YtafkfnodcemefaaGreatB33
set_option maxHeartbeats 8000000
set_option maxRecDepth 100000
namespace Go.Proofs.YtafkfnodcemefaaGreat
open _root_.Go.Proofs.Tryz (prog)
section
open Go.RowKit Go.Maps Rm Fm Sb
attribute [local go_sem] Oper.semAt_some
theorem withheld_walk (a b:Int) (w:World):
  Kc 5 #[I a,I b] w (Rr0 w (O true)):=by
 obtain ⟨x0,hx0,m1⟩:=dh5 a 15 G;replace m1:bits .and .i64 a 15=(x0:Int):=m1;obtain ⟨A,hA,m2⟩:=dh5 b 15 G;replace m2:bits .and .i64 b 15=(A:Int):=m2;obtain ⟨T,hT⟩:∃ T:Nat,1+(x0:Int)=(T:Int):=⟨1+x0,G⟩;have k1:wrap64 (1+(x0:Int))=(T:Int):=by rw [hT]; exact IntWalk.wrap64_in _ G
 have hT1:1<=T:=G
 have hT2:T<=16:=G
 have HA:=cv9 w;clear hT hx0;go_enter Tryz.func5,Tryz.ntmps5;go_upto_region 3 with (go_at_call 6; refine HA.mono ?_; rintro e w1 ⟨rfl,hb1⟩);have B1:=Z hb1;have M2:=Z m2;clear HA hb1 m2;go_upto_region 4 with fail;rw [k1];clear m1 k1;have H0:=ww_new w1;go_upto_region 5 with (go_at_call 18; refine H0.mono ?_; rintro e w2 ⟨N,rfl,h⟩);have S2:=Z h;have H1:=ww_boot0 h;clear H0 h;go_upto_region 8 with (go_at_call 19; refine H1.mono ?_; rintro e w3 ⟨z3,rfl,h⟩);have H2:=ww_boot1 h;clear H1 h S2;go_upto_region 9 with (go_at_call 19; refine H2.mono ?_; rintro e w4 ⟨z4,rfl,h⟩);have H3:=ww_link h;clear H2 h;go_upto_region 10 with (go_at_call 20; refine H3.mono ?_; rintro e w5 ⟨z5,rfl,h⟩);have S5:=Z h;have HP:=npfx0 w5;clear H3 h;go_wp2_with fail;refine HP.mono ?_;rintro e w6 ⟨rfl,hb6⟩;have H4:=ww_own (S5.out.held hb6);clear HP hb6 S5;go_upto_region 11 with (go_at_call 21; refine H4.mono ?_; rintro e w7 ⟨z7,rfl,h⟩);have S7:=Z h;clear H4 h;go_wp2_with fail;go_loopw [6] (fun v wr=>∃ k:Nat,v= I (k:Nat)/\k<=A/\Hid (Ww w1 wr N (Wr k))) (fun v _=>A - (intOf v).toNat)
 case atStart=>exact ⟨0,rfl,Nat.zero_le _,S7⟩
 case round=>
  clear S7;obtain ⟨k,rfl,hk,R⟩:=hrel;have m2:=M2.out;by_cases hkA:k<A
  ·have i1:(k:Int)<(A:Int):=G
   have HR:=ww_round R.out G;clear R;go_wp2_with (go_at_call 23; refine HR.mono ?_; rintro e w8 ⟨rfl,h8⟩; have R8:=Z h8; clear h8 HR);go_roundw
   case rel=>exact ⟨k+1,by go_num,G,R8⟩
   case measure=>simp [intOf]; omega
  ·obtain rfl:k=A:=G
   obtain ⟨lz,hlz⟩:∃ lz:Nat,(if k=0 then 0 else 8)=lz:=⟨_,rfl⟩;obtain ⟨⟨R0,q1,q2,q3⟩⟩:=ww_asks1 R.out;rw [hlz] at q3;have LZ:=Z hlz;have hl8:lz<=8:=by rw [<- hlz]; split<;>omega
   have Q:=Z (And.intro q1 (And.intro q2 q3));clear hlz q1 q2 q3 hkA hk;go_wp2_with fail;refine (Q.out.1 wr (.refl _ _)).mono ?_;rintro e w8 ⟨rfl,hw⟩;have hw2:=hw.symm;subst hw2;clear hw;go_wp2_with fail;refine (Q.out.2.1 wr (.refl _ _)).mono ?_;rintro e w9 ⟨rfl,hb9⟩;have B9:=Z hb9;clear hb9;go_wp2_with fail;refine (Q.out.2.2 w9 B9.out).mono ?_;rintro e w10 ⟨rfl,hw⟩;subst hw;have W0:=Z ((R.out.held B9.out).mono (Ph':=Wt k 0) wr_wt);clear Q B9 R;go_wp2_with fail;go_loopw [8,9] (fun vt vi wr=>∃ (td i:Nat),vt= Uu (td:Nat)/\vi= I (i:Nat)/\i<=T/\td<=8/\(k=0->td=0)/\(1<=i->k≠0->1<=td)/\Hid (Ww w1 wr N (Wt k i))) (fun _ vi _=>T - (intOf vi).toNat)
   case atStart=>exact ⟨0,0,rfl,rfl,Nat.zero_le _,G,fun _=>rfl,fun h=>absurd h G,W0⟩
   case round=>
    clear W0;obtain ⟨td,i,rfl,rfl,hi,ht8,ht0,ht1,R⟩:=hrel;by_cases hiT:i<T
    ·have i1:(i:Int)<(T:Int):=G
     have HF:=ww_fail R.out;clear R;go_upto_region 21 with (go_at_call 26; refine HF.mono ?_; rintro e w11 ⟨rfl,h11⟩);have HT:=ww_tick h11 G G;clear HF h11;go_wp2_with fail;refine HT.mono ?_;rintro e w12 ⟨zt,rfl,h12⟩;obtain ⟨g0,hg0⟩:∃ g0:Nat,(if k=0 then 0 else 1)=g0:=⟨_,rfl⟩;rw [hg0] at h12;have W12:∃ td':Nat,(Uu (td:Nat):Value)= Uu (td':Nat)/\td'<=8/\(k=0->td'=0/\g0=0)/\(g0=0->k≠0->1<=td')/\Hid (Ww w1 w12 N (Wi k (i+1) g0)):=⟨td,rfl,ht8,fun h=>⟨ht0 h,by rw [<- hg0,if_pos h]⟩,fun h hk0=>by rw [if_neg hk0] at hg0; omega,Z h12⟩;have II:=Z (And.intro hiT hi);clear HT h12 hg0 ht8 ht0 ht1;go_wp2_with fail;go_loopg [8] g0 (fun g vt wr2=>∃ td':Nat,vt= Uu (td':Nat)/\td'<=8/\(k=0->td'=0/\g=0)/\(g=0->k≠0->1<=td')/\Hid (Ww w1 wr2 N (Wi k (i+1) g)))
     case atStart=>exact W12
     case round=>
      clear W12;obtain ⟨td,rfl,ht8,ht0,ht1,R⟩:=hrel;have HW:=ww_waits R.out;by_cases hg:gk=0
      ·subst hg
       go_wp2_with fail;refine HW.mono ?_;rintro e w13 ⟨rfl,hw⟩;have hw2:=hw.symm;subst hw2;have W13:=Z (R.out.mono (Ph':=Wt k (i+1)) wi_wt);clear hw HW R;go_wp2_with fail;go_roundw
       case rel=>exact ⟨td,i+1,rfl,by go_num,by have:=II.out.1; omega,ht8,fun h=>(ht0 h).1,fun _ h=>by first|exact ht1 rfl h|exact ht1 trivial h,W13⟩
       case measure=>have:=II.out.1; simp [intOf]; omega
      ·obtain ⟨g,rfl⟩:∃ g,gk=g+1:=⟨gk - 1,G⟩
       have hk0:k≠0:=fun h=>by have:=(ht0 h).2; omega
       have d0:(0:Int)<((g+1:Nat):Int):=G
       have HP:=ww_packet R.out;have KK:=Z (And.intro hk0 ht8);clear hg ht0 ht1 hk0 ht8;go_wp2_with fail;refine HW.mono ?_;rintro e w13 ⟨rfl,hw⟩;have hw2:=hw.symm;subst hw2;clear hw HW d0;go_wp2_with fail;refine HP.mono ?_;rintro e w14 ⟨x,y,gp,m,cp,rfl,hb14,hrd⟩;obtain ⟨hbx,BX⟩:=nw w14 53 #[I x,I y,Lt gp m cp];have W15:=Z ((R.out.held hb14).held hbx);obtain ⟨ua,ul,us,um,HD⟩:=(hrd.held hbx).ex;clear HP hb14 hrd R hbx;go_upto_region 24 with fail;generalize w14.alloc _=w15 at*;have x2:w15.cell? (Y w14.heap.size 2)=Xp gp m cp:=BX.at_ 2;clear BX;go_wp2_with fail;refine HD.mono ?_;rintro e w16 ⟨q,c,rfl,hb16,u0,u1,u2,u3,u4,us1,us8⟩;have W16:=Z (W15.out.held hb16);obtain ⟨u,rfl⟩:∃ u:Nat,us=(u:Int):=⟨us.toNat,G⟩;have U:=Z (And.intro us1 us8);obtain ⟨hbz,BZ⟩:=nw w16 71 #[Uu ua,I ul,Uu 1,Uu u,V um];have W17:=Z (W16.out.held hbz);clear HD hb16 x2 W15 us1 us8 hbz;go_wp2_with fail;go_loopw [8,70] (fun vt vj wr2=>(vt= Uu (td:Nat)/\vj= I 0/\wr2=w16)\/(∃ td':Nat,vt= Uu (td':Nat)/\td'<=8/\1<=td'/\vj= I 1/\Hid (Ww w1 wr2 N (Wi k (i+1) (g+1))))) (fun _ vj _=>1 - (intOf vj).toNat)
       case atStart=>exact .inl ⟨rfl,rfl,rfl⟩
       case round=>
        rcases hrel with ⟨rfl,rfl,rfl⟩|⟨td',rfl,h8,h1,rfl,R⟩
        ·go_upto_region 28 with fail
         generalize wr.alloc _=w17 at*;have z2:w17.cell? (Y wr.heap.size 2)=some (Uu 1):=BZ.at_ 2;have z3:w17.cell? (Y wr.heap.size 3)=some (Uu u):=BZ.at_ 3;clear BZ u0 u1 u2 u3 u4;go_wp2_with fail;go_roundw
         case rel=>exact .inr ⟨max td u,by go_num,by have:=U.out.2; have:=KK.out.2; omega,by have:=U.out.1; omega,rfl,W17⟩
         case measure=>simp [intOf]
        ·clear u0 u1 u2 u3 u4 BZ W17 W16
         have HL:=ww_lose R.out;clear R;go_wp2_with fail;refine HL.mono ?_;rintro e w18 ⟨rfl,h18⟩;have W18:=Z h18;clear HL h18;go_wp2_with fail;go_roundg g
         case measure=>omega
         case rel=>exact ⟨td',rfl,h8,fun h=>absurd h KK.out.1,fun _ _=>h1,W18⟩
    ·obtain rfl:i=T:=G
     have m2:=M2.out;obtain ⟨⟨R1,q1,q2,q3⟩⟩:=ww_asks2 R.out;rw [LZ.out] at q3;have Q:=Z (And.intro q1 (And.intro q2 (And.intro q3 R.out.below)));have htl:td<=lz:=by
      by_cases hk0:k=0
      ·rw [ht0 hk0]; omega
      ·have:=LZ.out; rw [if_neg hk0] at this; omega
     have hp1:k≠0->1<=td:=ht1 hT1;have hp2:k≠0->1<=lz:=fun h=>by have:=LZ.out; rw [if_neg h] at this; omega
     have hp3:k=0->td=0:=ht0;have P:=Z (And.intro hp1 (And.intro hp2 hp3));have BB:=Z (next B1.out R.out.below);clear ht0 ht1 q1 q2 q3 R hp1 hp2 hp3 hiT hi;have d1:(td:Int)<=(lz:Int):=G
     go_wp2_with fail;refine (Q.out.1 wr (.refl _ _)).mono ?_;rintro e w8 ⟨rfl,hw⟩;have hw2:=hw.symm;subst hw2;clear hw;go_wp2_with fail;refine (Q.out.2.1 wr (.refl _ _)).mono ?_;rintro e w9 ⟨rfl,hb9⟩;have BC:=Z (next BB.out hb9);have Q3:=Q.out.2.2.1 w9 hb9;clear hb9 Q BB;go_wp2_with fail;refine Q3.mono ?_;rintro e w10 ⟨rfl,hw⟩;subst hw;clear Q3;have d2:=dT (td<=lz);have d3:decide ((td:Int)<=(lz:Int))=true:=decide_eq_true d1;have P:=P.out;by_cases hk0:k=0
     ·obtain rfl:td=0:=P.2.2 hk0
      have e0:(k==0)=true:=by simp; exact hk0
      have e1:((k:Int)==0)=true:=by simp; exact hk0
      have e2:(0:Int)<=(lz:Int):=G
      clear P d2 d3 d1
      cases hl0:decide (0<lz) with
      |true=>
       have hl1:decide ((0:Int)<(lz:Int))=true:=decide_eq_true (by have:=of_decide_eq_true hl0; omega);go_wp2_with fail;go_ret;exact ⟨rfl,BC.out⟩
      |false=>
       have hl1:decide ((0:Int)<(lz:Int))=false:=decide_eq_false (by have:=of_decide_eq_false hl0; omega);go_wp2_with fail;go_ret;exact ⟨rfl,BC.out⟩
     ·have e0:(k==0)=false:=by simp; exact hk0
      have e1:((k:Int)==0)=false:=by simp; exact hk0
      have e2:decide (0<td)=true:=decide_eq_true (P.1 hk0);have e3:decide (0<lz)=true:=decide_eq_true (P.2.1 hk0);have e4:decide ((0:Int)<(td:Int))=true:=decide_eq_true (by have:=P.1 hk0; omega);have e5:decide ((0:Int)<(lz:Int))=true:=decide_eq_true (by have:=P.2.1 hk0; omega);clear P;go_wp2_with fail;go_ret;exact ⟨rfl,BC.out⟩
end
end Go.Proofs.YtafkfnodcemefaaGreat
