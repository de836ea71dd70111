import Derived.Test.YtlklghedfaeepaaGreatB40
import Derived.Room.AppendZeros
import Derived.Lib.OwnBridge
import Derived.Test.YtlklghedfaeepaaGreatB42
import Derived.Test.YtlklghedfaeepaaGreatB41
set_option maxHeartbeats 8000000
set_option maxRecDepth 100000
namespace Go.Proofs.YtlklghedfaeepaaGreat
open _root_.Go.Proofs.Tryz (prog)
section
open Go.RowKit
attribute [local go_sem] Oper.semAt_some
def pfC:Array Value:=#[.int .u32 ((167772160+0*65536:Nat):Int),.int .i64 16]
def Kp (g pb n:Nat) (F:Nat->Nat) (wr:World):Prop:=(∀ i,i<n->wr.cell? ⟨g,i,none⟩=some (.int .i64 (F i:Nat)))/\Blk 31 wr pb pfC
theorem Kp.turn {g pb n:Nat} {F:Nat->Nat} {wr w':World} (h:Kp g pb n F wr) (hL:∀ x,x∈[g,pb]->w'.heap[x]?=wr.heap[x]?):Kp g pb n F w':=⟨fun i hi=>by
 have e:w'.cell? ⟨g,i,none⟩=wr.cell? ⟨g,i,none⟩:=by
  unfold World.cell?;rw [hL g (by simp)]
 rw [e];exact h.1 i hi,(hL pb (by simp)).trans h.2⟩
theorem Kp.held {g pb n:Nat} {F:Nat->Nat} {wr w':World} (h:Kp g pb n F wr) (hb:Below wr.heap.size wr w'):Kp g pb n F w':=⟨fun i hi=>Go.Proofs.YtlklghedfaeepaaGreat.held hb (h.1 i hi),h.2.held hb⟩
theorem do8 (a b:Int) {A:Option Addr} {len cap:Nat} {cs:List Int} (w:World) (hI:InI w A len cap cs):Calls prog 3 #[.int .i64 a,.int .i64 b,.slice A len cap] w fun e w'=>e= .returned (.bool true)/\Below w.heap.size w w':=by
 obtain ⟨x0,hx0,m1⟩:=dh5 a 7 (by omega);obtain ⟨y0,hy0,m2⟩:=dh5 b 7 (by omega);replace m1:bits .and .i64 a 7=(x0:Int):=m1;replace m2:bits .and .i64 b 7=(y0:Int):=m2;obtain ⟨n,hnn⟩:∃ n:Nat,2+((x0:Nat):Int) % 7=(n:Int):=⟨2+x0 % 7,by omega⟩;obtain ⟨R,hRR⟩:∃ R:Nat,1+(y0:Int)=(R:Int):=⟨1+y0,by omega⟩;have hn2:2<=n:=by omega
 have hn8:n<=8:=by omega
 have hR1:1<=R:=by omega
 have hR8:R<=8:=by omega
 have k2:wrap64 (1+(y0:Int))=(R:Int):=by rw [hRR]; exact IntWalk.wrap64_in _ (by omega)
 have HA:=dh9 w;have HI:=Lib.hid hI;have HNN:=H2 hnn k2;clear hI hnn hRR hx0 hy0 k2;go_enter Tryz.func3,Tryz.ntmps3;go_upto_region 5 with (go_at_call 5; refine HA.mono ?_; rintro e w1 ⟨rfl,hb1⟩);rw [HNN.out.1,HNN.out.2];clear HNN m1 m2 HA;have HN:=g_new n hn2 hn8 w1;go_upto_region 8 with (go_at_call 6; refine HN.mono ?_; rintro e w2 ⟨N,d,rfl,hN,hb2⟩);have hF:=dt5 (lnF cs) (dq1 cs) hN hb2;have hb3:=next (next hb1 hb2) (aa0 w2 (.cells #[.int .i64 0] 3));have S0:Hid (∃ m,m=max 1 0/\True):=Lib.hid ⟨_,rfl,trivial⟩;clear HN hN;go_upto_region 9 with fail;generalize w2.alloc _=w3 at*;generalize w2.heap.size=g0 at*;have H3:=Lib.hid (And.intro hb3 (And.intro HI.out.hl hF));have hbw1:=hF.below;have HB1:=Lib.hid hb1;clear hb1 hb2 hb3 hF S0;have hll:cs.length=len:=H3.out.2.1;go_wp2_with fail;go_loopw [8,9] (fun v8 v9 wr=>∃ (k m c:Nat) (p:Option Addr),v9= .int .i64 (k:Nat)/\v8= .slice p m c/\k<=n/\Hid (m=max 1 k/\FrB w1 N n d (lnF cs) (.slice p m c) k wr)) (fun _ i _=>n - (intOf i).toNat)
 case atStart=>exact ⟨0,1,1,_,rfl,rfl,Nat.zero_le _,Lib.hid ⟨rfl,H3.out.2.2⟩⟩
 case round=>
  obtain ⟨k,m,c,p,rfl,rfl,hk,S⟩:=hrel;by_cases hlt:k<n
  ·have hkz:(k:Int)<(n:Int):=by omega
   have HB:=g_boot S.out.2 hlt;go_upto_region 13 with (go_at_call 7; refine HB.mono ?_; rintro e w4 ⟨rfl,hM⟩);by_cases hk0:k=0
   ·subst hk0
    have S2:=H2 S.out.1 (g_zero hM);clear HB S hM;go_wp2_with fail;go_roundw
    case rel=>exact ⟨1,m,c,p,by go_num,rfl,by omega,Lib.hid ⟨by have:=S2.out.1; omega,S2.out.2⟩⟩
    case measure=>simp [intOf]; omega
   ·have hk0z:¬ ((k:Int)=0):=by omega
    have S2:=H2 S.out.1 hM;clear HB S hM;have hI4:=HI.out.held (next (HB1.out) S2.out.2.below);have L:=do7 cs k;have L2:=dr2 cs k;have L3:=dj5 cs k (by omega);by_cases hkl:k<len
    ·obtain ⟨b',off,rfl⟩:=hI4.hA (by omega)
     have qc:=hI4.hR b' off rfl k (by omega);have hkl1:(k:Int)<(len:Int):=by omega
     have hkl2:(k:Int)<(cap:Int):=by have:=hI4.hc; omega
     obtain ⟨y,hy,hm⟩:=dh5 (cs[k]'(by omega)) 63 (by omega);replace hm:bits .and .i64 (cs[k]'(by omega)) 63=(y:Int):=hm;have ex:=dr3 cs k (by omega);rw [hm] at ex;have hy1:(lnC cs k:Int)=1+(y:Int):=ex.symm;clear ex;have HL:=dr5 S2.out.2 (by omega) hlt L3 L;rw [show ((k - 1:Nat):Int)=(k:Int) - 1 by omega,hy1] at HL;have hmk:m=k:=by have:=S2.out.1; omega
     have E:=Lib.hid (And.intro L3 (And.intro L L2));clear hI4 L L2 L3 S2;subst hmk;have HY:=Lib.hid hy1;clear hy1;go_upto_region 18 with (go_at_call 8; refine HL.mono ?_; rintro e w5 ⟨rfl,hL⟩);obtain ⟨g,rfl,hkc,q⟩:=g_far hL (by omega);obtain ⟨g',cap',W',hrun,hP⟩:=dr4 hL (by omega) (by omega);obtain ⟨f0,hf0⟩:∃ f0,lnF cs (m - 1)=f0:=⟨_,rfl⟩;rw [hf0] at q;have hsum:((lnF cs m:Nat):Int)=(f0:Int)+(1+(y:Int)):=by have:=E.out.1; rw [hf0] at this; rw [this,Int.natCast_add,HY.out]
     rw [hsum] at hrun;have hkq:(m:Int) - 1<(c:Int):=by omega
     have hfb:f0<=448:=by have:=E.out.2.2; have:=E.out.1; have:=E.out.2.1; omega
     have q2:w5.cell? ⟨g,((m:Int) - 1).toNat,none⟩=some (.int .i64 (f0:Nat)):=by rw [show ((m:Int) - 1).toNat=m - 1 by omega]; exact q
     have P:=Lib.hid hP;clear hL hP hf0 E HL hsum;go_wp2_with (first|(at_builtin; refine Lib.wpList_append_run _ rfl (.tmp 63) (.tmp 71) 22 22 rfl _ _ rfl rfl _ _ hrun ?_)|fail);go_roundw
     case rel=>exact ⟨m+1,m+1,cap',_,by go_num,rfl,by omega,Lib.hid ⟨by omega,P.out⟩⟩
     case measure=>simp [intOf]; omega
    ·have hkl1:¬ ((k:Int)<(len:Int)):=by omega
     have hy1:(lnC cs k:Int)=1:=by rw [do6 cs k (by omega)]; rfl
     have HL:=dr5 S2.out.2 (by omega) hlt L3 L;rw [show ((k - 1:Nat):Int)=(k:Int) - 1 by omega,hy1] at HL;have hmk:m=k:=by have:=S2.out.1; omega
     have E:=Lib.hid (And.intro L3 (And.intro L L2));clear hI4 L L2 L3 S2;subst hmk;have HY:=Lib.hid hy1;clear hy1;go_upto_region 18 with (go_at_call 8; refine HL.mono ?_; rintro e w5 ⟨rfl,hL⟩);obtain ⟨g,rfl,hkc,q⟩:=g_far hL (by omega);obtain ⟨g',cap',W',hrun,hP⟩:=dr4 hL (by omega) (by omega);obtain ⟨f0,hf0⟩:∃ f0,lnF cs (m - 1)=f0:=⟨_,rfl⟩;rw [hf0] at q;have hsum:((lnF cs m:Nat):Int)=(f0:Int)+1:=by have:=E.out.1; rw [hf0] at this; rw [this,Int.natCast_add,HY.out]
     rw [hsum] at hrun;have hkq:(m:Int) - 1<(c:Int):=by omega
     have hfb:f0<=448:=by have:=E.out.2.2; have:=E.out.1; have:=E.out.2.1; omega
     have q2:w5.cell? ⟨g,((m:Int) - 1).toNat,none⟩=some (.int .i64 (f0:Nat)):=by rw [show ((m:Int) - 1).toNat=m - 1 by omega]; exact q
     have P:=Lib.hid hP;clear hL hP hf0 E HL hsum;go_wp2_with (first|(at_builtin; refine Lib.wpList_append_run _ rfl (.tmp 63) (.tmp 71) 22 22 rfl _ _ rfl rfl _ _ hrun ?_)|fail);go_roundw
     case rel=>exact ⟨m+1,m+1,cap',_,by go_num,rfl,by omega,Lib.hid ⟨by omega,P.out⟩⟩
     case measure=>simp [intOf]; omega
  ·have hke:k=n:=by omega
   subst hke;have dkz:decide ((k:Int)<(k:Int))=false:=decide_eq_false (by omega);have S2:=Lib.hid S.out;clear S hk hlt hll;have HPw:=cg9 0 (by omega) wr;replace HPw:Calls prog 9 #[.int .i64 0,.int .i64 0] wr fun e w'=>e= .returned (.agg #[.int .u32 ((167772160+0*65536:Nat):Int),.int .i64 16])/\Below wr.heap.size wr w':=HPw
   go_upto_region 20 with (go_at_call 9; refine HPw.mono ?_; rintro e w4 ⟨rfl,hb4⟩);obtain ⟨hbn,PB⟩:=nw w4 31 #[.int .u32 ((167772160+0*65536:Nat):Int),.int .i64 16];obtain ⟨hmk,hkc,g,rfl,hgl,hat,hT⟩:=g_ft (S2.out.2.held hb4) (by omega) (.cells #[.int .u32 ((167772160+0*65536:Nat):Int),.int .i64 16] 31);have K5:Kp g w4.heap.size k (lnF cs) (w4.alloc (.cells #[.int .u32 ((167772160+0*65536:Nat):Int),.int .i64 16] 31)):=⟨fun i hi=>held hbn (hat i hi),PB⟩;rw [hmk];clear HPw hb4 hbn PB hat hmk S2;generalize w4.alloc _=w5 at*;generalize w4.heap.size=pb at*;have HO:=g_own hT (by omega) R;replace HO:Calls prog 10 #[.pointer (some ⟨N,0,none⟩),.int .i64 0,.agg #[.int .u32 ((167772160+0*65536:Nat):Int),.int .i64 16],.bool true] w5 _:=HO;have c0:w5.cell? ⟨pb,0,none⟩=some (.int .u32 ((167772160+0*65536:Nat):Int)):=K5.2.at_ 0;have c1:w5.cell? ⟨pb,1,none⟩=some (.int .i64 16):=K5.2.at_ 1;have K:=Lib.hid K5;clear hT K5;go_upto_region 22 with (go_at_call 10; refine HO.mono ?_; rintro e w6 ⟨rfl,hA6,hL6⟩);have S6:=H2 hA6 (K.out.turn hL6);clear HO hA6 hL6 c0 c1 K;have hFs:=dq2 cs k;go_wp2_with fail;go_loopw [12] (fun v12 wr2=>∃ T:Nat,v12= .int .i64 (T:Nat)/\T<=R/\Hid (FtA w1 N k d (lnF cs) R 51 true T [g,pb] wr2/\Kp g pb k (lnF cs) wr2)) (fun i _=>R - (intOf i).toNat)
   case atStart=>exact ⟨0,rfl,Nat.zero_le _,S6⟩
   case round=>
    clear S6;obtain ⟨T,rfl,hTR,S⟩:=hrel;by_cases hlt:T<R
    ·have hkz:(T:Int)<(R:Int):=by omega
     have HR:=dp0 hFs hn8 hR1 (by omega) (by omega) (fun _=>⟨hlt,by omega⟩) (fun h=>by cases h) S.out.1;go_wp2_with (go_at_call 11; refine HR.mono ?_; rintro e w7 ⟨rfl,hA7,hL7⟩; have S7:=H2 hA7 (S.out.2.turn hL7); clear HR hA7 hL7 S);go_roundw
     case rel=>exact ⟨T+1,by go_num,by omega,S7⟩
     case measure=>simp [intOf]; omega
    ·have hTe:T=R:=by omega
     subst hTe;have dTz:decide ((T:Int)<(T:Int))=false:=decide_eq_false (by omega);clear hlt hTR;go_upto_region 26 with fail;go_wp2_with fail;go_loopw [13] (fun v13 wr3=>∃ i:Nat,v13= .int .i64 (i:Nat)/\i<=k/\Hid (Below wr.heap.size wr wr3)) (fun x _=>k - (intOf x).toNat)
     case atStart=>exact ⟨0,rfl,Nat.zero_le _,Lib.hid (.refl _ _)⟩
     case round=>
      obtain ⟨i,rfl,hik,B⟩:=hrel;by_cases hi:i<k
      ·have hiz:(i:Int)<(k:Int):=by omega
       obtain ⟨z,ok,hz,Rr,hRr,hDr⟩:=dq6 hFs hn8 S.out.1 hi;have HRa:∀ (q:Nat) (os:Array Obj),Calls prog 12 #[.pointer (some ⟨N,0,none⟩),.int .i64 i] (Sort.grow (redrawn wr q) os) fun e w2=>e= .returned (.pointer (some ⟨Rr,0,none⟩))/\Below (Sort.grow (redrawn wr q) os).heap.size (Sort.grow (redrawn wr q) os) w2:=fun q os=>hRr _ (next B.out (below_regrown wr q os))
       have HDa:∀ (q:Nat) (os:Array Obj),Calls prog 13 #[.pointer (some ⟨Rr,0,none⟩),.agg #[.int .u32 ((167772160+0*65536:Nat):Int),.int .i64 16]] (Sort.grow (redrawn wr q) os) fun e w2=>e= .returned (.tuple #[.int .i64 z,.bool ok])/\Below (Sort.grow (redrawn wr q) os).heap.size (Sort.grow (redrawn wr q) os) w2:=fun q os=>hDr _ (next B.out (below_regrown wr q os))
       have c0:wr.cell? ⟨pb,0,none⟩=some (.int .u32 ((167772160+0*65536:Nat):Int)):=(S.out.2.held B.out).2.at_ 0;have c1:wr.cell? ⟨pb,1,none⟩=some (.int .i64 16):=(S.out.2.held B.out).2.at_ 1;have p0:=fun q os=>cell_regrown c0 q os
       have p1:=fun q os=>cell_regrown c1 q os
       have HZ:=Lib.hid hz;clear hRr hDr c0 c1 hz;go_upto_region 29 with fail;refine wp_region_quiet_below (by kernel_rfl) (by kernel_rfl) ?_
       repeat (go_big_quiet_step (first|(go_at_call 12; exact Calls.regrown_of (HRa _ _))|(go_at_call 13; exact Calls.regrown_of (HDa _ _))))
       refine wpQuiet_nil ?_;intro _ hw';obtain ⟨⟨dq,osq⟩,hw''⟩:=hw';subst hw'';have hB4:=next B.out (below_regrown wr dq osq);have hf:=(S.out.2.held hB4).1 i hi;have B4:=Lib.hid hB4;clear HRa HDa p0 p1 B hB4;generalize Sort.grow (redrawn wr dq) osq=wr4 at*;have hic:(i:Int)<(c:Int):=by omega
       by_cases hiT:i<=T
       ·have hz2:=HZ.out
        rw [if_pos hiT] at hz2;injection hz2 with e1 e2;subst e1 e2;have hiTz:(i:Int)<=(T:Int):=by omega
        clear HZ;go_wp2_with fail;go_roundw
        case rel=>exact ⟨i+1,by go_num,by omega,B4⟩
        case measure=>simp [intOf]; omega
       ·have hz2:=HZ.out
        rw [if_neg hiT] at hz2;injection hz2 with e1 e2;subst e1 e2;have hiTz:¬ ((i:Int)<=(T:Int)):=by omega
        clear HZ;go_wp2_with fail;go_roundw
        case rel=>exact ⟨i+1,by go_num,by omega,B4⟩
        case measure=>simp [intOf]; omega
      ·have hie:i=k:=by omega
       subst hie;have diz:decide ((i:Int)<(i:Int))=false:=decide_eq_false (by omega);clear hi hik;have HO:=g_off (by omega) (by omega) (S.out.1.held B.out);replace HO:Calls prog 10 #[.pointer (some ⟨N,0,none⟩),.int .i64 0,.agg #[.int .u32 ((167772160+0*65536:Nat):Int),.int .i64 16],.bool false] wr _:=HO;have c0:wr.cell? ⟨pb,0,none⟩=some (.int .u32 ((167772160+0*65536:Nat):Int)):=(S.out.2.held B.out).2.at_ 0;have c1:wr.cell? ⟨pb,1,none⟩=some (.int .i64 16):=(S.out.2.held B.out).2.at_ 1;have K:=Lib.hid (S.out.2.held B.out);go_upto_region 34 with (go_at_call 10; refine HO.mono ?_; rintro e w6 ⟨rfl,hA6,hL6⟩);have S6:=H2 hA6 (K.out.turn hL6);clear HO hA6 hL6 c0 c1 K B S;go_wp2_with fail;go_loopw [16] (fun v16 wr2=>∃ j:Nat,v16= .int .i64 (j:Nat)/\j<=30/\Hid (FtA w1 N i d (lnF cs) T 50 false (T+j) [g,pb] wr2/\Kp g pb i (lnF cs) wr2)) (fun x _=>30 - (intOf x).toNat)
       case atStart=>exact ⟨0,rfl,Nat.zero_le _,S6⟩
       case round=>
        clear S6;obtain ⟨j,rfl,hj,S⟩:=hrel;by_cases hlt:j<30
        ·have hkz:(j:Int)<30:=by omega
         have HR:=dp0 hFs hn8 hR1 (by omega) (by omega) (fun h=>by cases h) (fun _=>by omega) S.out.1;go_wp2_with (go_at_call 11; refine HR.mono ?_; rintro e w7 ⟨rfl,hA7,hL7⟩; have S7:=H2 hA7 (S.out.2.turn hL7); clear HR hA7 hL7 S);go_roundw
         case rel=>exact ⟨j+1,by go_num,by omega,S7⟩
         case measure=>simp [intOf]; omega
        ·have hj30:¬ ((j:Int)<30):=by omega
         have hTe:30<=j:=by omega
         clear hlt hj;go_wp2_with fail;go_loopw [17] (fun v17 wr3=>∃ q:Nat,v17= .int .i64 (q:Nat)/\q<=i/\Hid (Below wr.heap.size wr wr3)) (fun x _=>i - (intOf x).toNat)
         case atStart=>exact ⟨0,rfl,Nat.zero_le _,Lib.hid (.refl _ _)⟩
         case round=>
          obtain ⟨q,rfl,hqi,B⟩:=hrel;by_cases hq:q<i
          ·have hqz:(q:Int)<(i:Int):=by omega
           obtain ⟨Rr,hRr,hDr⟩:=dp1 hn8 S.out.1 hq (by omega);have HRa:∀ (x:Nat) (os:Array Obj),Calls prog 12 #[.pointer (some ⟨N,0,none⟩),.int .i64 q] (Sort.grow (redrawn wr x) os) fun e w2=>e= .returned (.pointer (some ⟨Rr,0,none⟩))/\Below (Sort.grow (redrawn wr x) os).heap.size (Sort.grow (redrawn wr x) os) w2:=fun x os=>hRr _ (next B.out (below_regrown wr x os))
           have HDa:∀ (x:Nat) (os:Array Obj),Calls prog 13 #[.pointer (some ⟨Rr,0,none⟩),.agg #[.int .u32 ((167772160+0*65536:Nat):Int),.int .i64 16]] (Sort.grow (redrawn wr x) os) fun e w2=>e= .returned (.tuple #[.int .i64 0,.bool false])/\Below (Sort.grow (redrawn wr x) os).heap.size (Sort.grow (redrawn wr x) os) w2:=fun x os=>hDr _ (next B.out (below_regrown wr x os))
           have c0:wr.cell? ⟨pb,0,none⟩=some (.int .u32 ((167772160+0*65536:Nat):Int)):=(S.out.2.held B.out).2.at_ 0;have c1:wr.cell? ⟨pb,1,none⟩=some (.int .i64 16):=(S.out.2.held B.out).2.at_ 1;have p0:=fun x os=>cell_regrown c0 x os
           have p1:=fun x os=>cell_regrown c1 x os
           clear hRr hDr c0 c1;go_upto_region 41 with fail;refine wp_region_quiet_below (by kernel_rfl) (by kernel_rfl) ?_
           repeat (go_big_quiet_step (first|(go_at_call 12; exact Calls.regrown_of (HRa _ _))|(go_at_call 13; exact Calls.regrown_of (HDa _ _))))
           refine wpQuiet_nil ?_;intro _ hw';obtain ⟨⟨dq,osq⟩,hw''⟩:=hw';subst hw'';have hB4:=next B.out (below_regrown wr dq osq);have hBd:=hB4.drew;have HW:=g_walk (S.out.1.held hBd) hn8 hq (by omega);have cd:(Sort.grow (redrawn wr dq) osq).drew.cell? ⟨pb,0,none⟩=some (.int .u32 ((167772160+0*65536:Nat):Int)):=(S.out.2.held hBd).2.at_ 0;have hK4:=S.out.2.held hB4;have B4:=Lib.hid hBd;clear HRa HDa p0 p1 B hB4 hK4 hBd;generalize Sort.grow (redrawn wr dq) osq=wr4 at*;go_upto_region 44 with fail;refine wp_region_held_drew (S:=fun u=>u.cell? ⟨pb,0,none⟩=some (.int .u32 ((167772160+0*65536:Nat):Int))) (by kernel_rfl) cd (fun hHeld=>?_);generalize wr4.drew=wd at*;refine tk 0 (.pointer (some ⟨N,0,none⟩)) rfl hHeld ?_;go_frame;refine tk 2 (.int .i64 (q:Nat)) rfl hHeld ?_;go_frame;refine tk 3 (.pointer (some ⟨pb,0,none⟩)) rfl hHeld ?_;go_frame;refine tk 4 (.int .u32 ((167772160+0*65536:Nat):Int)) rfl hHeld ?_;go_frame;refine rl 1 rfl fun K hK=>?_
           go_simp;refine HW.mono ?_;rintro e w5 ⟨gF,rfl,hb5,hW5⟩;have c5:=held hb5 cd;have B5:=Lib.hid (next B4.out hb5);have H5:=hW5 _ (.refl _ _);clear HW hW5 hb5 B4;refine hK.out _ _ c5 (fun hHeld=>?_);clear hK K;try go_frame
           refine rl 5 rfl fun K hK=>?_
           go_simp;refine H5.mono ?_;rintro e w6 ⟨vP,rfl,hb6⟩;have c6:=held hb6 c5;have B6:=Lib.hid (next B5.out hb6);clear H5 hb6 B5 c5;refine hK.out _ _ c6 (fun hHeld=>?_);clear hK K;try go_frame
           refine tk 6 (.tuple #[vP,.int .i64 3,.bool true]) rfl hHeld ?_;go_frame;refine tk 7 (vP) rfl hHeld ?_;go_frame;refine tk 8 (.int .i64 3) rfl hHeld ?_;go_frame;refine tk 9 (.bool true) rfl hHeld ?_;go_frame;refine rl 10 rfl fun K hK=>?_
           go_simp;refine hK.out _ _ c6 (fun hHeld=>?_);clear hK K;try go_frame
           refine rl 11 rfl fun K hK=>?_
           go_simp;refine hK.out _ _ c6 (fun hHeld=>?_);clear hK K;try go_frame
           refine rl 12 rfl fun K hK=>?_
           go_simp;refine hK.out _ _ c6 (fun hHeld=>?_);clear hK K;try go_frame
           refine wpAnyH_done (by kernel_rfl) ?_ _;try go_frame
           clear hHeld;by_cases hqT:q<T
           ·have hqTz:(q:Int)<(T:Int):=by omega
            go_wp2_with fail;go_roundw
            case rel=>exact ⟨q+1,by go_num,by omega,B6⟩
            case measure=>simp [intOf]; omega
           ·have hqTz:¬ ((q:Int)<(T:Int)):=by omega
            go_wp2_with fail;go_roundw
            case rel=>exact ⟨q+1,by go_num,by omega,B6⟩
            case measure=>simp [intOf]; omega
          ·have hie:q=i:=by omega
           subst hie;have diz:decide ((q:Int)<(q:Int))=false:=decide_eq_false (by omega);have hbe:=next S.out.1.below B.out;have hbE:=Lib.hid (next HB1.out hbe);clear hq hqi hbe;go_wp2_with fail;go_ret;exact ⟨rfl,hbE.out⟩
end
section
open Go.ChangeShapes Go.WideShapes Go.ChangeAt Go.RowKit Go.Joins Go.Deep
theorem cv7 (os:Os) (started:os.Started) (H:Type) (enc:TypeId×Value->H):
  ReturnsInHanded {} Tryz.checked os 3 .any (Rows.wholeLineSpec.pre6 enc prog Tryz.f3 Rows.wholeLineRow.domain false) (Rows.wholeLineSpec.post enc prog Tryz.f3 false true false false):=by
 refine returnsInHanded_of_change (C:=Tryz.checked) di5 started (by kernel_rfl) Tryz.func3
  (ChangeSpec.witness6 (enc:=enc) (C:=Tryz.checked) false ⟨#[],#[.int .i64 0,.int .i64 0,.slice none 0 0],[]⟩ 8 (by kernel_rfl) (by kernel_rfl) (by kernel_rfl) (by kernel_rfl)) ?_
 intro W base args ds gs before hval0 hW hcnd _;have hval:∀ (j:Nat) t v,Tryz.f3.params[j]?=some t->args[j]?=some v->Value.okWide prog W .any base t v:=hval0;obtain ⟨p,q,hA0,hV,rfl,hfz,hnd⟩:=id hW;have hA:DataW.TrodAll enc prog W 0 (fun _=>true) true Tryz.f3.params.toList args.toList ds p:=hA0;rw [Tryz.params3] at hA hval;obtain ⟨v0,vs0,d0,ds0,p0,q0,hargs,rfl,rfl,h0,r0⟩:=trodAll_cons hA;obtain ⟨v1,vs1,d1,ds1,p1,q1,rfl,rfl,rfl,h1,r1⟩:=trodAll_cons r0;obtain ⟨v2,vs2,d2,ds2,p2,q2,rfl,rfl,rfl,h2,r2⟩:=trodAll_cons r1;obtain ⟨rfl,rfl,rfl⟩:=trodAll_nil r2;obtain rfl:args=#[v0,v1,v2]:=by cases args; simp_all
 obtain ⟨a,rfl,-,-,-⟩:=open_int Tryz.underlying3 (hval 0 3 v0 rfl rfl) h0;obtain ⟨b,rfl,-,-,-⟩:=open_int Tryz.underlying3 (hval 1 3 v1 rfl rfl) h1;obtain ⟨a2,len2,cap2,rfl⟩:=okWide_slice Tryz.underlying22 (hval 2 22 v2 rfl rfl);obtain ⟨fuel2,hf2⟩:=h2;obtain ⟨cs,hC⟩:=open_ints hf2;refine (do8 a b W hC).mono fun e W' ⟨he,hb⟩=>?_
 subst he;exact ⟨_,rfl,di1 da6 (by rw [Tryz.params3]; decide+kernel) rfl Tryz.underlying4 rfl rfl hW hb⟩
theorem wholeLine_holds:Rows.WholeLineSaid:=
 OpenClaim.holds_of_wide 3 Tryz.f3 rfl rfl rfl rfl rfl rfl rfl ⟨rfl,rfl,rfl,rfl,rfl⟩ rfl rfl rfl rfl rfl (by kernel_rfl) Tryz.func3 cv8
  (of_decide_eq_true (by kernel_rfl)) (by unfold Func.isWrapper; first|(rw [if_pos (by decide+kernel)]; kernel_rfl)|(rw [if_neg (by decide+kernel)]; exact ⟨rfl,rfl⟩))
  (fun os started H enc _=>cv7 os started H enc)
#print axioms wholeLine_holds
end
end Go.Proofs.YtlklghedfaeepaaGreat
