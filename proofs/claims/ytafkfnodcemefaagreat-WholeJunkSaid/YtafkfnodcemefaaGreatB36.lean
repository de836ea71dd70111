import Derived.Test.YtafkfnodcemefaaGreatB35
set_option maxHeartbeats 8000000
set_option maxRecDepth 100000
namespace Go.Proofs.YtafkfnodcemefaaGreat
open _root_.Go.Proofs.Tryz (prog)
section
open Go.RowKit Go.Maps Rm
attribute [local go_sem] Oper.semAt_some
noncomputable def Mr.coveredG (M:Mr) (J:Jm) (a:Nat) (len:Int) (id seq met:Nat):Bool×Jm×Mr:=
 if cov (M.sm.floor ⟨a,len,id⟩) seq met=true then (true,J,M)
 else
  let x:=J.append M.id M.sm ⟨4,0,0,id,a,len,false,seq,met⟩
  (x.1==0,x.2.1,{ M with sm:=x.2.2 })
theorem de5 {F:List Nat} {w:World} {R sp:Nat} {J:Jm} {M:Mr} (h:Gz F w R J sp M) {a:Nat} {len:Int} (hp:Pk.ok ⟨a,len⟩) {id seq met:Nat} (hi:id<4294967296) (hs:seq<4294967296) (hm:met<65536) (hr:met≠65535->right ⟨4,0,0,id,a,len,false,seq,met⟩=true):
  Q 152 #[Pt R,.agg #[U a,I len,U id,U seq,V met]] w fun e w'=>e= .returned (O (M.coveredG J a len id seq met).1)/\Goeg F w R (M.coveredG J a len id seq met).2.1 sp (M.coveredG J a len id seq met).2.2 w':=by
 obtain ⟨Y,hY⟩:=ey (M.coveredG J a len id seq met);rw [hY];have HY:=Zq hY;clear hY;obtain ⟨q,hq⟩:=ey (cov (M.sm.floor ⟨a,len,id⟩) seq met);obtain ⟨hb,UB⟩:=nw w 71 #[U a,I len,U id,U seq,V met];have h1:=h.held hb;go_enter Tryz.func152,Tryz.ntmps152;go_upto_region 1 with fail;generalize w.alloc _=W at*;have hS:∀ (d:Nat) (os:Array Obj),Q 24 #[Pt R] (Sort.grow (redrawn W d) os) fun e w'=>e= .returned (Pt R)/\Below (Sort.grow (redrawn W d) os).heap.size (Sort.grow (redrawn W d) os) w':=fun d os=>by
  obtain ⟨o,fl,tb,j,N,n,hR⟩:=(h1.held (below_regrown W d os)).rr;exact ac4 hR
 have hO:∀ (d:Nat) (os:Array Obj),Q 173 #[Pt R,.agg #[U a,I len,U id],.agg #[U seq,V met]] (Sort.grow (redrawn W d) os) fun e w'=>e= .returned (O q)/\Below (Sort.grow (redrawn W d) os).heap.size (Sort.grow (redrawn W d) os) w':=fun d os=>by
  obtain ⟨o,fl,tb,j,N,n,hR⟩:=(h1.held (below_regrown W d os)).rr;obtain ⟨cn,cm,hnm,hS⟩:=hR.nt;rw [<- hq];exact bz9 hS ⟨a,len,id⟩ ⟨hp.1,hp.2,hi⟩ seq met
 have u0:=cell_regrown (UB.at_ 0);have u1:=cell_regrown (UB.at_ 1);have u2:=cell_regrown (UB.at_ 2);have u3:=cell_regrown (UB.at_ 3);have u4:=cell_regrown (UB.at_ 4);have X:=H6 h hb UB h1 hq hr;clear h hb UB h1 hq hr;refine wp_region_quiet_below kr kr ?_
 repeat (go_big_quiet_step (first|(go_at_call 24; exact Calls.regrown_of (hS _ _))|(go_at_call 173; exact Calls.regrown_of (hO _ _))))
 refine wpQuiet_nil ?_;intro _ hw';obtain ⟨⟨dq,osq⟩,hw''⟩:=hw';subst hw'';have hbr:=below_regrown W dq osq;have hbz:=X.out.2.1.trans (hbr.mono X.out.2.1.size);clear hS hO u0 u1 u2 u3 u4
 cases q with
 |true=>
  clear hbr;go_wp2_with fail;go_ret;have e1:(true,J,M)=Y:=by rw [<- HY.out]; unfold Mr.coveredG; rw [if_pos X.out.2.2.2.2.1]
  subst e1;exact ⟨rfl,Goeg.stay X.out.1 hbz⟩
 |false=>
  have hmet:met≠65535:=fun e=>by
   have:=X.out.2.2.2.2.1;rw [e] at this;unfold cov at this;simp at this
  have hrt:=X.out.2.2.2.2.2 hmet;have hfit:(⟨4,0,0,id,a,len,false,seq,met⟩:Rc).Fits:=⟨by show (-9223372036854775808:Int)<=4; decide,by show (4:Int)<=9223372036854775807; decide,by show 0<4294967296; omega,by show 0<4294967296; omega,hi,hp.1,hp.2.1,hp.2.2,hs,hm⟩;have UB2:=(X.out.2.2.1.held hbr).drew;obtain ⟨AX,hAX⟩:=ey (J.append M.id M.sm ⟨4,0,0,id,a,len,false,seq,met⟩);have HA:Q 82 #[Pt R,.agg #[I 4,U 0,U 0,U id,U a,I len,O false,U seq,V met]] (Sort.grow (redrawn W dq) osq).drew _:=bg8 ((X.out.2.2.2.1.held hbr).held (Below.refl _ _).drew) hfit hrt (by decide) hAX;have E:=Zq (show (AX.1==0,AX.2.1,{ M with sm:=AX.2.2 })=Y by rw [<- HY.out]; unfold Mr.coveredG; rw [if_neg (by rw [X.out.2.2.2.2.1]; decide)]; simp only [hAX]);clear hAX;generalize Sort.grow (redrawn W dq) osq=W2 at*;have hbF:w.heap.size∉F:=fun hx=>by have:=X.out.1.lt hx; omega
  have u0:W2.drew.cell? (Aa w.heap.size 0)=some (U a):=UB2.at_ 0;have u1:W2.drew.cell? (Aa w.heap.size 1)=some (I len):=UB2.at_ 1;have u2:W2.drew.cell? (Aa w.heap.size 2)=some (U id):=UB2.at_ 2;have u3:W2.drew.cell? (Aa w.heap.size 3)=some (U seq):=UB2.at_ 3;have u4:W2.drew.cell? (Aa w.heap.size 4)=some (V met):=UB2.at_ 4;have Z:=Zq hbz;clear hbr hbz hrt hfit UB2 hmet;go_upto_region 3 with fail;refine wp_region_held_drew (S:=fun u=>u.cell? (Aa w.heap.size 0)=some (U a)/\u.cell? (Aa w.heap.size 1)=some (I len)/\u.cell? (Aa w.heap.size 2)=some (U id)/\u.cell? (Aa w.heap.size 3)=some (U seq)/\u.cell? (Aa w.heap.size 4)=some (V met)) kr ⟨u0,u1,u2,u3,u4⟩ (fun hHeld=>?_);refine tk 0 (Pt R) rfl hHeld ?_;go_frame;refine tk 1 (Pt R) rfl hHeld ?_;go_frame;refine tk 2 (Pt R) rfl hHeld ?_;go_frame;refine tk 3 (Qt w.heap.size 2) rfl hHeld ?_;go_frame;refine tk 4 (U id) rfl hHeld ?_;go_frame;refine tk 5 (Pt w.heap.size) rfl hHeld ?_;go_frame;refine tk 6 (.agg #[U a,I len]) rfl hHeld ?_;go_frame;refine tk 7 (Qt w.heap.size 3) rfl hHeld ?_;go_frame;refine tk 8 (.agg #[U seq,V met]) rfl hHeld ?_;go_frame;refine tk 9 (.agg #[I 4,U 0,U 0,U id,U a,I len,O false,U seq,V met]) rfl hHeld ?_;go_frame;refine rl 10 rfl fun K hK=>?_
  go_simp;refine HA.mono ?_;rintro e w4 ⟨rfl,hG⟩;obtain ⟨F4,hz4,t4,n4⟩:=hG;refine hK.out _ _ ⟨t4.cell u0 hbF,t4.cell u1 hbF,t4.cell u2 hbF,t4.cell u3 hbF,t4.cell u4 hbF⟩ (fun hHeld=>?_);have s0:=t4.cell u0 hbF;have s1:=t4.cell u1 hbF;have s2:=t4.cell u2 hbF;have s3:=t4.cell u3 hbF;have s4:=t4.cell u4 hbF;clear hK K HA u0 u1 u2 u3 u4;have hG3:Goeg F w R _ sp _ w4:=Goeg.before Z.out.drew ⟨F4,hz4,t4,n4⟩;have G:=Zq hG3;clear hz4 t4 n4 hG3;refine tk 11 (O (AX.1==0)) rfl hHeld ?_;go_frame;refine rl 12 rfl fun K hK=>?_
  go_simp;refine hK.out _ _ ⟨s0,s1,s2,s3,s4⟩ (fun hHeld=>?_);clear hK K;refine wpAnyH_done kr ?_ _;try go_frame
  clear s0 s1 s2 s3 s4 hHeld;go_wp2_with fail;go_ret;have e1:=E.out;subst e1;exact ⟨rfl,G.out⟩
noncomputable def Mr.leasedG (M:Mr) (J:Jm) (s:Nat):Bool×Jm×Mr:=
 if s<=M.sm.lease then (true,J,M)
 else
  let x:=J.append M.id M.sm ⟨3,0,0,0,0,0,false,min (s+7) 1073741824,0⟩
  (x.1==0,x.2.1,{ M with sm:=x.2.2 })
theorem bg5 {F:List Nat} {w:World} {R sp:Nat} {J:Jm} {M:Mr} {s:Nat} (h:Gz F w R J sp M) (hs:s<=1073741824):
  Kc 117 #[K R,U s] w fun e w'=>e= .returned (O (M.leasedG J s).1)/\Goeg F w R (M.leasedG J s).2.1 sp (M.leasedG J s).2.2 w':=by
 obtain ⟨Y,hY⟩:∃ Y,M.leasedG J s=Y:=⟨_,rfl⟩;rw [hY];have HY:=Lib.hid hY;clear hY;obtain ⟨o,fl,tb,j,N,n,hR⟩:=h.rr;have HS:=ac4 hR;have X:=Lib.hid h;clear h hR;go_enter Tryz.func117,Tryz.ntmps117;go_wp2_with fail;refine HS.mono ?_;rintro e w2 ⟨rfl,hb2⟩;obtain ⟨o2,fl2,tb2,j2,N2,n2,hR2⟩:=(X.out.held hb2).rr;obtain ⟨cn,cm,hnm,hSt⟩:=hR2.nt;have HL:=an8 hSt;clear hR2 hSt HS;go_wp2_with fail;refine HL.mono ?_;rintro e w3 ⟨rfl,rfl⟩;clear HL;by_cases hq:s<=M.sm.lease
 ·have d1:decide (s<=M.sm.lease)=true:=decide_eq_true hq
  have E:=Lib.hid (show (true,J,M)=Y by rw [<- HY.out]; unfold Mr.leasedG; rw [if_pos hq]);have B:=Lib.hid hb2;have Q:=Lib.hid hq;clear hq hb2;go_wp2_with fail;go_ret;have e1:=E.out;subst e1;exact ⟨rfl,Goeg.stay X.out B.out⟩
 ·have d1:decide (s<=M.sm.lease)=false:=decide_eq_false hq
  obtain ⟨AX,hAX⟩:∃ AX,J.append M.id M.sm ⟨3,0,0,0,0,0,false,min (s+7) 1073741824,0⟩=AX:=⟨_,rfl⟩;have E:=Lib.hid (show (AX.1==0,AX.2.1,{ M with sm:=AX.2.2 })=Y by rw [<- HY.out]; unfold Mr.leasedG; rw [if_neg hq]; simp only [hAX]);obtain ⟨z,hz⟩:∃ z,min (s+7) 1073741824=z:=⟨_,rfl⟩;have hz2:z<=1073741824:=by omega
  have hmin:min ((s:Int)+8 - 1) 1073741824=(z:Int):=by omega
  have h2:Gz F w2 R J sp M:=X.out.held hb2;rw [hz] at hAX;have B:=H3 hb2 h2 hz2;clear hq hb2 h2 hz;go_upto_region 4 with fail;have HA:=bg8 B.out.2.1 (k:=3) (g:=0) (l:=0) (rid:=0) (a:=0) (rn:=0) (on:=false) (s:=z) (m:=0) ⟨by show (-9223372036854775808:Int)<=3; decide,by show (3:Int)<=9223372036854775807; decide,by show 0<4294967296; omega,by show 0<4294967296; omega,by show 0<4294967296; omega,by show 0<4294967296; omega,by show (-9223372036854775808:Int)<=0; decide,by show (0:Int)<=9223372036854775807; decide,by show z<4294967296; omega,by show 0<65536; omega⟩ (bm2 z hz2) (by decide) hAX;clear hAX;try rw [hmin]
  clear hmin d1;go_wp2_with fail;refine HA.mono ?_;rintro e w4 ⟨rfl,hG⟩;have hG3:=Goeg.before B.out.1 hG;have G:=Lib.hid hG3;clear HA hG hG3;go_wp2_with fail;go_ret;have e1:=E.out;subst e1;exact ⟨rfl,G.out⟩
theorem Gz.good {F:List Nat} {w:World} {R sp:Nat} {J:Jm} {M:Mr} (h:Gz F w R J sp M):GoodSm M.sm:=by
 obtain ⟨o,fl,tb,N,n,S,Mp,hF',hR,hD,hd,hJ,hNl,hgood,h5⟩:=h.ex;exact hgood
theorem al1 (M:Mr) (J:Jm) (s:Nat):(M.leasedG J s).2.2.id=M.id/\(M.leasedG J s).2.2.f=M.f/\(M.leasedG J s).2.2.c=M.c/\(M.leasedG J s).2.2.now=M.now/\(M.leasedG J s).2.2.seq=M.seq/\(M.leasedG J s).2.2.since=M.since:=by unfold Mr.leasedG; split<;>exact ⟨rfl,rfl,rfl,rfl,rfl,rfl⟩
noncomputable def Mr.advanceG (M:Mr) (J:Jm):Jm×Mr:=
 if M.seq≠0/\M.now - M.since<12 then (J,M)
 else if M.next<=1073741824 then (if (M.leasedG J M.next).1=true then ((M.leasedG J M.next).2.1,{ (M.leasedG J M.next).2.2 with seq:=M.next,since:=M.now }) else (M.leasedG J M.next).2)
 else (J,M)
theorem de9 {F:List Nat} {w:World} {R sp:Nat} {J:Jm} {M:Mr} (h:Gz F w R J sp M):
  Q 85 #[K R] w fun e w'=>e= .returned (.tuple #[])/\Goeg F w R (M.advanceG J).1 sp (M.advanceG J).2 w':=by
 have hl:=h.good.lease;obtain ⟨o,fl,tb,j,N,n,hR⟩:=h.rr;have hF:=h.fits;have hn1:=hF.now;have hn2:=hF.since;have hn3:=hF.seq;have c0:w.cell? (Y R 19)=some (I M.now):=hR.head.at_ 19;have c1:w.cell? (Y R 20)=some (U M.seq):=hR.head.at_ 20;have c2:w.cell? (Y R 21)=some (I M.since):=hR.head.at_ 21;have r0:=cell_regrown c0;have r1:=cell_regrown c1;have r2:=cell_regrown c2;have X:=Lib.hid h;clear h hR hF c0 c1 c2;obtain ⟨q0,hq0⟩:∃ q,((M.seq:Int) !=0)=q:=⟨_,rfl⟩;have e0:M.seq≠0↔q0=true:=by rw [<- hq0,bne_iff_ne]; omega
 have E0:=Lib.hid e0;clear e0
 cases q0 with
 |false=>
  have hs0:M.seq=0:=by rcases Nat.eq_zero_or_pos M.seq with h|h; exact h; have:=E0.out.1 (by omega); cases this
  have E:=Lib.hid (show M.advanceG J=if M.next<=1073741824 then (if (M.leasedG J M.next).1=true then ((M.leasedG J M.next).2.1,{ (M.leasedG J M.next).2.2 with seq:=M.next,since:=M.now }) else (M.leasedG J M.next).2) else (J,M) by unfold Mr.advanceG; rw [if_neg (fun h=>h.1 hs0)]);have nx:=Lib.hid (show M.next=M.sm.lease+1 by unfold Mr.next; rw [if_pos hs0]);go_enter Tryz.func85,Tryz.ntmps85;go_upto_region 0 with fail;refine wp_region_quiet_below (by kernel_rfl) (by kernel_rfl) ?_
  repeat (go_big_quiet_step (fail))
  refine wpQuiet_nil ?_;intro _ hw';obtain ⟨⟨dq,osq⟩,hw''⟩:=hw';subst hw'';have B:=Lib.hid (below_regrown w dq osq);have c1:=r1 dq osq;clear r0 r1 r2;generalize Sort.grow (redrawn w dq) osq=W at*;obtain ⟨o2,fl2,tb2,j2,N2,nn2,hR2⟩:=(X.out.held B.out).rr;have HS:=ac4 hR2;clear hR2;obtain ⟨z,hz⟩:∃ z,M.sm.lease+1=z:=⟨_,rfl⟩;have NX:Hid (M.next=z):=Lib.hid (nx.out.trans hz);have hzz:(M.sm.lease:Int)+1=(z:Int):=by omega
  clear nx hz;go_wp2_with fail;refine HS.mono ?_;rintro e w3 ⟨rfl,hb3⟩;have hb4:=next B.out hb3;obtain ⟨o3,fl3,tb3,j3,N3,nn3,hR3⟩:=(X.out.held hb4).rr;obtain ⟨cn,cm,hnm,hSt⟩:=hR3.nt;have HLe:=an8 hSt;have B2:=H2 hb4 (X.out.held hb4);clear hR3 hSt HS hb3 hb4 c1;go_wp2_with fail;refine HLe.mono ?_;rintro e w3' ⟨rfl,rfl⟩;clear HLe;go_upto_region 4 with fail;try rw [hzz]
  clear hzz;by_cases hle:z<=1073741824
  ·have d4:decide ((z:Int)<=1073741824)=true:=decide_eq_true (by omega)
   have hzl:=B2.out.2;have HL:=bg5 hzl hle;clear hzl;have HLE:=Lib.hid hle;have E2:=Lib.hid (show M.advanceG J=(if (M.leasedG J z).1=true then ((M.leasedG J z).2.1,{ (M.leasedG J z).2.2 with seq:=z,since:=M.now }) else (M.leasedG J z).2) by rw [E.out,NX.out,if_pos hle]);have L4:=al1 M J z;obtain ⟨LX,hLX⟩:∃ x,M.leasedG J z=x:=⟨_,rfl⟩;rw [hLX] at HL E2 L4;clear hLX;obtain ⟨lb,LJ,LM⟩:=LX;simp only at HL E2 L4
   cases lb with
   |false=>
    clear hle;go_wp2_with fail;refine HL.mono ?_;rintro e w4 ⟨rfl,hG⟩;have G:=Lib.hid (Goeg.before B2.out.1 hG);clear HL hG;go_wp2_with fail;refine bodyPost_end (v:= .tuple #[]) (results_none rfl _ _ _) rfl ⟨rfl,by rw [E2.out,if_neg (by decide)]; exact G.out⟩
   |true=>
    clear hle;go_wp2_with fail;refine HL.mono ?_;rintro e w4 ⟨rfl,hG⟩;obtain ⟨F4,hz4,t4,n4⟩:=Goeg.before B2.out.1 hG;obtain ⟨o4,fl4,tb4,j4,N4,nn4,hR4⟩:=hz4.rr;have a0:w4.cell? (Y R 19)=some (I M.now):=by have:=hR4.head.at_ 19; rw [<- L4.2.2.2.1]; exact this
    have a1:=hR4.head.at_ 20;have a2:=hR4.head.at_ 21;have a3:w4.cell? (Y R 20)=some (U LM.seq):=a1;have a4:w4.cell? (Y R 21)=some (I LM.since):=a2;have f1:=hR4.head.free 20;have f2:=hR4.head.free 21;have Z:=H4 hz4 t4 n4 L4;clear HL hG hz4 t4 n4 hR4 a1 a2 L4;go_wp2_with fail;have hG5:Goeg F4 w4 R LJ sp { LM with seq:=z,since:=M.now } _:=Z.out.1.of_head (M':={ LM with seq:=z,since:=M.now }) (fun o fl j tb hb=>by
      have:=(hb.store 20 (U z)).store 21 (I M.now);rw [au0] at this;exact this) rfl rfl ((Turn.setCell _ (by simp) _).trans (Turn.setCell _ (by simp) _)) ⟨Z.out.1.fits.id,Z.out.1.fits.f,Z.out.1.fits.c,Z.out.1.fits.now,HLE.out,hn1.1,by show M.now<=LM.now; rw [Z.out.2.2.2.2.2.2.1]; exact Int.le_refl _⟩
    have hG6:=Goeg.trans Z.out.2.1 Z.out.2.2.1 hG5;refine bodyPost_end (v:= .tuple #[]) (results_none rfl _ _ _) rfl ⟨rfl,by rw [E2.out]; simp only [if_true]; exact hG6⟩
  ·have d4:decide ((z:Int)<=1073741824)=false:=decide_eq_false (by omega)
   have E2:=Lib.hid (show M.advanceG J=(J,M) by rw [E.out,NX.out,if_neg hle]);have HNL:=Lib.hid hle;clear hle;go_wp2_with fail;have hz0:=X.out;refine bodyPost_end (v:= .tuple #[]) (results_none rfl _ _ _) rfl ⟨rfl,by rw [E2.out]; exact Goeg.stay hz0 B2.out.1⟩
 |true=>
  by_cases hd:M.now - M.since<12
  ·have d1:decide (M.now - M.since<12)=true:=decide_eq_true hd
   have E:=Lib.hid (show M.advanceG J=(J,M) by unfold Mr.advanceG; rw [if_pos ⟨E0.out.2 (by trivial),hd⟩]);have XX:=X;clear hd;go_enter Tryz.func85,Tryz.ntmps85;go_upto_region 0 with fail;refine wp_region_quiet_below (by kernel_rfl) (by kernel_rfl) ?_
   repeat (go_big_quiet_step (fail))
   refine wpQuiet_nil ?_;intro _ hw';obtain ⟨⟨dq,osq⟩,hw''⟩:=hw';subst hw'';have B:=Lib.hid (below_regrown w dq osq);have c1:=r1 dq osq;clear r0 r1 r2;generalize Sort.grow (redrawn w dq) osq=W at*;go_wp2_with fail;refine bodyPost_ret (results_none rfl _ _ _) rfl ⟨rfl,by rw [E.out]; exact Goeg.stay XX.out B.out⟩
  ·have d1:decide (M.now - M.since<12)=false:=decide_eq_false hd
   have hs0:M.seq≠0:=E0.out.2 (by trivial);have E:=Lib.hid (show M.advanceG J=if M.next<=1073741824 then (if (M.leasedG J M.next).1=true then ((M.leasedG J M.next).2.1,{ (M.leasedG J M.next).2.2 with seq:=M.next,since:=M.now }) else (M.leasedG J M.next).2) else (J,M) by unfold Mr.advanceG; rw [if_neg (fun h=>hd h.2)]);have nx:=Lib.hid (show M.next=M.seq+1 by unfold Mr.next; rw [if_neg hs0]);clear hd;go_enter Tryz.func85,Tryz.ntmps85;go_upto_region 0 with fail;refine wp_region_quiet_below (by kernel_rfl) (by kernel_rfl) ?_
   repeat (go_big_quiet_step (fail))
   refine wpQuiet_nil ?_;intro _ hw';obtain ⟨⟨dq,osq⟩,hw''⟩:=hw';subst hw'';have B:=Lib.hid (below_regrown w dq osq);have c1:=r1 dq osq;clear r0 r1 r2;generalize Sort.grow (redrawn w dq) osq=W at*;obtain ⟨z,hz⟩:∃ z,M.seq+1=z:=⟨_,rfl⟩;have NX:Hid (M.next=z):=Lib.hid (nx.out.trans hz);have hzz:(M.seq:Int)+1=(z:Int):=by omega
   have B2:=H2 B.out (X.out.held B.out);clear nx hz;go_upto_region 4 with fail;try rw [hzz]
   clear hzz c1;by_cases hle:z<=1073741824
   ·have d4:decide ((z:Int)<=1073741824)=true:=decide_eq_true (by omega)
    have hzl:=B2.out.2;have HL:=bg5 hzl hle;clear hzl;have HLE:=Lib.hid hle;have E2:=Lib.hid (show M.advanceG J=(if (M.leasedG J z).1=true then ((M.leasedG J z).2.1,{ (M.leasedG J z).2.2 with seq:=z,since:=M.now }) else (M.leasedG J z).2) by rw [E.out,NX.out,if_pos hle]);have L4:=al1 M J z;obtain ⟨LX,hLX⟩:∃ x,M.leasedG J z=x:=⟨_,rfl⟩;rw [hLX] at HL E2 L4;clear hLX;obtain ⟨lb,LJ,LM⟩:=LX;simp only at HL E2 L4
    cases lb with
    |false=>
     clear hle;go_wp2_with fail;refine HL.mono ?_;rintro e w4 ⟨rfl,hG⟩;have G:=Lib.hid (Goeg.before B2.out.1 hG);clear HL hG;go_wp2_with fail;refine bodyPost_end (v:= .tuple #[]) (results_none rfl _ _ _) rfl ⟨rfl,by rw [E2.out,if_neg (by decide)]; exact G.out⟩
    |true=>
     clear hle;go_wp2_with fail;refine HL.mono ?_;rintro e w4 ⟨rfl,hG⟩;obtain ⟨F4,hz4,t4,n4⟩:=Goeg.before B2.out.1 hG;obtain ⟨o4,fl4,tb4,j4,N4,nn4,hR4⟩:=hz4.rr;have a0:w4.cell? (Y R 19)=some (I M.now):=by have:=hR4.head.at_ 19; rw [<- L4.2.2.2.1]; exact this
     have a1:=hR4.head.at_ 20;have a2:=hR4.head.at_ 21;have a3:w4.cell? (Y R 20)=some (U LM.seq):=a1;have a4:w4.cell? (Y R 21)=some (I LM.since):=a2;have f1:=hR4.head.free 20;have f2:=hR4.head.free 21;have Z:=H4 hz4 t4 n4 L4;clear HL hG hz4 t4 n4 hR4 a1 a2 L4;go_wp2_with fail;have hG5:Goeg F4 w4 R LJ sp { LM with seq:=z,since:=M.now } _:=Z.out.1.of_head (M':={ LM with seq:=z,since:=M.now }) (fun o fl j tb hb=>by
       have:=(hb.store 20 (U z)).store 21 (I M.now);rw [au0] at this;exact this) rfl rfl ((Turn.setCell _ (by simp) _).trans (Turn.setCell _ (by simp) _)) ⟨Z.out.1.fits.id,Z.out.1.fits.f,Z.out.1.fits.c,Z.out.1.fits.now,HLE.out,hn1.1,by show M.now<=LM.now; rw [Z.out.2.2.2.2.2.2.1]; exact Int.le_refl _⟩
     have hG6:=Goeg.trans Z.out.2.1 Z.out.2.2.1 hG5;refine bodyPost_end (v:= .tuple #[]) (results_none rfl _ _ _) rfl ⟨rfl,by rw [E2.out]; simp only [if_true]; exact hG6⟩
   ·have d4:decide ((z:Int)<=1073741824)=false:=decide_eq_false (by omega)
    have E2:=Lib.hid (show M.advanceG J=(J,M) by rw [E.out,NX.out,if_neg hle]);have HNL:=Lib.hid hle;clear hle;go_wp2_with fail;have hz0:=X.out;refine bodyPost_end (v:= .tuple #[]) (results_none rfl _ _ _) rfl ⟨rfl,by rw [E2.out]; exact Goeg.stay hz0 B2.out.1⟩
end
section
open Go.RowKit Go.Maps Rm Fm Sb
noncomputable def Mr.tell1G (M:Mr) (J:Jm) (e:En):List T.Tm.Up×Jm×Mr:=
 if M.owns ⟨e.a,e.n⟩=true then (if M.seq=0 then [] else [⟨e.a,e.n,M.id,M.seq,0⟩],J,M)
 else match M.pick e.a e.n with
  |some r=>(if (M.coveredG J e.a e.n r.id r.seq (M.farN r)).1=true then [⟨e.a,e.n,r.id,r.seq,M.farN r⟩] else [],(M.coveredG J e.a e.n r.id r.seq (M.farN r)).2)
  |none=>(if e.on=true then [⟨e.a,e.n,0,0,65535⟩] else [],J,M)
noncomputable def Mr.tellSG (M:Mr) (J:Jm):List En->List T.Tm.Up×Jm×Mr
 |[]=>([],J,M)
 |e::r=>((M.tell1G J e).1++((M.tell1G J e).2.2.tellSG (M.tell1G J e).2.1 r).1,((M.tell1G J e).2.2.tellSG (M.tell1G J e).2.1 r).2)
theorem Mr.tellSG_snoc (l:List En) (e:En):∀ (M:Mr) (J:Jm),M.tellSG J (l++[e])=((M.tellSG J l).1++((M.tellSG J l).2.2.tell1G (M.tellSG J l).2.1 e).1,((M.tellSG J l).2.2.tell1G (M.tellSG J l).2.1 e).2):=by
 induction l with
 |nil=>intro M J; simp [Mr.tellSG]
 |cons x r ih=>intro M J; simp [Mr.tellSG,ih,List.append_assoc]
theorem Mr.tell1G_own {M:Mr} {J:Jm} {e:En} (h:M.owns ⟨e.a,e.n⟩=true):M.tell1G J e=(if M.seq=0 then [] else [⟨e.a,e.n,M.id,M.seq,0⟩],J,M):=by unfold Mr.tell1G; rw [if_pos h]
theorem Mr.tell1G_way {M:Mr} {J:Jm} {e:En} {r:Rt} (h:M.owns ⟨e.a,e.n⟩=false) (hp:M.pick e.a e.n=some r):M.tell1G J e=(if (M.coveredG J e.a e.n r.id r.seq (M.farN r)).1=true then [⟨e.a,e.n,r.id,r.seq,M.farN r⟩] else [],(M.coveredG J e.a e.n r.id r.seq (M.farN r)).2):=by unfold Mr.tell1G; rw [if_neg (by rw [h]; decide),hp]
theorem Mr.tell1G_none {M:Mr} {J:Jm} {e:En} (h:M.owns ⟨e.a,e.n⟩=false) (hp:M.pick e.a e.n=none):M.tell1G J e=(if e.on=true then [⟨e.a,e.n,0,0,65535⟩] else [],J,M):=by unfold Mr.tell1G; rw [if_neg (by rw [h]; decide),hp]
theorem Mr.coveredG_same (M:Mr) (J:Jm) (a:Nat) (n:Int) (i s m:Nat):(M.coveredG J a n i s m).2.2.id=M.id/\(M.coveredG J a n i s m).2.2.f=M.f/\(M.coveredG J a n i s m).2.2.c=M.c/\(M.coveredG J a n i s m).2.2.now=M.now/\(M.coveredG J a n i s m).2.2.seq=M.seq/\(M.coveredG J a n i s m).2.2.since=M.since/\(M.coveredG J a n i s m).2.2.d=M.d:=by unfold Mr.coveredG; split<;>exact ⟨rfl,rfl,rfl,rfl,rfl,rfl,rfl⟩
theorem Mr.tell1G_same (M:Mr) (J:Jm) (e:En):(M.tell1G J e).2.2.id=M.id/\(M.tell1G J e).2.2.f=M.f/\(M.tell1G J e).2.2.c=M.c/\(M.tell1G J e).2.2.now=M.now/\(M.tell1G J e).2.2.seq=M.seq/\(M.tell1G J e).2.2.since=M.since/\(M.tell1G J e).2.2.d=M.d:=by
 unfold Mr.tell1G;split
 ·exact ⟨rfl,rfl,rfl,rfl,rfl,rfl,rfl⟩
 ·split
  ·exact M.coveredG_same _ _ _ _ _ _
  ·exact ⟨rfl,rfl,rfl,rfl,rfl,rfl,rfl⟩
theorem Mr.tellSG_same (l:List En):∀ (M:Mr) (J:Jm),(M.tellSG J l).2.2.id=M.id/\(M.tellSG J l).2.2.f=M.f/\(M.tellSG J l).2.2.c=M.c/\(M.tellSG J l).2.2.now=M.now/\(M.tellSG J l).2.2.seq=M.seq/\(M.tellSG J l).2.2.since=M.since/\(M.tellSG J l).2.2.d=M.d:=by
 induction l with
 |nil=>intro M J; exact ⟨rfl,rfl,rfl,rfl,rfl,rfl,rfl⟩
 |cons e r ih=>
  intro M J;obtain ⟨a1,a2,a3,a4,a5,a6,a7⟩:=M.tell1G_same J e;obtain ⟨b1,b2,b3,b4,b5,b6,b7⟩:=ih (M.tell1G J e).2.2 (M.tell1G J e).2.1;exact ⟨b1.trans a1,b2.trans a2,b3.trans a3,b4.trans a4,b5.trans a5,b6.trans a6,b7.trans a7⟩
theorem Mr.tell1G_len (M:Mr) (J:Jm) (e:En):(M.tell1G J e).1.length<=1:=by
 unfold Mr.tell1G;split
 ·split<;>simp
 ·split
  ·split<;>simp
  ·split<;>simp
theorem Mr.tellSG_len (l:List En):∀ (M:Mr) (J:Jm),(M.tellSG J l).1.length<=l.length:=by
 induction l with
 |nil=>intro M J; simp [Mr.tellSG]
 |cons e r ih=>
  intro M J;have h1:=M.tell1G_len J e;have h2:=ih (M.tell1G J e).2.2 (M.tell1G J e).2.1;simp only [Mr.tellSG,List.length_append,List.length_cons];omega
end
section
open Go.RowKit Go.Maps Rm Fm Sb
attribute [local go_sem] Oper.semAt_some
def Upg (M:Mr) (J:Jm) (e:En) (x:T.Tm.Up) (ok:Bool):Prop:=(if ok=true then [x] else [])=(M.tell1G J e).1
theorem Goeg.put {F:List Nat} {w v w1 w2:World} {R:Nat} {r:Jm} {s:Nat} {M':Mr} (hb:Below w.heap.size w v) (hF:∀ y,y∈F->y<w.heap.size) (k:Goeg F v R r s M' w1) {L:List Nat} (t:Turn L w1 w2) (hL:∀ y,y∈L->w.heap.size<=y/\y<v.heap.size):Goeg F w R r s M' w2:=by
 obtain ⟨F2,h2,t2,n2⟩:=k;refine ⟨F2,h2.turn t (fun x hx hm=>?_),((Turn.of_below F hb).beyond t2 (fun _ h=> .inl h)).beyond t (fun y hy=> .inr (hL y hy).1),fun y hy=>?_⟩
 ·have:=hL x hm
  rcases n2 x hx with h|h
  ·have:=hF x h; omega
  ·omega
 ·rcases n2 y hy with h|h
  ·exact .inl h
  ·exact .inr (Nat.le_trans hb.size h)
theorem du2 {F:List Nat} {w:World} {R sp:Nat} {J:Jm} {M:Mr} {a:Nat} {n:Int} {on:Bool} (h:Gz F w R J sp M) (hG:M.Good) (hp:Pk.ok ⟨a,n⟩):
  Q 119 #[Pt R,.agg #[U a,I n,O on]] w fun e w'=>∃ x ok,e= .returned (.tuple #[.agg #[U x.a,I x.len,U x.id,U x.seq,Vv x.met],O ok])/\Upg M J ⟨a,n,on⟩ x ok/\Goeg F w R (M.tell1G J ⟨a,n,on⟩).2.1 sp (M.tell1G J ⟨a,n,on⟩).2.2 w':=by
 have hb:=next (aa0 w (.cells #[U a,I n,O on] 142)) (aa0 _ (.cells #[U 0,I 0,U 0,U 0,Vv 0] 71));have SB:=(Blk.new w 142 #[U a,I n,O on]).more (.cells #[U 0,I 0,U 0,U 0,Vv 0] 71);have UB:=Blk.new (w.alloc (.cells #[U a,I n,O on] 142)) 71 #[U 0,I 0,U 0,U 0,Vv 0];rw [aa1] at UB;have h1:=h.held hb;go_enter Tryz.func119,Tryz.ntmps119;go_upto_region 1 with fail;generalize (w.alloc (.cells #[U a,I n,O on] 142)).alloc (.cells #[U 0,I 0,U 0,U 0,Vv 0] 71)=W at*;obtain ⟨q,hq⟩:=ey (M.owns ⟨a,n⟩);obtain ⟨o,fl,tb,j,N,nn,hR⟩:=h1.rr;have HO:=ba7 hR hp;rw [hq] at HO;have s0:W.cell? (Aa w.heap.size 0)=some (U a):=SB.at_ 0;have s1:W.cell? (Aa w.heap.size 1)=some (I n):=SB.at_ 1;have hle0:=hb.size;have hRw:R<w.heap.size:=by
  obtain ⟨o,fl,tb,j,N,nn,hR0⟩:=h.rr;exact hR0.head.lt
 have hFw:∀ y,y∈F->y<w.heap.size:=fun y hy=>h.lt hy
 have HFw:=Zq hFw;have hbw1:w.heap.size+1<W.heap.size:=UB.lt;clear hFw;have X:=H8 h hb SB UB h1 hq hG hp;clear h hb SB UB h1 hq hG hp hR;generalize hbw:w.heap.size=b at*;have HBW:=Zq hbw;clear hbw
 cases q with
 |true=>
  go_upto_region 2 with (go_at_call 60; refine HO.mono ?_; rintro e w2 ⟨rfl,hb2⟩);have SB2:=X.out.2.2.1.held hb2;have UB2:=X.out.2.2.2.1.held hb2;have hz2:=X.out.2.2.2.2.1.held hb2;have hbz:=X.out.2.1.trans (hb2.mono hle0);have hbl:b+1<w2.heap.size:=UB2.lt;clear HO s0 s1 hb2;obtain ⟨o2,fl2,tb2,j2,N2,nn2,hR2⟩:=(hz2.held (Below.refl _ _).drew).rr;have hSt:∀ W',Below w2.drew.heap.size w2.drew W'->Q 24 #[Pt R] W' (Rr0 W' (Pt R)):=fun W' hb'=>ac4 (hR2.held hb')
  have hId:∀ W',Below w2.drew.heap.size w2.drew W'->Q 72 #[Pt R] W' (Rr0 W' (U M.id)):=fun W' hb'=>by
   obtain ⟨cn,cm,hnm,hS⟩:=(hR2.held hb').nt;exact (ci8 hS).mono fun e w' ⟨h1,h2⟩=>⟨h1,h2 ▸ .refl _ _⟩
  have B0:Below w2.drew.heap.size w2.drew w2.drew:=Below.refl _ _;replace SB2:=SB2.drew;replace UB2:=UB2.drew;replace hz2:=hz2.held (Below.refl _ _).drew;replace hbz:=hbz.drew;replace hbl:b+1<w2.drew.heap.size:=hbl;have t0:w2.drew.cell? (Aa b 0)=some (U a):=SB2.at_ 0;have t1:w2.drew.cell? (Aa b 1)=some (I n):=SB2.at_ 1;have t2:w2.drew.cell? (Aa R 20)=some (U M.seq):=hR2.head.at_ 20;have Y:=H7 SB2 UB2 hz2 hbz hSt hId B0;clear SB2 UB2 hz2 hbz hSt hId B0 hR2;refine wp_region_held_drew (S:=fun u=>u.cell? (Aa b 0)=some (U a)/\u.cell? (Aa b 1)=some (I n)/\u.cell? (Aa R 20)=some (U M.seq)) kr ⟨t0,t1,t2⟩ (fun hHeld=>?_);generalize w2.drew=v2 at*;refine tk 0 (Pt b) rfl hHeld ?_;go_frame;refine tk 1 (.agg #[U a,I n]) rfl hHeld ?_;go_frame;refine tk 2 (Pt R) rfl hHeld ?_;go_frame;refine tk 5 (Pt R) rfl hHeld ?_;go_frame;refine tk 6 (Pt R) rfl hHeld ?_;go_frame;refine tk 7 (Qt R 20) rfl hHeld ?_;go_frame;refine tk 8 (U M.seq) rfl hHeld ?_;go_frame;refine tk 9 (.agg #[U M.seq,Vv 0]) rfl hHeld ?_;go_frame;refine ad8 (i:=3) (i':=11) rfl rfl kr (fun K hK=>?br1) (fun K hK=>?br2)
  case' br1=>
   go_simp;refine (Y.out.2.2.2.2.1 _ Y.out.2.2.2.2.2.2).mono ?_;rintro e w3 ⟨rfl,hb3⟩;have B3:=Y.out.2.2.2.2.2.2.trans (hb3.mono Y.out.2.2.2.2.2.2.size);have e0:=held hb3 t0;have e1:=held hb3 t1;have e2:=held hb3 t2;refine hK.out _ _ ⟨e0,e1,e2⟩ (fun hHeld=>?_);clear hK K hb3 t0 t1 t2;have HB3:=Zq B3;clear B3;refine ad8 (i:=4) (i':=11) rfl rfl kr (fun K hK=>?br3) (fun K hK=>?br4)
   case' br3=>
    go_simp;refine (Y.out.2.2.2.2.2.1 _ HB3.out).mono ?_;rintro e w4 ⟨rfl,hb4⟩;refine hK.out _ _ ⟨held hb4 e0,held hb4 e1,held hb4 e2⟩ (fun hHeld=>?_);clear hK K;refine tk 10 (.agg #[U a,I n,U M.id,U M.seq,Vv 0]) rfl hHeld ?_;go_frame;refine rl 11 rfl fun K hK=>?_
    go_simp;have hb7:=next hb4 (aa0 w4 (.cells #[U 0,I 0,U 0,U 0,Vv 0] 71));refine hK.out _ _ ⟨held hb7 e0,held hb7 e1,held hb7 e2⟩ (fun hHeld=>?_);clear hK K;have BZ:=Blk.new w4 71 #[U 0,I 0,U 0,U 0,Vv 0];have hg7:v2.heap.size<=w4.heap.size:=Nat.le_trans HB3.out.size hb4.size;have B7:=HB3.out.trans (hb7.mono HB3.out.size);have c0:=held hb7 e0;have c1:=held hb7 e1;have c2:=held hb7 e2;generalize w4.alloc _=w7 at*;generalize w4.heap.size=g7 at*;clear hb4 hb7 e0 e1 e2 HB3
   case' br4=>
    go_simp;have hbn:=aa0 w3 (.cells #[U 0,I 0,U 0,U 0,Vv 0] 71);refine hK.out _ _ ⟨held hbn e0,held hbn e1,held hbn e2⟩ (fun hHeld=>?_);clear hK K;refine rl 4 rfl fun K hK=>?_
    go_simp;have B4:=HB3.out.trans (hbn.mono HB3.out.size);refine (Y.out.2.2.2.2.2.1 _ B4).mono ?_;rintro e w7 ⟨rfl,hb4⟩;have hb7:=next hbn hb4;refine hK.out _ _ ⟨held hb7 e0,held hb7 e1,held hb7 e2⟩ (fun hHeld=>?_);clear hK K;have BZ:=(Blk.new w3 71 #[U 0,I 0,U 0,U 0,Vv 0]).held hb4;have hg7:v2.heap.size<=w3.heap.size:=HB3.out.size;have B7:=HB3.out.trans (hb7.mono HB3.out.size);have c0:=held hb7 e0;have c1:=held hb7 e1;have c2:=held hb7 e2;clear hb4 hb7 hbn B4 e0 e1 e2 HB3;generalize w3.heap.size=g7 at*;refine tk 10 (.agg #[U a,I n,U M.id,U M.seq,Vv 0]) rfl hHeld ?_;go_frame
  case' br2=>
   go_simp;have hbn:=aa0 v2 (.cells #[U 0,I 0,U 0,U 0,Vv 0] 71);have e0:=held hbn t0;have e1:=held hbn t1;have e2:=held hbn t2;refine hK.out _ _ ⟨e0,e1,e2⟩ (fun hHeld=>?_);clear hK K t0 t1 t2;refine rl 3 rfl fun K hK=>?_
   go_simp;have B3:=Y.out.2.2.2.2.2.2.trans (hbn.mono Y.out.2.2.2.2.2.2.size);refine (Y.out.2.2.2.2.1 _ B3).mono ?_;rintro e w4 ⟨rfl,hb4⟩;refine hK.out _ _ ⟨held hb4 e0,held hb4 e1,held hb4 e2⟩ (fun hHeld=>?_);clear hK K;refine rl 4 rfl fun K hK=>?_
   go_simp;have B4:=B3.trans (hb4.mono B3.size);refine (Y.out.2.2.2.2.2.1 _ B4).mono ?_;rintro e w7 ⟨rfl,hb5⟩;have hb7:=next hb4 hb5;refine hK.out _ _ ⟨held hb7 e0,held hb7 e1,held hb7 e2⟩ (fun hHeld=>?_);clear hK K;have BZ:=(Blk.new v2 71 #[U 0,I 0,U 0,U 0,Vv 0]).held hb7;have hg7:v2.heap.size<=v2.heap.size:=Nat.le_refl _;have B7:=B3.trans (hb7.mono B3.size);have c0:=held hb7 e0;have c1:=held hb7 e1;have c2:=held hb7 e2;clear hb4 hb5 hb7 hbn B3 B4 e0 e1 e2;obtain ⟨g7,hqe⟩:=ey v2.heap.size;rw [hqe] at BZ;rw [hqe];replace hg7:v2.heap.size<=g7:=G
   clear hqe;refine tk 10 (.agg #[U a,I n,U M.id,U M.seq,Vv 0]) rfl hHeld ?_;go_frame
  all_goals
   have z0:=BZ.at_ 0;have z1:=BZ.at_ 1;have z2:=BZ.at_ 2;have z3:=BZ.at_ 3;have z4:=BZ.at_ 4;have y0:=BZ.free 0;have y1:=BZ.free 1;have y2:=BZ.free 2;have y3:=BZ.free 3;have y4:=BZ.free 4;refine rl 12 rfl fun K hK=>?_
   go_simp;have T8:=aj5 w7 g7 (U a) (I n) (U M.id) (U M.seq) (Vv 0);have d0:=T8.cell c0 (by simp; omega);have d1:=T8.cell c1 (by simp; omega);have d2:=T8.cell c2 (by simp; omega);refine hK.out _ _ ⟨d0,d1,d2⟩ (fun hHeld=>?_);have B8:=B7.trans (T8.below (B:=v2.heap.size) (fun i hi=>by simp at hi; omega) B7.size);have D8:=ah1 BZ (U a) (I n) (U M.id) (U M.seq) (Vv 0);clear hK K z0 z1 z2 z3 z4 y0 y1 y2 y3 y4 c0 c1 c2 BZ d0 d1 d2 B7 T8;generalize ((((w7.setCell (Aa g7 0) (U a)).setCell (Aa g7 1) (I n)).setCell (Aa g7 2) (U M.id)).setCell (Aa g7 3) (U M.seq)).setCell (Aa g7 4) (Vv 0)=w8 at*;refine wpAnyH_done kr ?_ _;try go_frame
   have hz8:=Y.out.2.2.1.held B8;have UB8:=(Y.out.2.1.held B8).drew;have bz8:=Y.out.2.2.2.1.trans (B8.mono G);obtain ⟨o8,fl8,tb8,j8,N8,nn8,hR8⟩:=hz8.rr;obtain ⟨q0,hq0⟩:∃ q,((M.seq:Int) !=0)=q:=⟨_,rfl⟩;have k0:w8.drew.cell? (Aa g7 0)=some (U a):=D8.at_ 0;have k1:w8.drew.cell? (Aa g7 1)=some (I n):=D8.at_ 1;have k2:w8.drew.cell? (Aa g7 2)=some (U M.id):=D8.at_ 2;have k3:w8.drew.cell? (Aa g7 3)=some (U M.seq):=D8.at_ 3;have k4:w8.drew.cell? (Aa g7 4)=some (Vv 0):=D8.at_ 4;have k5:w8.drew.cell? (Aa R 20)=some (U M.seq):=hR8.head.at_ 20;replace bz8:=bz8.drew;have Z:=H3 UB8 bz8 D8.drew;clear hz8 UB8 bz8 hR8 B8 D8;go_upto_region 3 with fail;refine wp_region_held_drew (S:=fun u=>u.cell? (Aa g7 0)=some (U a)/\u.cell? (Aa g7 1)=some (I n)/\u.cell? (Aa g7 2)=some (U M.id)/\u.cell? (Aa g7 3)=some (U M.seq)/\u.cell? (Aa g7 4)=some (Vv 0)/\u.cell? (Aa R 20)=some (U M.seq)) kr ⟨k0,k1,k2,k3,k4,k5⟩ (fun hHeld=>?_);generalize w8.drew=v8 at*;refine tk 0 (.agg #[U a,I n,U M.id,U M.seq,Vv 0]) rfl hHeld ?_;go_frame;refine tk 1 (Pt R) rfl hHeld ?_;go_frame;refine tk 2 (Pt R) rfl hHeld ?_;go_frame;refine tk 3 (Qt R 20) rfl hHeld ?_;go_frame;refine tk 4 (U M.seq) rfl hHeld ?_;go_frame;refine tk 5 (O q0) rfl hHeld ?_;go_frame;have z0:=Z.out.1.at_ 0;have z1:=Z.out.1.at_ 1;have z2:=Z.out.1.at_ 2;have z3:=Z.out.1.at_ 3;have z4:=Z.out.1.at_ 4;have y0:=Z.out.1.free 0;have y1:=Z.out.1.free 1;have y2:=Z.out.1.free 2;have y3:=Z.out.1.free 3;have y4:=Z.out.1.free 4;refine rl 6 rfl fun K hK=>?_
   go_simp;have T9:=aj5 v8 (b+1) (U a) (I n) (U M.id) (U M.seq) (Vv 0);have m0:=T9.cell k0 (by simp; omega);have m1:=T9.cell k1 (by simp; omega);have m2:=T9.cell k2 (by simp; omega);have m3:=T9.cell k3 (by simp; omega);have m4:=T9.cell k4 (by simp; omega);have m5:=T9.cell k5 (by simp; omega);refine hK.out _ _ ⟨m0,m1,m2,m3,m4,m5⟩ (fun hHeld=>?_);have D9:=ah1 Z.out.1 (U a) (I n) (U M.id) (U M.seq) (Vv 0);have b9:=Z.out.2.1.trans (T9.below (B:=b) (fun i hi=>by simp at hi; omega) (Nat.le_trans G Z.out.1.lt));clear hK K z0 z1 z2 z3 z4 y0 y1 y2 y3 y4 k0 k1 k2 k3 k4 k5 T9;generalize ((((v8.setCell (Aa (b+1) 0) (U a)).setCell (Aa (b+1) 1) (I n)).setCell (Aa (b+1) 2) (U M.id)).setCell (Aa (b+1) 3) (U M.seq)).setCell (Aa (b+1) 4) (Vv 0)=w9 at*;refine rl 7 rfl fun K hK=>?_
   go_simp;refine hK.out _ _ ⟨m0,m1,m2,m3,m4,m5⟩ (fun hHeld=>?_);clear hK K m0 m1 m2 m3 m4 m5;refine wpAnyH_done kr ?_ _;try go_frame
   have q1:=D9.at_ 0;have q2:=D9.at_ 1;have q3:=D9.at_ 2;have q4:=D9.at_ 3;have q5:=D9.at_ 4;clear hHeld;go_wp2_with fail;have hz0:=X.out.1;refine bodyPost_ret (v:= .tuple #[.agg #[U a,I n,U M.id,U M.seq,Vv 0],O q0]) ?_ rfl ⟨⟨a,n,M.id,M.seq,0⟩,q0,rfl,?_,?_⟩
   ·simp [results,Tryz.results119,go_sem,q1,q2,q3,q4,q5]
   ·unfold Upg
    rw [Mr.tell1G_own X.out.2.2.2.2.2.1];have e0:=dc4 hq0
    cases q0 with
    |true=>rw [if_pos rfl,if_neg (fun e=>by have:=e0.2 e; cases this)]
    |false=>rw [if_neg (by decide),if_pos (e0.1 rfl)]
   ·rw [Mr.tell1G_own X.out.2.2.2.2.2.1]
    refine Goeg.stay hz0 ?_;rw [HBW.out];exact b9
 |false=>
  go_upto_region 4 with (go_at_call 60; refine HO.mono ?_; rintro e w2 ⟨rfl,hb2⟩);have SB2:=X.out.2.2.1.held hb2;have UB2:=X.out.2.2.2.1.held hb2;have hz2:=X.out.2.2.2.2.1.held hb2;have hbz:=X.out.2.1.trans (hb2.mono hle0);obtain ⟨o2,fl2,tb2,j2,N2,nn2,hR2⟩:=hz2.rr;obtain ⟨⟨fr,id,sq,mt,ex⟩,hr⟩:∃ r,(M.pick a n).getD Rt.zero=r:=⟨_,rfl⟩;obtain ⟨ok,hok⟩:∃ ok,(M.pick a n).isSome=ok:=⟨_,rfl⟩;have HW:=ce6 hR2 X.out.2.2.2.2.2.2.2 hr hok;have hfi:=Mr.pick_fits X.out.1.fits hr;have t0:w2.cell? (Aa b 0)=some (U a):=SB2.at_ 0;have t1:w2.cell? (Aa b 1)=some (I n):=SB2.at_ 1;have hbl:b+1<w2.heap.size:=UB2.lt;have Y:=H7 SB2 UB2 hz2 hbz hr hok hfi;clear HO s0 s1 hb2 SB2 UB2 hz2 hbz hr hok hfi hR2;go_upto_region 5 with (go_at_call 61; refine HW.mono ?_; rintro e w3 ⟨rfl,hb3⟩);have hb4:=next hb3 (aa0 w3 (.cells #[I fr,U id,U sq,Vv mt,I ex] 130));have RB:=Blk.new w3 130 #[I fr,U id,U sq,Vv mt,I ex];have hg4:w2.heap.size<=w3.heap.size:=hb3.size;clear HW t0 t1 hb3;generalize w3.alloc _=w4 at*;generalize w3.heap.size=g4 at*;have SB4:=Y.out.1.held hb4;have UB4:=Y.out.2.1.held hb4;have hz4:=Y.out.2.2.1.held hb4;have bz4:=Y.out.2.2.2.1.trans (hb4.mono G);have hbl4:b+1<w4.heap.size:=UB4.lt
  cases ok with
  |false=>
   go_upto_region 6 with fail;have hpn:M.pick a n=none:=Option.not_isSome_iff_eq_none.1 (by rw [Y.out.2.2.2.2.2.1]; decide);have k0:w4.drew.cell? (Aa b 0)=some (U a):=SB4.at_ 0;have k1:w4.drew.cell? (Aa b 1)=some (I n):=SB4.at_ 1;have k2:w4.drew.cell? (Aa b 2)=some (O on):=SB4.at_ 2;have UBd:=UB4.drew;replace bz4:=bz4.drew;have Z:=H3 UBd bz4 hpn;clear SB4 UB4 UBd hz4 bz4 hb4 RB hpn;refine wp_region_held_drew (S:=fun u=>u.cell? (Aa b 0)=some (U a)/\u.cell? (Aa b 1)=some (I n)/\u.cell? (Aa b 2)=some (O on)) kr ⟨k0,k1,k2⟩ (fun hHeld=>?_);generalize w4.drew=v4 at*;refine tk 0 (Pt b) rfl hHeld ?_;go_frame;refine tk 1 (.agg #[U a,I n]) rfl hHeld ?_;go_frame;refine tk 2 (.agg #[U 0,Vv 65535]) rfl hHeld ?_;go_frame;refine tk 3 (.agg #[U a,I n,U 0,U 0,Vv 65535]) rfl hHeld ?_;go_frame;refine tk 4 (Qt b 2) rfl hHeld ?_;go_frame;refine tk 5 (O on) rfl hHeld ?_;go_frame;have z0:=Z.out.1.at_ 0;have z1:=Z.out.1.at_ 1;have z2:=Z.out.1.at_ 2;have z3:=Z.out.1.at_ 3;have z4:=Z.out.1.at_ 4;have y0:=Z.out.1.free 0;have y1:=Z.out.1.free 1;have y2:=Z.out.1.free 2;have y3:=Z.out.1.free 3;have y4:=Z.out.1.free 4;refine rl 6 rfl fun K hK=>?_
   go_simp;have T9:=aj5 v4 (b+1) (U a) (I n) (U 0) (U 0) (Vv 65535);have m0:=T9.cell k0 sn;have m1:=T9.cell k1 sn;have m2:=T9.cell k2 sn;refine hK.out _ _ ⟨m0,m1,m2⟩ (fun hHeld=>?_);have D9:=ah1 Z.out.1 (U a) (I n) (U 0) (U 0) (Vv 65535);have b9:=Z.out.2.1.trans (T9.below (B:=b) (fun i hi=>by simp at hi; omega) (Nat.le_trans G Z.out.1.lt));clear hK K z0 z1 z2 z3 z4 y0 y1 y2 y3 y4 k0 k1 k2 T9;generalize ((((v4.setCell (Aa (b+1) 0) (U a)).setCell (Aa (b+1) 1) (I n)).setCell (Aa (b+1) 2) (U 0)).setCell (Aa (b+1) 3) (U 0)).setCell (Aa (b+1) 4) (Vv 65535)=w9 at*;refine rl 7 rfl fun K hK=>?_
   go_simp;refine hK.out _ _ ⟨m0,m1,m2⟩ (fun hHeld=>?_);clear hK K m0 m1 m2;refine wpAnyH_done kr ?_ _;try go_frame
   have q1:=D9.at_ 0;have q2:=D9.at_ 1;have q3:=D9.at_ 2;have q4:=D9.at_ 3;have q5:=D9.at_ 4;clear hHeld;go_wp2_with fail;have hz0:=X.out.1;refine bodyPost_ret (v:= .tuple #[.agg #[U a,I n,U 0,U 0,Vv 65535],O on]) ?_ rfl ⟨⟨a,n,0,0,65535⟩,on,rfl,?_,?_⟩
   ·simp [results,Tryz.results119,go_sem,q1,q2,q3,q4,q5]
   ·unfold Upg
    rw [Mr.tell1G_none X.out.2.2.2.2.2.1 Z.out.2.2]
   ·rw [Mr.tell1G_none X.out.2.2.2.2.2.1 Z.out.2.2]
    refine Goeg.stay hz0 ?_;rw [HBW.out];exact b9
  |true=>
   go_upto_region 7 with fail;have hpk:M.pick a n=some ⟨fr,id,sq,mt,ex⟩:=by
    have h1:=Y.out.2.2.2.2.1;obtain ⟨r,h2⟩:=Option.isSome_iff_exists.1 Y.out.2.2.2.2.2.1;rw [h2] at h1 ⊢;exact congrArg some h1
   have hgr:=X.out.2.2.2.2.2.2.1.right hpk;have hfar:=M.farN_eq ⟨fr,id,sq,mt,ex⟩;have hflt:=M.farN_lt ⟨fr,id,sq,mt,ex⟩;obtain ⟨fm,hfm⟩:=ey (M.farN ⟨fr,id,sq,mt,ex⟩);dsimp only at hgr hfar;rw [hfm] at hgr hfar hflt;replace hz4:=hz4.held (Below.refl _ _).drew;obtain ⟨o4,fl4,tb4,j4,N4,nn4,hR4⟩:=hz4.rr;have hRe:∀ W',Below w4.drew.heap.size w4.drew W'->Q 62 #[Pt R,.agg #[I fr,U id,U sq,Vv mt,I ex]] W' (Rr0 W' (.agg #[U sq,Vv fm])):=fun W' hb'=>by
    have:=bq5 (hR4.held hb') (fr:=fr) (exp:=ex) (id:=id) (seq:=sq) (met:=mt) Y.out.2.2.2.2.2.2.met;rw [hfar] at this;exact this
   have B0:Below w4.drew.heap.size w4.drew w4.drew:=Below.refl _ _;replace UB4:=UB4.drew;replace bz4:=bz4.drew;replace hbl4:b+1<w4.drew.heap.size:=hbl4;have k0:w4.drew.cell? (Aa b 0)=some (U a):=SB4.at_ 0;have k1:w4.drew.cell? (Aa b 1)=some (I n):=SB4.at_ 1;have r0:w4.drew.cell? (Aa g4 0)=some (I fr):=RB.at_ 0;have r1:w4.drew.cell? (Aa g4 1)=some (U id):=RB.at_ 1;have r2:w4.drew.cell? (Aa g4 2)=some (U sq):=RB.at_ 2;have r3:w4.drew.cell? (Aa g4 3)=some (Vv mt):=RB.at_ 3;have r4:w4.drew.cell? (Aa g4 4)=some (I ex):=RB.at_ 4;have hg4l:g4<w4.drew.heap.size:=RB.lt;have Z:=H9 UB4 bz4 hz4 hpk hgr hfm hRe B0 hflt;clear SB4 UB4 hz4 bz4 hb4 RB hpk hgr hfm hRe B0 hR4 hfar hflt;refine wp_region_held_drew (S:=fun u=>u.cell? (Aa b 0)=some (U a)/\u.cell? (Aa b 1)=some (I n)/\u.cell? (Aa g4 0)=some (I fr)/\u.cell? (Aa g4 1)=some (U id)/\u.cell? (Aa g4 2)=some (U sq)/\u.cell? (Aa g4 3)=some (Vv mt)/\u.cell? (Aa g4 4)=some (I ex)) kr ⟨k0,k1,r0,r1,r2,r3,r4⟩ (fun hHeld=>?_);generalize w4.drew=v4 at*;refine tk 0 (Pt b) rfl hHeld ?_;go_frame;refine tk 1 (.agg #[U a,I n]) rfl hHeld ?_;go_frame;refine tk 2 (Qt g4 1) rfl hHeld ?_;go_frame;refine tk 3 (U id) rfl hHeld ?_;go_frame;refine tk 4 (Pt R) rfl hHeld ?_;go_frame;refine tk 5 (.agg #[I fr,U id,U sq,Vv mt,I ex]) rfl hHeld ?_;go_frame;refine ad8 (i:=6) (i':=8) rfl rfl kr (fun K hK=>?br5) (fun K hK=>?br6)
   case' br5=>
    go_simp;refine (Z.out.2.2.2.2.2.2.1 _ Z.out.2.2.2.2.2.2.2.1).mono ?_;rintro e w5 ⟨rfl,hb5⟩;refine hK.out _ _ ⟨held hb5 k0,held hb5 k1,held hb5 r0,held hb5 r1,held hb5 r2,held hb5 r3,held hb5 r4⟩ (fun hHeld=>?_);clear hK K;refine tk 7 (.agg #[U a,I n,U id,U sq,Vv fm]) rfl hHeld ?_;go_frame;refine rl 8 rfl fun K hK=>?_
    go_simp;have hb7:=next hb5 (aa0 w5 (.cells #[U 0,I 0,U 0,U 0,Vv 0] 71));have c0:=held hb7 k0;have c1:=held hb7 k1;have c2:=held hb7 r0;have c3:=held hb7 r1;have c4:=held hb7 r2;have c5:=held hb7 r3;have c6:=held hb7 r4;refine hK.out _ _ ⟨c0,c1,c2,c3,c4,c5,c6⟩ (fun hHeld=>?_);clear hK K;have BZ:=Blk.new w5 71 #[U 0,I 0,U 0,U 0,Vv 0];have hg7:v4.heap.size<=w5.heap.size:=hb5.size;have B7:=Z.out.2.2.2.2.2.2.2.1.trans (hb7.mono Z.out.2.2.2.2.2.2.2.1.size);generalize w5.alloc _=w7 at*;generalize w5.heap.size=g7 at*;clear hb5 hb7 k0 k1 r0 r1 r2 r3 r4
   case' br6=>
    go_simp;have hbn:=aa0 v4 (.cells #[U 0,I 0,U 0,U 0,Vv 0] 71);refine hK.out _ _ ⟨held hbn k0,held hbn k1,held hbn r0,held hbn r1,held hbn r2,held hbn r3,held hbn r4⟩ (fun hHeld=>?_);clear hK K;refine rl 6 rfl fun K hK=>?_
    go_simp;have B3:=Z.out.2.2.2.2.2.2.2.1.trans (hbn.mono Z.out.2.2.2.2.2.2.2.1.size);refine (Z.out.2.2.2.2.2.2.1 _ B3).mono ?_;rintro e w7 ⟨rfl,hb5⟩;have hb7:=next hbn hb5;have c0:=held hb7 k0;have c1:=held hb7 k1;have c2:=held hb7 r0;have c3:=held hb7 r1;have c4:=held hb7 r2;have c5:=held hb7 r3;have c6:=held hb7 r4;refine hK.out _ _ ⟨c0,c1,c2,c3,c4,c5,c6⟩ (fun hHeld=>?_);clear hK K;have BZ:=(Blk.new v4 71 #[U 0,I 0,U 0,U 0,Vv 0]).held hb5;have hg7:v4.heap.size<=v4.heap.size:=Nat.le_refl _;have B7:=Z.out.2.2.2.2.2.2.2.1.trans (hb7.mono Z.out.2.2.2.2.2.2.2.1.size);clear hb5 hb7 hbn B3 k0 k1 r0 r1 r2 r3 r4;obtain ⟨g7,hqe⟩:=ey v4.heap.size;rw [hqe] at BZ;rw [hqe];replace hg7:v4.heap.size<=g7:=G
    clear hqe;refine tk 7 (.agg #[U a,I n,U id,U sq,Vv fm]) rfl hHeld ?_;go_frame
   all_goals
    have z0:=BZ.at_ 0;have z1:=BZ.at_ 1;have z2:=BZ.at_ 2;have z3:=BZ.at_ 3;have z4:=BZ.at_ 4;have y0:=BZ.free 0;have y1:=BZ.free 1;have y2:=BZ.free 2;have y3:=BZ.free 3;have y4:=BZ.free 4;refine rl 9 rfl fun K hK=>?_
    go_simp;have T8:=aj5 w7 g7 (U a) (I n) (U id) (U sq) (Vv fm);refine hK.out _ _ ⟨T8.cell c0 (by simp; omega),T8.cell c1 (by simp; omega),T8.cell c2 (by simp; omega),T8.cell c3 (by simp; omega),T8.cell c4 (by simp; omega),T8.cell c5 (by simp; omega),T8.cell c6 (by simp; omega)⟩ (fun hHeld=>?_);have B8:=B7.trans (T8.below (B:=v4.heap.size) (fun i hi=>by simp at hi; omega) B7.size);have D8:=ah1 BZ (U a) (I n) (U id) (U sq) (Vv fm);clear hK K z0 z1 z2 z3 z4 y0 y1 y2 y3 y4 c0 c1 c2 c3 c4 c5 c6 BZ B7 T8;generalize ((((w7.setCell (Aa g7 0) (U a)).setCell (Aa g7 1) (I n)).setCell (Aa g7 2) (U id)).setCell (Aa g7 3) (U sq)).setCell (Aa g7 4) (Vv fm)=w8 at*;refine wpAnyH_done kr ?_ _;try go_frame
    have hz8:=(Z.out.2.2.1.held B8).held (Below.refl _ _).drew;have UB8:=(Z.out.1.held B8).drew;have bz8:=(Z.out.2.1.trans (B8.mono G)).drew;have hfi:=Y.out.2.2.2.2.2.2;have HC:=de5 hz8 X.out.2.2.2.2.2.2.2 (id:=id) (seq:=sq) (met:=fm) hfi.id hfi.seq Z.out.2.2.2.2.2.2.2.2 (fun _=>Z.out.2.2.2.2.1.1);obtain ⟨CX,hCX⟩:∃ x,M.coveredG J a n id sq fm=x:=⟨_,rfl⟩;rw [hCX] at HC;obtain ⟨cb,CJ,CM⟩:=CX;simp only at HC;have HCX:=Zq hCX;clear hCX;have k0:w8.drew.cell? (Aa g7 0)=some (U a):=D8.at_ 0;have k1:w8.drew.cell? (Aa g7 1)=some (I n):=D8.at_ 1;have k2:w8.drew.cell? (Aa g7 2)=some (U id):=D8.at_ 2;have k3:w8.drew.cell? (Aa g7 3)=some (U sq):=D8.at_ 3;have k4:w8.drew.cell? (Aa g7 4)=some (Vv fm):=D8.at_ 4;have hg8:g7<w8.drew.heap.size:=D8.lt;have hb8:b+1<w8.drew.heap.size:=UB8.lt;have hbw8:b<=g7:=G
    have hgF:g7∉F:=fun hx=>by have:=HFw.out _ hx; omega
    have hbF:b+1∉F:=fun hx=>by have:=HFw.out _ hx; omega
    have V:=H5 UB8 bz8 HC hgF hbF;clear hz8 UB8 bz8 hfi B8 D8 HC hgF hbF;go_upto_region 8 with fail;refine wp_region_held_drew (S:=fun u=>u.cell? (Aa g7 0)=some (U a)/\u.cell? (Aa g7 1)=some (I n)/\u.cell? (Aa g7 2)=some (U id)/\u.cell? (Aa g7 3)=some (U sq)/\u.cell? (Aa g7 4)=some (Vv fm)) kr ⟨k0,k1,k2,k3,k4⟩ (fun hHeld=>?_);generalize w8.drew=v8 at*;refine tk 0 (.agg #[U a,I n,U id,U sq,Vv fm]) rfl hHeld ?_;go_frame;refine tk 1 (Pt R) rfl hHeld ?_;go_frame;refine tk 2 (.agg #[U a,I n,U id,U sq,Vv fm]) rfl hHeld ?_;go_frame;refine rl 3 rfl fun K hK=>?_
    go_simp;refine V.out.2.2.1.mono ?_;rintro e w9 ⟨rfl,hG9⟩;obtain ⟨F9,hz9,t9,n9⟩:=hG9;have m0:=t9.cell k0 V.out.2.2.2.1;have m1:=t9.cell k1 V.out.2.2.2.1;have m2:=t9.cell k2 V.out.2.2.2.1;have m3:=t9.cell k3 V.out.2.2.2.1;have m4:=t9.cell k4 V.out.2.2.2.1;refine hK.out _ _ ⟨m0,m1,m2,m3,m4⟩ (fun hHeld=>?_);clear hK K k0 k1 k2 k3 k4;have UB9:=V.out.1.turn t9 V.out.2.2.2.2;have G9:=Zq (show Goeg F v8 R CJ sp CM w9 from ⟨F9,hz9,t9,n9⟩);clear hz9 t9 n9;have z0:=UB9.at_ 0;have z1:=UB9.at_ 1;have z2:=UB9.at_ 2;have z3:=UB9.at_ 3;have z4:=UB9.at_ 4;have y0:=UB9.free 0;have y1:=UB9.free 1;have y2:=UB9.free 2;have y3:=UB9.free 3;have y4:=UB9.free 4;refine rl 4 rfl fun K hK=>?_
    go_simp;have T9:=aj5 w9 (b+1) (U a) (I n) (U id) (U sq) (Vv fm);have l0:=T9.cell m0 (by simp; omega);have l1:=T9.cell m1 (by simp; omega);have l2:=T9.cell m2 (by simp; omega);have l3:=T9.cell m3 (by simp; omega);have l4:=T9.cell m4 (by simp; omega);refine hK.out _ _ ⟨l0,l1,l2,l3,l4⟩ (fun hHeld=>?_);have D9:=ah1 UB9 (U a) (I n) (U id) (U sq) (Vv fm);have G10:=Goeg.put (w:=w) (by rw [HBW.out]; exact V.out.2.1) (fun y hy=>by rw [HBW.out]; exact HFw.out y hy) G9.out T9 (fun y hy=>by
     simp at hy;rw [HBW.out];omega)
    have GG:=Zq G10;clear hK K z0 z1 z2 z3 z4 y0 y1 y2 y3 y4 m0 m1 m2 m3 m4 T9 G10 G9 UB9;generalize ((((w9.setCell (Aa (b+1) 0) (U a)).setCell (Aa (b+1) 1) (I n)).setCell (Aa (b+1) 2) (U id)).setCell (Aa (b+1) 3) (U sq)).setCell (Aa (b+1) 4) (Vv fm)=w10 at*;refine rl 5 rfl fun K hK=>?_
    go_simp;refine hK.out _ _ ⟨l0,l1,l2,l3,l4⟩ (fun hHeld=>?_);clear hK K l0 l1 l2 l3 l4;refine wpAnyH_done kr ?_ _;try go_frame
    have q1:=D9.at_ 0;have q2:=D9.at_ 1;have q3:=D9.at_ 2;have q4:=D9.at_ 3;have q5:=D9.at_ 4;clear hHeld;go_wp2_with fail;refine bodyPost_ret (v:= .tuple #[.agg #[U a,I n,U id,U sq,Vv fm],O cb]) ?_ rfl ⟨⟨a,n,id,sq,fm⟩,cb,rfl,?_,?_⟩
    ·simp [results,Tryz.results119,go_sem,q1,q2,q3,q4,q5]
    ·unfold Upg
     rw [Mr.tell1G_way X.out.2.2.2.2.2.1 Z.out.2.2.2.1,Z.out.2.2.2.2.2.1];simp only [HCX.out]
    ·rw [Mr.tell1G_way X.out.2.2.2.2.2.1 Z.out.2.2.2.1,Z.out.2.2.2.2.2.1]
     simp only [HCX.out];exact GG.out
end
end Go.Proofs.YtafkfnodcemefaaGreat
