import Derived.Test.YtafkfnodcemefaaGreatB09
import Derived.Shelf.SlSortCmp.WholeK
set_option maxHeartbeats 8000000
set_option maxRecDepth 100000
namespace Go.Proofs.YtafkfnodcemefaaGreat
open _root_.Go.Proofs.Tryz (prog)
section
open Go.RowKit Go.Maps Rm
section
variable {w w':World} {R:Nat} {o fl tb:Option Nat} {j:Jr} {N n:Nat} {M:Mr}
def Mr.fea (M:Mr) (a:Nat) (len:Int) (r:Rt):Bool:=Go.Proofs.YtafkfnodcemefaaGreat.fea (M.sm.floor ⟨a,len,r.id⟩) r.seq r.met
theorem au3 (h:Rr w R o fl tb j N n M) {a:Nat} {len:Int} (hp:Pk.ok ⟨a,len⟩) {fr exp:Int} {id seq met:Nat} (hi:id<4294967296) {q:Bool} (hq:M.fea a len ⟨fr,id,seq,met,exp⟩=q):
  Q 74 #[K R,.agg #[U a,I len],.agg #[I fr,U id,U seq,V met,I exp]] w (Rr0 w (O q)):=by
 have hb:=next (aa0 w (.cells #[U a,I len] 28)) (aa0 _ (.cells #[I fr,U id,U seq,V met,I exp] 130));have PB:=(Blk.new w 28 #[U a,I len]).more (.cells #[I fr,U id,U seq,V met,I exp] 130);have RB:=Blk.new (w.alloc (.cells #[U a,I len] 28)) 130 #[I fr,U id,U seq,V met,I exp];rw [aa1] at RB;have h1:=h.held hb;generalize hW:(w.alloc (.cells #[U a,I len] 28)).alloc (.cells #[I fr,U id,U seq,V met,I exp] 130)=W at*;have HW:=Z hW;have hS:∀ (d:Nat) (os:Array Obj),Q 24 #[K R] (Sort.grow (redrawn W d) os) fun e w'=>e= .returned (K R)/\Below (Sort.grow (redrawn W d) os).heap.size (Sort.grow (redrawn W d) os) w':=fun d os=>ac4 (h1.held (below_regrown W d os))
 have hO:∀ (d:Nat) (os:Array Obj),Q 106 #[K R,.agg #[U a,I len,U id],.agg #[U seq,V met]] (Sort.grow (redrawn W d) os) fun e w'=>e= .returned (O q)/\Below (Sort.grow (redrawn W d) os).heap.size (Sort.grow (redrawn W d) os) w':=fun d os=>by
  obtain ⟨cn,cm,hnm,hS⟩:=(h1.held (below_regrown W d os)).nt;subst hq;exact bi1 hS ⟨a,len,id⟩ ⟨hp.1,hp.2,hi⟩ seq met
 have p0:=cell_regrown (PB.at_ 0);have p1:=cell_regrown (PB.at_ 1);have r1:=cell_regrown (RB.at_ 1);have r2:=cell_regrown (RB.at_ 2);have r3:=cell_regrown (RB.at_ 3);have HB:=Z hb;clear h h1 hW PB RB hb hq;go_enter Tryz.func74,Tryz.ntmps74;go_upto_region 1 with fail;rw [HW.out];refine wp_region_quiet_below X X ?_
 repeat (go_big_quiet_step (first|(go_at_call 24; exact Calls.regrown_of (hS _ _))|(go_at_call 106; exact Calls.regrown_of (hO _ _))))
 refine wpQuiet_nil ?_;intro _ hw';obtain ⟨⟨dq,osq⟩,hw''⟩:=hw';subst hw'';have hbz:=next HB.out (below_regrown W dq osq);clear hS hO p0 p1 r1 r2 r3;go_wp2;go_ret;exact ⟨rfl,hbz⟩
theorem da4 (h:Rr w R o fl tb j N n M) {rb pb:Nat} {a:Nat} {len:Int} (hp:Pk.ok ⟨a,len⟩) (hr:Blk 46 w rb #[K R]) (hpb:Blk 28 w pb #[U a,I len]) {fr exp:Int} {id seq met:Nat} (hi:id<4294967296) {q:Bool} (hq:M.fea a len ⟨fr,id,seq,met,exp⟩=q):
  Q 91 #[.agg #[I fr,U id,U seq,V met,I exp],K rb,K pb] w (Rr0 w (O q)):=by
 have hb:=aa0 w (.cells #[I fr,U id,U seq,V met,I exp] 130);have HF:=au3 (h.held hb) hp (fr:=fr) (exp:=exp) (seq:=seq) (met:=met) hi hq;have b0:=(hr.held hb).at_ 0;have p0:=(hpb.held hb).at_ 0;have p1:=(hpb.held hb).at_ 1;have HB:=Z hb;clear h hr hpb hq hb;go_enter Tryz.func91,Tryz.ntmps91;go_wp2_with fail;refine HF.mono ?_;rintro e w2 ⟨rfl,hb2⟩;have hb3:=next HB.out hb2;clear hb2 HF;go_wp2_with fail;go_ret;exact ⟨rfl,hb3⟩
theorem bq5 (h:Rr w R o fl tb j N n M) {fr exp:Int} {id seq met:Nat} (hm:met<65536):
  Q 62 #[Pt R,.agg #[I fr,U id,U seq,V met,I exp]] w (Rr0 w (.agg #[U seq,V (far met (cAt M.c fr))])):=by
 have hb:=next (aa0 w (.cells #[I fr,U id,U seq,V met,I exp] 130)) (aa0 _ (.cells #[U 0,V 0] 69));have RB:=(Blk.new w 130 #[I fr,U id,U seq,V met,I exp]).more (.cells #[U 0,V 0] 69);have DB:=Blk.new (w.alloc (.cells #[I fr,U id,U seq,V met,I exp] 130)) 69 #[U 0,V 0];rw [aa1] at DB;have h1:=h.held hb;go_enter Tryz.func62,Tryz.ntmps62;go_upto_region 1 with fail;generalize (w.alloc (.cells #[I fr,U id,U seq,V met,I exp] 130)).alloc (.cells #[U 0,V 0] 69)=W at*;have HC:=bk9 (h1.held (Below.refl _ _).drew) fr;have HBe:=az2 seq met (cAt M.c fr) G G W.drew;have r0:W.drew.cell? (Y w.heap.size 0)=some (I fr):=RB.at_ 0;have r2:W.drew.cell? (Y w.heap.size 2)=some (U seq):=RB.at_ 2;have r3:W.drew.cell? (Y w.heap.size 3)=some (V met):=RB.at_ 3;have X:=H2 hb DB;clear h h1 RB hb DB;generalize hbw:w.heap.size=b at*;have HBW:=Z hbw;clear hbw;refine wp_region_held_drew (S:=fun u=>u.cell? (Y b 0)=some (I fr)/\u.cell? (Y b 2)=some (U seq)/\u.cell? (Y b 3)=some (V met)) kr ⟨r0,r2,r3⟩ (fun hHeld=>?_);refine tk 0 (Qt b 2) rfl hHeld ?_;go_frame;refine tk 1 (.agg #[U seq,V met]) rfl hHeld ?_;go_frame;refine tk 2 (Pt R) rfl hHeld ?_;go_frame;refine tk 3 (Pt b) rfl hHeld ?_;go_frame;refine tk 4 (I fr) rfl hHeld ?_;go_frame;refine rl 5 rfl fun K hK=>?_
 go_simp;refine HC.mono ?_;rintro e w' ⟨rfl,rfl⟩;refine hK.out _ _ ⟨r0,r2,r3⟩ (fun hHeld=>?_);clear hK K HC;refine rl 6 rfl fun K hK=>?_
 go_simp;refine HBe.mono ?_;rintro e w2 ⟨rfl,hb2⟩;have s0:=held hb2 r0;have s2:=held hb2 r2;have s3:=held hb2 r3;refine hK.out _ _ ⟨s0,s2,s3⟩ (fun hHeld=>?_);clear hK K HBe;have D2:=X.out.2.drew.held hb2;have z0:=D2.at_ 0;have z1:=D2.at_ 1;have y0:=D2.free 0;have y1:=D2.free 1;refine rl 7 rfl fun K hK=>?_
 go_simp;have T8:Turn [b+1] w2 ((w2.setCell (Y (b+1) 0) (U seq)).setCell (Y (b+1) 1) (V (far met (cAt M.c fr)))):=(Turn.setCell _ sn _).trans (Turn.setCell _ sn _);refine hK.out _ _ ⟨T8.cell s0 sn,T8.cell s2 sn,T8.cell s3 sn⟩ (fun hHeld=>?_);clear hK K;refine wpAnyH_done kr ?_ _;try go_frame
 have D8:Blk 69 ((w2.setCell (Y (b+1) 0) (U seq)).setCell (Y (b+1) 1) (V (far met (cAt M.c fr)))) (b+1) #[U seq,V (far met (cAt M.c fr))]:=(D2.store 0 (U seq)).store 1 (V (far met (cAt M.c fr)));have hle:b<=W.drew.heap.size:=by have:b+1<W.drew.heap.size:=X.out.2.lt; omega
 have hle2:=Nat.le_trans hle hb2.size;have hbF:=(X.out.1.drew.trans (hb2.mono hle)).trans (T8.below (B:=b) (fun i hi=>by simp at hi; omega) hle2);clear hle hle2;clear z0 z1 y0 y1 s0 s2 s3 T8 r0 r2 r3 D2 hHeld;generalize (w2.setCell (Y (b+1) 0) (U seq)).setCell (Y (b+1) 1) (V (far met (cAt M.c fr)))=w8 at*;have q0:=D8.at_ 0;have q1:=D8.at_ 1;clear D8;go_wp2_with fail;refine bodyPost_ret (v:= .agg #[U seq,V (far met (cAt M.c fr))]) ?_ rfl ⟨rfl,by rw [HBW.out]; exact hbF⟩;simp [results,Tryz.results62,go_sem,q0,q1]
end
abbrev Rh:=Rt×Int
def rhcl (x:Rh):List Value:=[I x.1.fr,U x.1.id,U x.1.seq,V x.1.met,I x.1.exp,V x.2]
theorem cq3 (x:Rh):(rhcl x).length=6:=rfl
def Mr.reachF (M:Mr) (a:Nat) (len:Int) (k:Nat):Option Rh:=
 match M.f ⟨a,len,k⟩ with
 |none=>none
 |some r=>if cAt M.c k<1\/¬ M.fea a len r=true\/far r.met (cAt M.c k)=65535 then none else some (r,far r.met (cAt M.c k))
def Mr.openL (M:Mr) (a:Nat) (len:Int) (K:Nat):List Rh:=(List.range K).filterMap (M.reachF a len)
theorem bx4 (M:Mr) (a:Nat) (len:Int) (K:Nat):M.openL a len (K+1)=M.openL a len K++(M.reachF a len K).toList:=by
 unfold Mr.openL;rw [List.range_succ,List.filterMap_append]
 cases h:M.reachF a len K<;>simp [h]
theorem bg1 (M:Mr) (a:Nat) (len:Int) (K:Nat):(M.openL a len K).length<=K:=by
 unfold Mr.openL;exact Nat.le_trans (List.length_filterMap_le _ _) sn
theorem bl2:(prog.info? 216).map (fun i=>(i.zero,i.size,i.bytes))=some (some (.agg #[I 0,U 0,U 0,V 0,I 0,V 0]),6,40):=X
theorem info_parts {P:Program} {t:TypeId} {z:Option Value} {n b:Nat} (h:(P.info? t).map (fun i=>(i.zero,i.size,i.bytes))=some (z,n,b)):∃ i,P.info? t=some i/\i.zero=z/\i.size=n/\i.bytes=b:=by
 cases hi:P.info? t with
 |none=>rw [hi] at h; cases h
 |some i=>
  rw [hi] at h;simp only [Option.map_some,Option.some.injEq,Prod.mk.injEq] at h;exact ⟨i,rfl,h.1,h.2.1,h.2.2⟩
structure Asks (w:World) (R:Nat) (o fl tb:Option Nat) (j:Jr) (N n:Nat) (M:Mr) (rb pb a:Nat) (len:Int):Prop where
 rr:Rr w R o fl tb j N n M
 rbx:Blk 46 w rb #[K R]
 pbx:Blk 28 w pb #[U a,I len]
theorem Asks.held {w w':World} {R:Nat} {o fl tb:Option Nat} {j:Jr} {N n:Nat} {M:Mr} {rb pb a:Nat} {len:Int} (h:Asks w R o fl tb j N n M rb pb a len) (hb:Below w.heap.size w w'):Asks w' R o fl tb j N n M rb pb a len:=⟨h.rr.held hb,h.rbx.held hb,h.pbx.held hb⟩
theorem bf9 {w w':World} {B:Nat} {e:TypeId} {s n:Nat} {v:Value} {xs:List Value} (h:w.ownsRow B e s v n xs) (hb:Below w.heap.size w w'):w'.ownsRow B e s v n xs:=by
 refine ⟨h.1,?_⟩;rcases h.2 with h2|⟨g,cap,cur,h1,h2,h3,r⟩
 ·exact .inl h2
 ·exact .inr ⟨g,cap,cur,h1,h2,(hb.block g (Array.getElem?_eq_some_iff.1 h3).1).trans h3,r⟩
theorem cr2 {w:World} {R:Nat} {o fl tb:Option Nat} {j:Jr} {N n:Nat} {M:Mr} {rb pb a:Nat} {len:Int} (h:Asks w R o fl tb j N n M rb pb a len) (ha:a<4294967296) (hl:-9223372036854775808<=len/\len<=9223372036854775807):
  Q 121 #[Qt R 10,.agg #[U a,I len],.func (.func 40) #[K R] #[],.func (.func 91) #[] #[K rb,K pb]] w fun e w'=>
   ∃ v,e= .returned v/\w'.ownsRow w.heap.size 216 6 v (M.openL a len 9).length ((M.openL a len 9).flatMap rhcl)/\Bw w w':=by
 obtain ⟨i0,hi0,hz0,hz1,hz2⟩:=info_parts bl2;have II:=H4 hi0 hz0 hz1 hz2;clear hi0 hz0 hz1 hz2;obtain ⟨hb,PB⟩:=nw w 28 #[U a,I len];have hz:=aa1 w (.cells #[U a,I len] 28);go_enter Tryz.func121,Tryz.ntmps121;go_wp2_with fail;have H0:=H3 (h.held hb) PB hb;clear h PB hb;generalize w.alloc _=w2 at*;generalize hg:w.heap.size=g at*;have HG:=Zq hg;clear hg;go_loopw [9,15] (fun v i wr=>∃ (k:Nat) (vp:Option Addr) (vn vc:Nat),v= .slice vp vn vc/\k<=9/\i= I k/\(wr.ownsRow g 216 6 (.slice vp vn vc) (M.openL a len k).length ((M.openL a len k).flatMap rhcl)/\Bw w2 wr)) (fun _ i _=>9 - (intOf i).toNat)
 case atStart=>exact ⟨0,none,0,0,rfl,G,rfl,World.ownsRow_nil _ _ _ _,.refl _ _⟩
 case round=>
  obtain ⟨k,vp,vn,vc,rfl,hk,rfl,hown,hB⟩:=hrel;by_cases hk9:k<9
  ·have hkz:(k:Int)<9:=G
   have AW:=H0.out.1.held hB;have PW:=H0.out.2.1.held hB;have p0:=PW.at_ 0;have p1:=PW.at_ 1;obtain ⟨ok,hok⟩:∃ ok,(M.f ⟨a,len,k⟩).isSome=ok:=⟨_,rfl⟩;obtain ⟨r,hr⟩:∃ r,(M.f ⟨a,len,k⟩).getD Rt.zero=r:=⟨_,rfl⟩;have hkk:Rk.ok ⟨a,len,k⟩:=by
    refine ⟨ha,hl,?_,?_⟩
    ·show -9223372036854775808<=(k:Int)
     omega
    ·show (k:Int)<=9223372036854775807
     omega
   have hG:=ce4 AW.rr.tab a len k hkk hr hok;have R1:=H6 hown hB AW PW hok hr;have hsucc:=Zq (bx4 M a len k);obtain ⟨fr,id,seq,met,exp⟩:=r;clear hown hB AW PW hok hr hkk;have same:M.reachF a len k=none->Hid (∀ w',Below wr.heap.size wr w'->w'.ownsRow g 216 6 (.slice vp vn vc) (M.openL a len (k+1)).length ((M.openL a len (k+1)).flatMap rhcl)/\Bw w2 w'):=fun hn w' hb'=>by
    rw [hsucc.out,hn,Option.toList_none,List.append_nil];exact ⟨bf9 R1.out.1 hb',R1.out.2.1.trans (hb'.mono R1.out.2.1.size)⟩
   go_wp2_with fail;refine hG.mono ?_;rintro e w3 ⟨rfl,hb3⟩;unfold rV;have RB:=Blk.new w3 130 #[I fr,U id,U seq,V met,I exp];have hb4:=next hb3 (aa0 w3 (.cells #[I fr,U id,U seq,V met,I exp] 130));have B4:=H2 RB hb4;clear hG hb3 RB hb4 p0 p1
   cases ok with
   |false=>
    have hnone:M.reachF a len k=none:=by
     have h1:=R1.out.2.2.2.2.1;unfold Mr.reachF
     cases hf:M.f ⟨a,len,k⟩ with
     |none=>rfl
     |some r=>rw [hf] at h1; cases h1
    have S:=same hnone;clear same;go_wp2_with fail;go_roundw
    case rel=>exact ⟨k+1,vp,vn,vc,rfl,G,by go_num,S.out _ B4.out.2⟩
    case measure=>simp [intOf]; omega
   |true=>
    have hsome:M.f ⟨a,len,k⟩=some ⟨fr,id,seq,met,exp⟩:=by
     have h1:=R1.out.2.2.2.2.1;have h2:=R1.out.2.2.2.2.2
     cases hf:M.f ⟨a,len,k⟩ with
     |none=>rw [hf] at h1; cases h1
     |some r=>rw [hf] at h2; exact congrArg some h2
    have hfit:=R1.out.2.2.1.rr.fits.f _ _ hsome;obtain ⟨c,hc⟩:=ey (cAt M.c k);have hrf:M.reachF a len k=if c<1\/¬ M.fea a len ⟨fr,id,seq,met,exp⟩=true\/far met c=65535 then none else some (⟨fr,id,seq,met,exp⟩,far met c):=by
     unfold Mr.reachF;rw [hsome,<- hc]
    have hCo:=bk9 (R1.out.2.2.1.rr.held B4.out.2) k;rw [hc] at hCo;have RF:=H3 hrf hfit hCo;clear hrf hfit hCo hc hsome;go_wp2_with fail;refine RF.out.2.2.mono ?_;rintro e w5 ⟨rfl,rfl⟩;have RB:=B4.out.1;have hb6:=B4.out.2;have r0:=RB.at_ 0;have r1:=RB.at_ 1;have r2:=RB.at_ 2;have r3:=RB.at_ 3;have r4:=RB.at_ 4;have B6:=H2 RB hb6;clear RB hb6;by_cases hc1:c<1
    ·have S:=same (by rw [RF.out.1,if_pos (.inl hc1)])
     have d1:decide (c<1)=true:=decide_eq_true hc1;clear same;go_wp2_with fail;go_roundw
     case rel=>exact ⟨k+1,vp,vn,vc,rfl,G,by go_num,S.out _ B6.out.2⟩
     case measure=>simp [intOf]; omega
    ·have d1:decide (c<1)=false:=decide_eq_false hc1
     obtain ⟨q,hq⟩:=ey (M.fea a len ⟨fr,id,seq,met,exp⟩);have HQ:=Zq hq;clear hq;go_wp2_with fail;refine (da4 (R1.out.2.2.1.rr.held B6.out.2) ⟨ha,hl⟩ (R1.out.2.2.1.rbx.held B6.out.2) (R1.out.2.2.1.pbx.held B6.out.2) RF.out.2.1.id HQ.out).mono ?_;rintro e w6 ⟨rfl,hb6⟩;have RB:=B6.out.1.held hb6;have hb7:=next B6.out.2 hb6;clear r0 r1 r2 r3 r4;have r0:=RB.at_ 0;have r1:=RB.at_ 1;have r2:=RB.at_ 2;have r3:=RB.at_ 3;have r4:=RB.at_ 4;have B7:=H2 RB hb7;clear hb6 RB hb7 B6 B4
     cases q with
     |false=>
      have S:=same (by rw [RF.out.1,if_pos (.inr (.inl (by rw [HQ.out]; decide)))]);clear same;go_wp2_with fail;go_roundw
      case rel=>exact ⟨k+1,vp,vn,vc,rfl,G,by go_num,S.out _ B7.out.2⟩
      case measure=>simp [intOf]; omega
     |true=>
      have hm16:met<65536:=RF.out.2.1.met;have hBe:=az2 seq met c G G w6;obtain ⟨m,hm⟩:=ey (far met c);rw [hm] at hBe;have HM:=Zq hm;clear hm;go_wp2_with fail;refine hBe.mono ?_;rintro e w7 ⟨rfl,hb7⟩;have RB:=B7.out.1.held (next hb7 (aa0 w7 (.cells #[U seq,V m] 69)));have DB:=Blk.new w7 69 #[U seq,V m];have hb8:=next B7.out.2 (next hb7 (aa0 w7 (.cells #[U seq,V m] 69)));clear r0 r1 r2 r3 r4 hBe;generalize hD:w7.heap.size=D at*;have B8:=H3 RB DB hb8;clear hb7 RB hb8 B7 DB;go_wp2_with fail;generalize w7.alloc _=w8 at*;have d0:=B8.out.2.1.at_ 0;have d1':=B8.out.2.1.at_ 1;obtain ⟨l,hl'⟩:∃ l,(m==65535)=l:=⟨_,rfl⟩;have HLo:=Zq hl';clear hl' hD;go_wp2_with fail;refine (af6 HLo.out w8).mono ?_;rintro e w9 ⟨rfl,hb9⟩;have RB:=B8.out.1.held hb9;have DB:=B8.out.2.1.held hb9;have hb10:=next B8.out.2.2 hb9;clear d0 d1'
      cases l with
      |true=>
       have S:=same (by rw [RF.out.1,if_pos (.inr (.inr (by rw [HM.out]; exact eq_of_beq HLo.out)))]);have B9:=Zq hb10;clear same RB DB hb9 hb10;go_wp2_with fail;go_roundw
       case rel=>exact ⟨k+1,vp,vn,vc,rfl,G,by go_num,S.out _ B9.out⟩
       case measure=>simp [intOf]; omega
      |false=>
       have hre:M.reachF a len k=some (⟨fr,id,seq,met,exp⟩,m):=by
        rw [RF.out.1,if_neg,HM.out];rintro (h|h|h)
        ·omega
        ·exact h HQ.out
        ·rw [HM.out] at h; rw [h] at HLo; exact absurd HLo.out (by decide)
       have hs2:=hsucc.out;rw [hre,Option.toList_some] at hs2;have r0:=RB.at_ 0;have r1:=RB.at_ 1;have r2:=RB.at_ 2;have r3:=RB.at_ 3;have r4:=RB.at_ 4;have e0:=DB.at_ 0;have e1:=DB.at_ 1;have hown:=bf9 R1.out.1 hb10;have hB:=R1.out.2.1.trans (hb10.mono R1.out.2.1.size);have hlen:=bg1 M a len k;have B9:=H3 hB hs2 hlen;clear same RB DB hb9 hb10 hre hs2 hB;go_wp2_with (first|(at_builtin; refine wpList_append_own _ rfl (.tmp 45) (.tmp 50) 213 rfl g 216 i0 (.agg #[I 0,U 0,U 0,V 0,I 0,V 0]) 6 40 X II.out.1 II.out.2.1 II.out.2.2.1 II.out.2.2.2 rfl (by decide) _ _ _ rfl (hown.alloc _) ⟨w9.heap.size,0,none⟩ 1 1 (rhcl (⟨fr,id,seq,met,exp⟩,m)) rfl ?c1 ?c2 ?c3 ?c4 ?c5 ?c6 ?_))
       case c1=>rfl
       case c2=>
        intro j u hj;rw [Addr.add_mid,Nat.zero_add,ab3];simpa [rhcl] using hj
       case c3=>
        intro u hu;simp only [rhcl,List.mem_cons,List.not_mem_nil,or_false] at hu;rcases hu with rfl|rfl|rfl|rfl|rfl|rfl<;>rfl
       case c4=>have:=B9.out.2.2; unfold maxLen; omega
       case c5=>have:=B9.out.2.2; omega
       case c6=>
        have h1:=B9.out.1.size;have h2:=H0.out.2.2.size;have h3:=HG.out;have h4:=aa1 w9 (.cells #[I fr,U id,U seq,V met,I exp,V m] 216);omega
       intro v' w10 hown' hgrow hnil;have hfin:w10.ownsRow g 216 6 v' (M.openL a len (k+1)).length ((M.openL a len (k+1)).flatMap rhcl):=by
        rw [B9.out.2.1,List.length_append,List.flatMap_append];simpa using hown'
       obtain ⟨vp',vn',vc',rfl⟩:∃ p n c,v'= .slice p n c:=by
        rcases hown'.2 with ⟨rfl,-⟩|⟨_,_,_,rfl,-⟩
        ·exact ⟨_,_,_,rfl⟩
        ·exact ⟨_,_,_,rfl⟩
       have hB10:Below w2.heap.size w2 w10:=by
        refine ((B9.out.1.alloc B9.out.1.size _).grown hgrow ?_ ?_)
        ·exact Nat.le_trans B9.out.1.size (by rw [aa1]; omega)
        ·intro b hb
         have hg1:g+1=w2.heap.size:=hz.symm;have:=hown.lt b hb;rcases hown.2 with ⟨h1,-⟩|⟨g',cap',cur,h1,h2,h3,-⟩
         ·rw [h1] at hb; cases hb
         ·rw [h1] at hb
          cases hb;rcases Nat.lt_or_ge g' w2.heap.size with h4|h4
          ·exfalso
           have hgg:g'=g:=G
           have h5:=(H0.out.2.1.held B9.out.1);unfold Blk at h5;rw [hgg] at h3;rw [h5] at h3
           cases h3
          ·exact h4
       have Z:=H2 hfin hB10;clear hfin hB10 hown hown' hgrow hnil r0 r1 r2 r3 r4 e0 e1;go_wp2_with fail;go_roundw
       case rel=>exact ⟨k+1,vp',vn',vc',rfl,G,by go_num,Z.out⟩
       case measure=>simp [intOf]; omega
  ·obtain rfl:k=9:=G
   have Z:=Zq (And.intro hown (H0.out.2.2.trans (hB.mono (by have:=H0.out.2.2.size; have:=HG.out; omega))));clear hown hB;go_wp2_with fail;go_ret;obtain rfl:=HG.out;exact ⟨_,rfl,Z.out⟩
end
end Go.Proofs.YtafkfnodcemefaaGreat
namespace Go.Proofs.YtafkfnodcemefaaGreat.Om
open _root_.Go.Proofs.Tryz (prog)
section
def pcmp (a:Int) (n:Int) (b:Int) (m:Int):Int:=or2 (cmpI a b) (cmpI n m)
end
end Go.Proofs.YtafkfnodcemefaaGreat.Om
namespace Go.Proofs.YtafkfnodcemefaaGreat
open _root_.Go.Proofs.Tryz (prog)
section
open Go.RowKit
theorem nanInt (x:Int) (w:World):Q 165 #[I x] w fun e w'=>e= .returned (O false)/\w=w':=by
 go_enter Tryz.func165,Tryz.ntmps165;go_wp2;go_ret;exact ⟨by simp,rfl⟩
theorem cmpInt (x y:Int) (w:World):Q 134 #[I x,I y] w fun e w'=>e= .returned (I (cmpI x y))/\w=w':=by
 rcases Int.lt_trichotomy x y with h|h|h
 ·have F:=Z (bn9 h)
  go_enter Tryz.func134,Tryz.ntmps134;go_wp2_with (go_at_call 165; refine (nanInt _ _).mono ?_; rintro e w' ⟨rfl,rfl⟩);go_ret;exact ⟨ab0 F.out.symm,rfl⟩
 ·subst h
  have F:=Z (aw6 x);go_enter Tryz.func134,Tryz.ntmps134;go_wp2_with (go_at_call 165; refine (nanInt _ _).mono ?_; rintro e w' ⟨rfl,rfl⟩);go_ret;exact ⟨ab0 F.out.symm,rfl⟩
 ·have F:=Z (bo0 h)
  go_enter Tryz.func134,Tryz.ntmps134;go_wp2_with (go_at_call 165; refine (nanInt _ _).mono ?_; rintro e w' ⟨rfl,rfl⟩);go_ret;exact ⟨ab0 F.out.symm,rfl⟩
end
section
open Go.RowKit Go.Sort
variable {w w':World}{v:Value}{g j n:Nat}{e:TypeId}
def Gr (w w':World):Prop:=∃ q os,w'=grow (w.drewN q) os
theorem Gr.refl (w:World):Gr w w:=⟨0,#[],by rw [grow_empty]; rfl⟩
theorem Gr.alloc (h:Gr w w') (o:Obj):Gr w (w'.alloc o):=by
 obtain ⟨q,os,rfl⟩:=h;exact ⟨q,os++#[o],by rw [alloc_eq_grow,grow_grow]⟩
theorem Gr.drewN (h:Gr w w') (n:Nat):Gr w (w'.drewN n):=by
 obtain ⟨q,os,rfl⟩:=h;exact ⟨q+n,os,by show grow ((w.drewN q).drewN n) os=_; rw [World.drewN_drewN]⟩
theorem Gr.drew (h:Gr w w'):Gr w w'.drew:=h.drewN 1
theorem Gr.trans {a b c:World} (h:Gr a b) (k:Gr b c):Gr a c:=by
 obtain ⟨q,os,rfl⟩:=k;obtain ⟨q0,os0,rfl⟩:=h;exact ⟨q0+q,os0++os,by show grow (grow ((a.drewN q0).drewN q) os0) os=_; rw [grow_grow,World.drewN_drewN]⟩
theorem Gr.below (h:Gr w w'):Below w.heap.size w w':=by
 obtain ⟨q,os,rfl⟩:=h;exact ⟨rfl,rfl,rfl,by show w.heap.size<=_; rw [size_grow]; exact Nat.le_add_right _ _,fun k hk=>heap_grow_old (w.drewN q) os hk⟩
theorem Gr.cell (h:Gr w w') {a:Addr} {v:Value} (hc:w.cell? a=some v):w'.cell? a=some v:=held h.below hc
def cfP (x y:Pk):Int:=Om.pcmp x.a x.n y.a y.n
def cfK (x y:Ky):Int:=or2 (Om.pcmp x.a x.n y.a y.n) (cmpI x.id y.id)
theorem cc0 (w:World) (t t':TypeId) (C D:Array Value):Gr w ((w.alloc (.cells C t)).alloc (.cells D t')):=((Gr.refl w).alloc _).alloc _
theorem bn8 (a n b m:Int) (w:World):
  Q 103 #[.agg #[U a,I n],.agg #[U b,I m]] w fun e w'=>e= .returned (I (Om.pcmp a n b m))/\Gr w w':=by
 have D:Hid (or2 (cmpI a b) (cmpI n m)=Om.pcmp a n b m):=Z rfl;go_enter Tryz.func103,Tryz.ntmps103;go_wp2_with fail;have A:=(Blk.new w 28 #[U a,I n]).more (.cells #[U b,I m] 28);have B:=Blk.new (w.alloc (.cells #[U a,I n] 28)) 28 #[U b,I m];rw [aa1] at B;have a0:=A.at_ 0;have a1:=A.at_ 1;have b0:=B.at_ 0;have b1:=B.at_ 1;have HB:=Z (cc0 w 28 28 #[U a,I n] #[U b,I m]);clear A B;generalize (w.alloc (.cells #[U a,I n] 28)).alloc (.cells #[U b,I m] 28)=w2 at*;go_region_held3 (fun w'=>w'.cell? (Y w.heap.size 0)=some (U a)/\w'.cell? (Y w.heap.size 1)=some (I n)/\w'.cell? (Y (w.heap.size+1) 0)=some (U b)/\w'.cell? (Y (w.heap.size+1) 1)=some (I m)) (go_keep)
  (first|(go_at_call 133; refine (cmp32 _ _ _).mono ?_; rintro e w' ⟨rfl,rfl⟩)|(go_at_call 134; refine (cmpInt _ _ _).mono ?_; rintro e w' ⟨rfl,rfl⟩)|(go_at_call 132; refine (cg2 _ (cmpI a b) (cmpI n m) _ ?_ ?_).mono ?_; (· exact (ab3 _ _ _ _).trans rfl); (· exact (ab3 _ _ _ _).trans rfl); rintro e w' ⟨rfl,rfl⟩))
 go_wp2;go_ret;exact ⟨ab0 D.out,(HB.out.alloc _).drew⟩
theorem df6 (a n:Int) (i:Int) (b m j:Int) (w:World):
  Q 127 #[.agg #[U a,I n,U i],.agg #[U b,I m,U j]] w fun e w'=>e= .returned (I (or2 (Om.pcmp a n b m) (cmpI i j)))/\Gr w w':=by
 go_enter Tryz.func127,Tryz.ntmps127;go_wp2_with fail;have A:=(Blk.new w 185 #[U a,I n,U i]).more (.cells #[U b,I m,U j] 185);have B:=Blk.new (w.alloc (.cells #[U a,I n,U i] 185)) 185 #[U b,I m,U j];rw [aa1] at B;have a0:=A.at_ 0;have a1:=A.at_ 1;have a2:=A.at_ 2;have b0:=B.at_ 0;have b1:=B.at_ 1;have b2:=B.at_ 2;have HB:=Z (cc0 w 185 185 #[U a,I n,U i] #[U b,I m,U j]);clear A B;generalize (w.alloc (.cells #[U a,I n,U i] 185)).alloc (.cells #[U b,I m,U j] 185)=w2 at*;obtain ⟨r,hr⟩:=eX (Om.pcmp a n b m);have HP:Hid (∀ w,Q 103 #[.agg #[U a,I n],.agg #[U b,I m]] w fun e w'=>e= .returned (I r)/\Gr w w'):=Z (hr ▸ bn8 a n b m);have D:Hid (or2 r (cmpI i j)=or2 (Om.pcmp a n b m) (cmpI i j)):=Z (by rw [hr]);clear hr;go_region_held3 (fun w'=>w'.cell? (Y w.heap.size 0)=some (U a)/\w'.cell? (Y w.heap.size 1)=some (I n)/\w'.cell? (Y w.heap.size 2)=some (U i)/\w'.cell? (Y (w.heap.size+1) 0)=some (U b)/\w'.cell? (Y (w.heap.size+1) 1)=some (I m)/\w'.cell? (Y (w.heap.size+1) 2)=some (U j)) (go_keep)
  (first|(go_at_call 103; refine (HP.out _).mono ?_; rintro e w3 ⟨rfl,hg⟩; have z0:=hg.cell a0; have z1:=hg.cell a1; have z2:=hg.cell a2; have y0:=hg.cell b0; have y1:=hg.cell b1; have y2:=hg.cell b2; replace hg:=Z hg)|(go_at_call 133; refine (cmp32 _ _ _).mono ?_; rintro e w' ⟨rfl,rfl⟩)|(go_at_call 132; refine (cg2 _ r (cmpI i j) _ ?_ ?_).mono ?_; (· exact (ab3 _ _ _ _).trans rfl); (· exact (ab3 _ _ _ _).trans rfl); rintro e w' ⟨rfl,rfl⟩))
 all_goals
  go_wp2;go_ret;exact ⟨ab0 D.out,((HB.out.drew.trans hg.out).alloc _)⟩
def ltP (x y:Pk):Prop:=x.a<y.a\/x.a=y.a/\x.n<y.n
def ltK (x y:Ky):Prop:=ltP ⟨x.a,x.n⟩ ⟨y.a,y.n⟩\/(x.a=y.a/\x.n=y.n)/\x.id<y.id
theorem cm4 (x y:Pk):ltOf cfP x y=true↔ltP x y:=by
 unfold ltOf cfP Om.pcmp or2 cmpI ltP;rw [decide_eq_true_eq];split<;>(try split)<;>(try split)<;>(try split)<;>omega
theorem cm6 (x y:Ky):ltOf cfK x y=true↔ltK x y:=by
 unfold ltOf cfK Om.pcmp or2 cmpI ltK ltP;rw [decide_eq_true_eq];dsimp only;split<;>(try split)<;>(try split)<;>(try split)<;>(try split)<;>(try split)<;>omega
theorem bt9 (x y:Pk):ltOf cfP x y=false↔¬ ltP x y:=by rw [<- cm4,Bool.not_eq_true]
theorem cm5 (x y:Ky):ltOf cfK x y=false↔¬ ltK x y:=by rw [<- cm6,Bool.not_eq_true]
theorem swoP:SWO (ltOf cfP) where
 irrefl x:=by rw [bt9]; unfold ltP; omega
 trans x y z h1 h2:=by rw [cm4] at*; unfold ltP at*; omega
 ntrans x y z h1 h2:=by rw [bt9] at*; unfold ltP at*; omega
theorem swoK:SWO (ltOf cfK) where
 irrefl x:=by rw [cm5]; unfold ltK ltP; dsimp only; omega
 trans x y z h1 h2:=by rw [cm6] at*; unfold ltK ltP at*; dsimp only at*; omega
 ntrans x y z h1 h2:=by rw [cm5] at*; unfold ltK ltP at*; dsimp only at*; omega
section
variable {α:Type} [Inhabited α] {cl:α->List Value} {k:Nat}
theorem flat_get (hk:∀ x,(cl x).length=k):∀ (xs:List α) (j:Nat),j<xs.length*k->(xs.flatMap cl)[j]?=(cl xs[j / k]!)[j % k]?
 |[],j,h=>by simp at h
 |x::r,j,h=>by
  have hk0:0<k:=by
   rcases Nat.eq_zero_or_pos k with h0|h0
   ·subst h0; simp at h
   ·exact h0
  rw [List.flatMap_cons];by_cases hj:j<k
  ·rw [List.getElem?_append_left (by rw [hk]; exact hj),Nat.div_eq_of_lt hj,Nat.mod_eq_of_lt hj]
   rfl
  ·have hj':k<=j:=Nat.le_of_not_lt hj
   have h':j - k<r.length*k:=by rw [List.length_cons,Nat.add_mul,Nat.one_mul] at h; omega
   rw [List.getElem?_append_right (by rw [hk]; exact hj'),hk,flat_get hk r (j - k) h'];have e1:j / k=(j - k) / k+1:=by
    have:j=(j - k)+k:=G
    conv=>lhs; rw [this]
    exact Nat.add_div_right _ hk0
   have e2:j % k=(j - k) % k:=by
    have:j=(j - k)+k:=G
    conv=>lhs; rw [this]
    exact Nat.add_mod_right _ _
   rw [e1,e2];simp
def Row (cl:α->List Value) (k:Nat) (w:World) (v:Value) (xs:List α):Prop:=
 (v= .slice none 0 0/\xs=[])\/∃ g cap,v= Lt g xs.length cap/\xs.length<=cap/\cap<=maxLen/\∀ i (h:i<xs.length) j,j<k->w.cell? (Y g (i*k+j))=(cl xs[i])[j]?
omit [Inhabited α] in
theorem Row.slice {xs:List α} (h:Row cl k w v xs):∃ p n c,v= .slice p n c:=by
 rcases h with ⟨rfl,-⟩|⟨g,cap,rfl,-⟩
 ·exact ⟨_,_,_,rfl⟩
 ·exact ⟨_,_,_,rfl⟩
theorem bnd_at {i k:Nat} (hi:i<n) (hj:j<k):i*k+j<n*k:=by
 have:=Nat.mul_le_mul_right k (show i+1<=n from hi);rw [Nat.add_mul,Nat.one_mul] at this;omega
theorem getB {l:List Value} (h:j<l.length):l[j]?=some (l[j]!):=by rw [List.getElem?_eq_getElem h]; simp [h]
theorem Row.of_owns {base:Nat} {xs:List α} (hk:∀ x,(cl x).length=k) (h:w.ownsRow base e k v xs.length (xs.flatMap cl)):Row cl k w v xs:=by
 rcases h.2 with ⟨rfl,h0⟩|⟨g,cap,cur,rfl,-,hb,h1,h2,h3,h4⟩
 ·exact .inl ⟨rfl,List.eq_nil_of_length_eq_zero h0⟩
 ·refine .inr ⟨g,cap,rfl,h1,h2,fun i hi j hj=>?_⟩
  have hj2:i*k+j<xs.length*k:=bnd_at hi hj;have e1:(xs.flatMap cl)[i*k+j]?=(cl xs[i])[j]?:=by
   have hk0:0<k:=G
   rw [flat_get hk xs _ hj2,show (i*k+j) / k=i from by rw [Nat.mul_comm,Nat.mul_add_div hk0,Nat.div_eq_of_lt hj]; rfl,show (i*k+j) % k=j from by rw [Nat.mul_comm,Nat.mul_add_mod,Nat.mod_eq_of_lt hj]];simp [hi]
  rw [<- e1,<- h4];simp only [World.cell?,hb];rw [List.getElem?_take_of_lt (by exact hj2)];simp
theorem ae4 {cur:Array Value} {xs:List α} (hk:∀ x,(cl x).length=k) (hb:w.heap[g]?=some (.cells cur e (0,0))) (h4:cur.toList.take (xs.length*k)=xs.flatMap cl):HoldsK cl k w g 0 xs.toArray:=by
 intro j hj;have hj:j<xs.length*k:=by simpa using hj
 have e1:(xs.flatMap cl)[j]?=some ((flatK cl k xs.toArray)[j]!):=by
  rw [get_flatK _ _ _ _ (by simpa using hj),flat_get hk xs j hj];have hk0:0<k:=by
   rcases Nat.eq_zero_or_pos k with h0|h0
   ·subst h0; simp at hj
   ·exact h0
  have hl:j % k<(cl xs[j / k]!).length:=by rw [hk]; exact Nat.mod_lt _ hk0
  rw [getB hl];simp
 refine ⟨?_,by simp [World.frozen?,hb]⟩;show w.cell? (Y g (0+j))=some _;rw [Nat.zero_add];show _=some ((flatK cl k xs.toArray)[j]!);rw [<- e1,<- h4,List.getElem?_take_of_lt hj];simp [World.cell?,hb]
theorem ae0 {os:Array Obj} (d:Array α):w.grownBy (sortWorldK cl k w g 0 n d os) (some g):=by
 unfold sortWorldK;refine ⟨rfl,rfl,rfl,by rw [size_grow,size_putRowK]; exact Nat.le_add_right _ _,fun i hi hne=>?_⟩;rw [heap_grow_old _ _ (by rw [size_putRowK]; exact hi)];show (Array.modify _ g _)[i]?=_;rw [Array.getElem?_modify,if_neg (fun e=>hne (by rw [e]))];rfl
theorem Row.of_holds {cap:Nat} {d:Array α} (hk:∀ x,(cl x).length=k) (h:HoldsK cl k w g 0 d) (h1:d.size<=cap) (h2:cap<=maxLen):Row cl k w (Lt g d.size cap) d.toList:=by
 refine .inr ⟨g,cap,sn,by simpa using h1,h2,fun i hi j hj=>?_⟩;have hi':i<d.size:=by simpa using hi
 have:=(h.cell hi' hj).1;rw [Nat.zero_add] at this;have hl:j<(cl d[i]!).length:=by rw [hk]; exact hj
 rw [this,show d.toList[i]=d[i]! from by simp [hi'],getB hl]
omit [Inhabited α] in
theorem Row.keep {xs:List α} {L:List Nat} (h:Row cl k w v xs) (hK:Keep L w w') (hL:∀ b,v.ownBlock=some b->b∈L):Row cl k w' v xs:=by
 rcases h with ⟨rfl,rfl⟩|⟨g,cap,rfl,h1,h2,h3⟩
 ·exact .inl ⟨rfl,rfl⟩
 ·exact .inr ⟨g,cap,rfl,h1,h2,fun i hi j hj=>by rw [World.cell?_of_block (hK g (hL g rfl))]; exact h3 i hi j hj⟩
theorem ai4 {lt:α->α->Bool} {d:Array α} (h:SortedIn lt 0 d.size d):d.toList.Pairwise fun x y=>lt y x=false:=by
 rw [List.pairwise_iff_getElem];intro i j hi hj hij;have:=h i j (Nat.zero_le _) hij (by simpa using hj);simp only [Array.length_toList] at hi hj;simpa [hi,hj] using this
theorem ap9 {d d':Array α} (h:PermIn 0 d.size d d'):d'.toList.Perm d.toList:=by
 have h3:=h.2.2;rw [<- h.1] at h3;have e:d'.extract 0 d'.size=d':=sn;rw [e,h.1] at h3;simpa using h3
end
def itL (B1 B2:Nat) (v:Value) (o:Option Nat):List Nat:=B1::B2::(v.ownBlock.toList++o.toList)
theorem ad9 {B1 B2:Nat} {o:Option Nat} {b:Nat}:b∈itL B1 B2 v o↔b=B1\/b=B2\/v.ownBlock=some b\/o=some b:=by
 unfold itL;simp [eq_comm]
end
section
open Go.RowKit Go.Maps Rm
def nearest (xs:List Rh) (x:Rh):Bool:=xs.all fun o=>decide (x.2<=o.2)
def pickL (xs:List Rh):Option Rh:=xs.find? (nearest xs)
def Mr.pick (M:Mr) (a:Nat) (len:Int):Option Rt:=(pickL (M.openL a len 9)).map (·.1)
theorem ck6 {α:Type} {p:α->Bool} {xs:List α} (h:∀ i (h:i<xs.length),p xs[i]=false):xs.find? p=none:=by
 rw [List.find?_eq_none];intro x hx;obtain ⟨i,hi,rfl⟩:=List.mem_iff_getElem.1 hx;rw [h i hi];simp
theorem df0 {α:Type} {p:α->Bool} {xs:List α} {k:Nat} (hk:k<xs.length) (h:∀ i (h:i<xs.length),i<k->p xs[i]=false) (hp:p xs[k]=true):xs.find? p=some xs[k]:=by
 rw [List.find?_eq_some_iff_getElem];refine ⟨hp,k,hk,rfl,fun j hj=>?_⟩;rw [h j G hj];rfl
theorem cq6 {w:World} {R:Nat} {o fl tb:Option Nat} {j:Jr} {N n:Nat} {M:Mr} {rb pb a:Nat} {len:Int} (h:Asks w R o fl tb j N n M rb pb a len) (ha:a<4294967296) (hl:-9223372036854775808<=len/\len<=9223372036854775807) {r:Rt} {ok:Bool} (hr:(M.pick a len).getD Rt.zero=r) (hok:(M.pick a len).isSome=ok):
  Kc 90 #[Qt R 10,.agg #[U a,I len],.func (.func 40) #[K R] #[],.func (.func 91) #[] #[K rb,K pb]] w fun e w'=>
   e= .returned (.tuple #[rV r,O ok])/\Bw w w':=by
 have PB:=(Blk.new w 28 #[U a,I len]).more (.cells #[I 0,U 0,U 0,V 0,I 0] 130);have RB:=Blk.new (w.alloc (.cells #[U a,I len] 28)) 130 #[I 0,U 0,U 0,V 0,I 0];rw [aa1] at RB;have hb:=next (aa0 w (.cells #[U a,I len] 28)) (aa0 _ (.cells #[I 0,U 0,U 0,V 0,I 0] 130));have HA:=h.held hb;have HR:=H2 hr hok;clear h hr hok;go_enter Tryz.func90,Tryz.ntmps90;go_wp2_with fail;have p0:=PB.at_ 0;have p1:=PB.at_ 1;have HO:=cr2 HA ha hl;have H0:=Zq (And.intro RB (And.intro hb HO));clear HA RB hb HO PB;generalize hg:w.heap.size=g at*;have HG:=Zq hg;clear hg;generalize (w.alloc (.cells #[U a,I len] 28)).alloc (.cells #[I 0,U 0,U 0,V 0,I 0] 130)=w2 at*;go_step3;go_wp2_with fail;refine H0.out.2.2.mono ?_;rintro e w3 ⟨v,rfl,hown,hb3⟩;have hrow:=Row.of_owns cq3 hown;generalize hxs:M.openL a len 9=xs at*;have hn9:xs.length<=9:=by rw [<- hxs]; exact bg1 _ _ _ _
 obtain ⟨vp,vc,rfl,hcells⟩:∃ vp vc,v= .slice vp xs.length vc/\∀ k (hk:k<xs.length),∃ g',vp=some ⟨g',0,none⟩/\∀ j,j<6->w3.cell? (Y g' (k*6+j))=(rhcl xs[k])[j]?:=by
  rcases hrow with ⟨rfl,rfl⟩|⟨g',cap,rfl,h1,h2,h3⟩
  ·exact ⟨none,0,rfl,fun k hk=>by simp at hk⟩
  ·exact ⟨_,cap,rfl,fun k hk=>⟨g',rfl,fun j hj=>h3 k hk j hj⟩⟩
 have RB3:=H0.out.1.held hb3;have H3:=Zq (And.intro RB3 (And.intro (H0.out.2.1.trans (hb3.mono (by have:=H0.out.1.lt; omega))) (And.intro hcells hxs)));clear hown hb3 hrow hcells RB3 H0 p0 p1 hxs;go_wp2_with fail;go_step3;go_wp2_with fail;go_loopw [22] (fun i wr=>∃ k:Nat,k<=xs.length/\i= I k/\(Below w3.heap.size w3 wr/\∀ i (h:i<xs.length),i<k->nearest xs xs[i]=false)) (fun i _=>xs.length - (intOf i).toNat)
 case atStart=>exact ⟨0,G,rfl,.refl _ _,fun i _ h=>by omega⟩
 case round=>
  obtain ⟨k,hk,rfl,hB,hno⟩:=hrel;by_cases hkx:k<xs.length
  ·obtain ⟨g',rfl,hc⟩:=H3.out.2.2.1 k hkx
   obtain ⟨⟨⟨fr,id,seq,met,exp⟩,m⟩,hx⟩:∃ x,xs[k]=x:=⟨_,rfl⟩;rw [hx] at hc;have c0:=held hB (hc 0 G);have c1:=held hB (hc 1 G);have c2:=held hB (hc 2 G);have c3:=held hB (hc 3 G);have c4:=held hB (hc 4 G);have c5:=held hB (hc 5 G);simp only [Nat.add_zero] at c0;have WB:=Blk.new wr 216 (rhcl (⟨fr,id,seq,met,exp⟩,m)).toArray;have hb4:=hB.trans ((aa0 wr (.cells (rhcl (⟨fr,id,seq,met,exp⟩,m)).toArray 216)).mono hB.size);have R:=H4 hno WB hb4 hx;clear hno WB hb4 hx hc hB;go_wp2_with fail;generalize hW:wr.heap.size=W at*;have HW:=Zq hW;clear hW c0 c1 c2 c3 c4 c5;generalize hw5:wr.alloc (.cells #[I fr,U id,U seq,V met,I exp,V m] 216)=w5 at*;have WB5:Blk 216 w5 W #[I fr,U id,U seq,V met,I exp,V m]:=by rw [<- hw5,<- HW.out]; exact Blk.new wr _ _
   have hb5:Below w3.heap.size w3 w5:=by rw [<- hw5]; exact R.out.2.2.1
   have R5:=H4 R.out.1 WB5 hb5 R.out.2.2.2;clear R WB5 hb5 hw5;go_loopw [28] (fun j wr=>∃ q:Nat,q<=xs.length/\j= I q/\(Below w5.heap.size w5 wr/\∀ i (h:i<xs.length),i<q->m<=xs[i].2)) (fun j _=>xs.length - (intOf j).toNat)
   case atStart=>exact ⟨0,G,rfl,.refl _ _,fun i _ h=>by omega⟩
   case round=>
    obtain ⟨q,hq,rfl,hB,hle⟩:=hrel;by_cases hqx:q<xs.length
    ·obtain ⟨g2,he2,hc⟩:=H3.out.2.2.1 q hqx
     cases he2;obtain ⟨⟨⟨fr2,id2,seq2,met2,exp2⟩,m2⟩,hx2⟩:∃ x,xs[q]=x:=⟨_,rfl⟩;rw [hx2] at hc;have hB3:=R5.out.2.2.1.trans (hB.mono R5.out.2.2.1.size);have c0:=held hB3 (hc 0 G);have c1:=held hB3 (hc 1 G);have c2:=held hB3 (hc 2 G);have c3:=held hB3 (hc 3 G);have c4:=held hB3 (hc 4 G);have c5:=held hB3 (hc 5 G);simp only [Nat.add_zero] at c0;have hbn:=aa0 wr (.cells #[I fr2,U id2,U seq2,V met2,I exp2,V m2] 216);have WBn:=(R5.out.2.1.held hB).held hbn;have wl:W<wr.heap.size:=(R5.out.2.1.held hB).lt;have w5':=WBn.at_ 5;have Q:=H5 hB hle hx2 hbn (hB.trans (hbn.mono hB.size));clear hB hle hx2 hc hB3 hbn WBn
     cases hlt:decide (m2<m) with
     |true=>
      have hno:nearest xs (⟨fr,id,seq,met,exp⟩,m)=false:=by
       unfold nearest;rw [List.all_eq_false];exact ⟨xs[q],List.getElem_mem hqx,by rw [Q.out.2.2.1]; have:=of_decide_eq_true hlt; simp; omega⟩
      have N:=Zq hno;clear hno;go_wp2_with fail;go_roundw
      case rel=>
       refine ⟨k+1,G,by go_num,R5.out.2.2.1.trans (Q.out.2.2.2.2.mono R5.out.2.2.1.size),fun i h hi=>?_⟩;by_cases e:i=k
       ·subst e; rw [R5.out.2.2.2]; exact N.out
       ·exact R5.out.1 i h G
      case measure=>simp [intOf]; omega
     |false=>
      go_wp2_with fail;go_roundw
      case rel=>
       refine ⟨q+1,G,by go_num,Q.out.2.2.2.2,fun i h hi=>?_⟩;by_cases e:i=q
       ·subst e; rw [Q.out.2.2.1]; have:=of_decide_eq_false hlt; omega
       ·exact Q.out.2.1 i h G
      case measure=>simp [intOf]; omega
    ·obtain rfl:q=xs.length:=G
     have hnear:nearest xs xs[k]=true:=by
      rw [R5.out.2.2.2];unfold nearest;rw [List.all_eq_true];intro x hx;obtain ⟨i,hi,rfl⟩:=List.mem_iff_getElem.1 hx;exact decide_eq_true (hle i hi hi)
     have hpk:M.pick a len=some ⟨fr,id,seq,met,exp⟩:=by
      unfold Mr.pick pickL;rw [H3.out.2.2.2,df0 hkx (fun i h hi=>R5.out.1 i h hi) hnear,R5.out.2.2.2];rfl
     have hans:(⟨fr,id,seq,met,exp⟩:Rt)=r/\true=ok:=by
      have h1:=HR.out.1;have h2:=HR.out.2;rw [hpk] at h1 h2;exact ⟨h1,h2⟩
     obtain ⟨rfl,rfl⟩:=hans;have WB:=R5.out.2.1.held hB;have hB3:=R5.out.2.2.1.trans (hB.mono R5.out.2.2.1.size);have RB:=H3.out.1.held hB3;have c0:=WB.at_ 0;have c1:=WB.at_ 1;have c2:=WB.at_ 2;have c3:=WB.at_ 3;have c4:=WB.at_ 4;have r0:=RB.at_ 0;have r1:=RB.at_ 1;have r2:=RB.at_ 2;have r3:=RB.at_ 3;have r4:=RB.at_ 4;have f0:=RB.free 0;have f1:=RB.free 1;have f2:=RB.free 2;have f3:=RB.free 3;have f4:=RB.free 4;have R4:=((((RB.store 0 (I fr)).store 1 (U id)).store 2 (U seq)).store 3 (V met)).store 4 (I exp);have hb9:Below w.heap.size w wr:=(H3.out.2.1.trans (hB3.mono (by have:=H3.out.2.1.size; have:=HG.out; omega))).mono (by have:=HG.out; omega);have hb10:Below w.heap.size w (((((wr.setCell (Y (g+1) 0) (I fr)).setCell (Y (g+1) 1) (U id)).setCell (Y (g+1) 2) (U seq)).setCell (Y (g+1) 3) (V met)).setCell (Y (g+1) 4) (I exp)):=by
      have hgg:=HG.out;exact ((((hb9.setCell (by simp; omega) _).setCell (by simp; omega) _).setCell (by simp; omega) _).setCell (by simp; omega) _).setCell (by simp; omega) _
     have Z:=H2 R4 hb10;clear WB hB3 RB R4 hb9 hb10 hB hle hnear hpk;go_wp2_with fail;rw [Exit.noGoto_ret]
     (try go_wp2_with fail)
     refine bodyPost_ret (v:= .tuple #[rV ⟨fr,id,seq,met,exp⟩,O true]) ?_ rfl ⟨rfl,Z.out.2⟩;have q0:=Z.out.1.at_ 0;have q1:=Z.out.1.at_ 1;have q2:=Z.out.1.at_ 2;have q3:=Z.out.1.at_ 3;have q4:=Z.out.1.at_ 4;clear Z c0 c1 c2 c3 c4 r0 r1 r2 r3 r4 f0 f1 f2 f3 f4;generalize ((((wr.setCell (Y (g+1) 0) (I fr)).setCell (Y (g+1) 1) (U id)).setCell (Y (g+1) 2) (U seq)).setCell (Y (g+1) 3) (V met)).setCell (Y (g+1) 4) (I exp)=Z at*;simp [results,Tryz.results90,go_sem,q0,q1,q2,q3,q4,rV]
  ·obtain rfl:k=xs.length:=G
   have hpk:M.pick a len=none:=by
    unfold Mr.pick pickL;rw [H3.out.2.2.2,ck6 (fun i h=>hno i h h)];rfl
   have hans:Rt.zero=r/\false=ok:=by
    have h1:=HR.out.1;have h2:=HR.out.2;rw [hpk] at h1 h2;exact ⟨h1,h2⟩
   obtain ⟨rfl,rfl⟩:=hans;have RB:=H3.out.1.held hB;have r0:=RB.at_ 0;have r1:=RB.at_ 1;have r2:=RB.at_ 2;have r3:=RB.at_ 3;have r4:=RB.at_ 4;have f0:=RB.free 0;have f1:=RB.free 1;have f2:=RB.free 2;have f3:=RB.free 3;have f4:=RB.free 4;have R4:=((((RB.store 0 (I 0)).store 1 (U 0)).store 2 (U 0)).store 3 (V 0)).store 4 (I 0);have hb9:Below w.heap.size w wr:=(H3.out.2.1.trans (hB.mono (by have:=H3.out.2.1.size; have:=HG.out; omega))).mono (by have:=HG.out; omega);have hb10:Below w.heap.size w (((((wr.setCell (Y (g+1) 0) (I 0)).setCell (Y (g+1) 1) (U 0)).setCell (Y (g+1) 2) (U 0)).setCell (Y (g+1) 3) (V 0)).setCell (Y (g+1) 4) (I 0)):=by
    have hgg:=HG.out;exact ((((hb9.setCell (by simp; omega) _).setCell (by simp; omega) _).setCell (by simp; omega) _).setCell (by simp; omega) _).setCell (by simp; omega) _
   have Z:=H2 R4 hb10;clear RB R4 hb9 hb10 hB hno hpk;go_wp2_with fail;rw [Exit.noGoto_ret]
   (try go_wp2_with fail)
   refine bodyPost_ret (v:= .tuple #[rV Rt.zero,O false]) ?_ rfl ⟨rfl,Z.out.2⟩;have q0:=Z.out.1.at_ 0;have q1:=Z.out.1.at_ 1;have q2:=Z.out.1.at_ 2;have q3:=Z.out.1.at_ 3;have q4:=Z.out.1.at_ 4;clear Z r0 r1 r2 r3 r4 f0 f1 f2 f3 f4;generalize ((((wr.setCell (Y (g+1) 0) (I 0)).setCell (Y (g+1) 1) (U 0)).setCell (Y (g+1) 2) (U 0)).setCell (Y (g+1) 3) (V 0)).setCell (Y (g+1) 4) (I 0)=Z at*;simp [results,Tryz.results90,go_sem,q0,q1,q2,q3,q4,rV,Rt.zero]
end
end Go.Proofs.YtafkfnodcemefaaGreat
