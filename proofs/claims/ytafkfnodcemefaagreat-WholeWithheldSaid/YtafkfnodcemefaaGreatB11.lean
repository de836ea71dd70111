import Derived.Test.YtafkfnodcemefaaGreatB10
set_option maxHeartbeats 8000000
set_option maxRecDepth 100000
namespace Go.Proofs.YtafkfnodcemefaaGreat
open _root_.Go.Proofs.Tryz (prog)
section
open Go.RowKit Go.Maps Rm
variable {w:World}{N R n:Nat}{fl o tb:Option Nat}{j:Jr}{M:Mr}
theorem ce6 (h:Rr w R o fl tb j N n M) {a:Nat} {len:Int} (hp:Pk.ok ⟨a,len⟩) {fr exp:Int} {id seq met:Nat} {ok:Bool} (hr:(M.pick a len).getD Rt.zero=⟨fr,id,seq,met,exp⟩) (hok:(M.pick a len).isSome=ok):
  Q 61 #[Pt R,.agg #[U a,I len]] w (Rr0 w (.tuple #[.agg #[I fr,U id,U seq,V met,I exp],O ok])):=by
 have hb:=next (next (aa0 w (.cells #[Pt R] 46)) (aa0 _ (.cells #[U a,I len] 28))) (aa0 _ (.cells #[I 0,U 0,U 0,V 0,I 0] 130));have RB:=((Blk.new w 46 #[Pt R]).more (.cells #[U a,I len] 28)).more (.cells #[I 0,U 0,U 0,V 0,I 0] 130);have PB:=(Blk.new (w.alloc (.cells #[Pt R] 46)) 28 #[U a,I len]).more (.cells #[I 0,U 0,U 0,V 0,I 0] 130);have DB:=Blk.new ((w.alloc (.cells #[Pt R] 46)).alloc (.cells #[U a,I len] 28)) 130 #[I 0,U 0,U 0,V 0,I 0];rw [aa1] at PB;rw [aa1,aa1] at DB;have h1:=h.held hb;go_enter Tryz.func61,Tryz.ntmps61;go_upto_region 1 with fail;generalize ((w.alloc (.cells #[Pt R] 46)).alloc (.cells #[U a,I len] 28)).alloc (.cells #[I 0,U 0,U 0,V 0,I 0] 130)=W at*;have A1:Asks W R o fl tb j N n M w.heap.size (w.heap.size+1) a len:=⟨h1,RB,PB⟩;have HP:=cq6 (A1.held (Below.refl _ _).drew) hp.1 hp.2 hr hok;have r0:W.drew.cell? (Y w.heap.size 0)=Np R:=RB.at_ 0;have p0:W.drew.cell? (Y (w.heap.size+1) 0)=some (U a):=PB.at_ 0;have p1:W.drew.cell? (Y (w.heap.size+1) 1)=some (I len):=PB.at_ 1;have X:=H2 hb DB;dsimp only [rV] at HP;clear h h1 RB PB hb DB A1 hr hok;generalize hbw:w.heap.size=b at*;have HBW:=Z hbw;clear hbw;refine wp_region_held_drew (S:=fun u=>u.cell? (Y b 0)=Np R/\u.cell? (Y (b+1) 0)=some (U a)/\u.cell? (Y (b+1) 1)=some (I len)) kr ⟨r0,p0,p1⟩ (fun hHeld=>?_);refine tk 0 (Pt R) rfl hHeld ?_;go_frame;refine tk 1 (Pt R) rfl hHeld ?_;go_frame;refine tk 2 (Qt R 10) rfl hHeld ?_;go_frame;refine tk 3 (.agg #[U a,I len]) rfl hHeld ?_;go_frame;refine tk 4 (Pt R) rfl hHeld ?_;go_frame;refine tk 5 (.func (.func 40) #[Pt R] #[]) rfl hHeld ?_;go_frame;refine tk 6 (.func (.func 91) #[] #[Pt b,Pt (b+1)]) rfl hHeld ?_;go_frame;refine rl 7 rfl fun K hK=>?_
 go_simp;refine HP.mono ?_;rintro e w2 ⟨rfl,hb2⟩;have s0:=held hb2 r0;have s2:=held hb2 p0;have s3:=held hb2 p1;refine hK.out _ _ ⟨s0,s2,s3⟩ (fun hHeld=>?_);clear hK K HP;have D2:=X.out.2.drew.held hb2;have z0:=D2.at_ 0;have z1:=D2.at_ 1;have z2:=D2.at_ 2;have z3:=D2.at_ 3;have z4:=D2.at_ 4;have y0:=D2.free 0;have y1:=D2.free 1;have y2:=D2.free 2;have y3:=D2.free 3;have y4:=D2.free 4;refine tk 8 (.agg #[I fr,U id,U seq,V met,I exp]) rfl hHeld ?_;go_frame;refine tk 9 (O ok) rfl hHeld ?_;go_frame;refine rl 10 rfl fun K hK=>?_
 go_simp;have T8:Turn [b+1+1] w2 (((((w2.setCell (Y (b+1+1) 0) (I fr)).setCell (Y (b+1+1) 1) (U id)).setCell (Y (b+1+1) 2) (U seq)).setCell (Y (b+1+1) 3) (V met)).setCell (Y (b+1+1) 4) (I exp)):=((((Turn.setCell _ sn _).trans (Turn.setCell _ sn _)).trans (Turn.setCell _ sn _)).trans (Turn.setCell _ sn _)).trans (Turn.setCell _ sn _);have t0:=T8.cell s0 (by simp; omega);have t2:=T8.cell s2 sn;have t3:=T8.cell s3 sn;refine hK.out _ _ ⟨t0,t2,t3⟩ (fun hHeld=>?_);clear hK K;have D8:Blk 130 _ (b+1+1) #[I fr,U id,U seq,V met,I exp]:=((((D2.store 0 (I fr)).store 1 (U id)).store 2 (U seq)).store 3 (V met)).store 4 (I exp);have hle:b<=W.drew.heap.size:=by have:b+1+1<W.drew.heap.size:=X.out.2.lt; omega
 have hle2:=Nat.le_trans hle hb2.size;have hbF:=(X.out.1.drew.trans (hb2.mono hle)).trans (T8.below (B:=b) (fun i hi=>by simp at hi; omega) hle2);clear hle hle2 z0 z1 z2 z3 z4 y0 y1 y2 y3 y4 s0 s2 s3 T8 r0 p0 p1 D2;generalize ((((w2.setCell (Y (b+1+1) 0) (I fr)).setCell (Y (b+1+1) 1) (U id)).setCell (Y (b+1+1) 2) (U seq)).setCell (Y (b+1+1) 3) (V met)).setCell (Y (b+1+1) 4) (I exp)=w8 at*;refine rl 11 rfl fun K hK=>?_
 go_simp;refine hK.out _ _ ⟨t0,t2,t3⟩ (fun hHeld=>?_);clear hK K;refine wpAnyH_done kr ?_ _;try go_frame
 have q0:=D8.at_ 0;have q1:=D8.at_ 1;have q2:=D8.at_ 2;have q3:=D8.at_ 3;have q4:=D8.at_ 4;clear D8 hHeld;go_wp2_with fail;refine bodyPost_ret (v:= .tuple #[.agg #[I fr,U id,U seq,V met,I exp],O ok]) ?_ rfl ⟨rfl,by rw [HBW.out]; exact hbF⟩;simp [results,Tryz.results61,go_sem,q0,q1,q2,q3,q4]
def Mr.dist (M:Mr) (a:Nat) (len:Int):Int×Bool:=if M.owns ⟨a,len⟩=true then (0,true) else match M.pick a len with
 |none=>(0,false)
 |some r=>(far r.met (cAt M.c r.fr),true)
theorem cf5 {xs:List Rh} {x:Rh} (h:pickL xs=some x):x∈xs:=List.mem_of_find?_eq_some h
theorem Mr.pick_some {a:Nat} {len:Int} {r:Rt} (h:M.pick a len=some r):∃ k:Nat,k<9/\M.f ⟨a,len,k⟩=some r/\¬ cAt M.c k<1/\M.fea a len r=true/\far r.met (cAt M.c k)≠65535:=by
 unfold Mr.pick at h
 cases hp:pickL (M.openL a len 9) with
 |none=>rw [hp] at h; cases h
 |some x=>
  rw [hp] at h;have hx:=cf5 hp;unfold Mr.openL at hx;obtain ⟨k,hk,he⟩:=List.mem_filterMap.1 hx;have hk9:=List.mem_range.1 hk;unfold Mr.reachF at he
  cases hf:M.f ⟨a,len,k⟩ with
  |none=>rw [hf] at he; cases he
  |some r'=>
   rw [hf] at he;simp only at he;split at he
   ·cases he
   ·rename_i hc
    cases he;simp only [Option.map_some,Option.some.injEq] at h;subst h;simp only [not_or] at hc;exact ⟨k,hk9,hf,hc.1,by simpa using hc.2.1,hc.2.2⟩
theorem Mr.pick_fits (hF:M.Fits) {a:Nat} {len:Int} {r:Rt} (h:(M.pick a len).getD Rt.zero=r):r.Fits:=by
 cases hp:M.pick a len with
 |none=>
  rw [hp] at h;subst h;constructor<;>(try constructor)<;>simp [Rt.zero]
 |some x=>
  rw [hp] at h;obtain ⟨k,-,hk,-⟩:=Mr.pick_some hp;have:=hF.f _ _ hk;have e:x=r:=h
  rwa [e] at this
theorem bd1 (s:Nat) (z:Int) (w:World):(Instr.field 69 (.agg #[U s,V z]) 1).run prog w= .ok (V z) w:=X
theorem cr9 (h:Rr w R o fl tb j N n M) {a:Nat} {len:Int} (hp:Pk.ok ⟨a,len⟩) {z:Int} {ok:Bool} (hz:M.dist a len=(z,ok)):
  Q 30 #[K R,.agg #[U a,I len]] w (Rr0 w (.tuple #[I z,O ok])):=by
 obtain ⟨hb,PB⟩:=nw w 28 #[U a,I len];have p0:=PB.at_ 0;have p1:=PB.at_ 1;have HO:=ba7 (h.held hb) hp;unfold Mr.dist at hz;obtain ⟨q,hq⟩:=ey (M.owns ⟨a,len⟩);rw [hq] at HO hz;have X:=H4 h hb PB hz;clear h hb PB hz hq;go_enter Tryz.func30,Tryz.ntmps30;go_wp2_with fail;refine HO.mono ?_;rintro e w2 ⟨rfl,hb2⟩;have hb3:=next X.out.2.1 hb2;have PB2:=X.out.2.2.1.held hb2;have h2:=X.out.1.held hb3
 cases q with
 |true=>
  have E:=X.out.2.2.2;rw [if_pos rfl] at E;injection E with e1 e2;subst e1 e2;clear p0 p1 HO hb2 PB2 h2;go_wp2_with fail;go_ret2;exact ⟨rfl,hb3⟩
 |false=>
  have E:=X.out.2.2.2;rw [if_neg (by decide)] at E;obtain ⟨⟨fr,id,seq,met,exp⟩,hr⟩:∃ r,(M.pick a len).getD Rt.zero=r:=⟨_,rfl⟩;obtain ⟨ok2,hok⟩:∃ ok,(M.pick a len).isSome=ok:=⟨_,rfl⟩;have HW:=ce6 h2 hp hr hok;have hm:=(Mr.pick_fits X.out.1.fits hr).met;have q0:=PB2.at_ 0;have q1:=PB2.at_ 1;have Y:=H6 E hr hok h2 hb3 hm;clear E hr hok h2 hb3 hm p0 p1 HO hb2 PB2;go_wp2_with fail;refine HW.mono ?_;rintro e w3 ⟨rfl,hb4⟩;have hb5:=next Y.out.2.2.2.2.1 (next hb4 (aa0 w3 (.cells #[I fr,U id,U seq,V met,I exp] 130)));have h5:=Y.out.2.2.2.1.held (next hb4 (aa0 w3 (.cells #[I fr,U id,U seq,V met,I exp] 130)));have RB:=Blk.new w3 130 #[I fr,U id,U seq,V met,I exp];clear q0 q1 HW hb4
  cases ok2 with
  |false=>
   have E:=Y.out.1
   cases hpk:M.pick a len with
   |some r=>have:=Y.out.2.2.1; rw [hpk] at this; cases this
   |none=>
    rw [hpk] at E;injection E with e1 e2;subst e1 e2;clear h5 RB hpk;go_wp2_with fail;go_ret2;exact ⟨rfl,hb5⟩
  |true=>
   have E:=Y.out.1
   cases hpk:M.pick a len with
   |none=>have:=Y.out.2.2.1; rw [hpk] at this; cases this
   |some r=>
    have e0:r=⟨fr,id,seq,met,exp⟩:=by have:=Y.out.2.1; rw [hpk] at this; exact this
    subst e0;rw [hpk] at E;injection E with e1 e2;have hfr:=ao2 (m:=met) (c:=cAt M.c fr) G;have HRc:=bq5 h5 (fr:=fr) (exp:=exp) (id:=id) (seq:=seq) Y.out.2.2.2.2.2;simp only at e1;rw [e1] at HRc hfr;subst e2;have r0:=RB.at_ 0;have r1:=RB.at_ 1;have r2:=RB.at_ 2;have r3:=RB.at_ 3;have r4:=RB.at_ 4;have Z:=Zq hb5;clear h5 RB hpk hb5 e1;go_wp2_with fail;refine HRc.mono ?_;rintro e w6 ⟨rfl,hb6⟩;have hb7:=next Z.out hb6;have h0:0<=z:=G
    have h6:z<=65535:=G
    have hfd:=bd1 seq z w6;clear hb6 HRc r0 r1 r2 r3 r4;go_wp2_with fail;go_ret2;exact ⟨rfl,hb7⟩
end
section
open Go.RowKit Rm
variable {tL:TypeId} {YS:List Value}
section
variable {w w':World} {d S M n:Nat} {safe:Nat->List UInt8} {wn:Int->Option (List UInt8)} {well:Int}
end
end
section
open Go.RowKit Go.Maps
attribute [local go_sem] Oper.semAt_some
theorem aw1:∀ args w,(callFunc 197 args).run prog w= .ok (.enter 197 args) w:=enters_of Tryz.func197 X rfl
theorem bm3 (m:Nat) (Bm b n:Nat) (f:Pk->Option Value) (w:World) (hm:w.cell? (Y Bm 0)=some (.map (some b))) (hM:Mk pkE w b n f):
  SeqStopsK Fence.wide m prog 197 #[K Bm] (fun x:Pk=>#[.agg #[U x.a,I x.n]]) KeepsWalks (fun xs=>xs.Nodup/\∀ x,x∈xs↔x.ok/\(f x).isSome=true) (fun _=>True) n w:=fun l J Jx W hW hJ _ hY h0=>by
 have hm':=held hW hm;have hM':=hM.held hW;clear hm hM hW;obtain ⟨w0,hr,hrg0,hg0,hs0⟩:=hM'.range (t:=104) (e:=203) X;have h00:=hJ [] W w0 none h0 hg0 (fun r e=>by cases e);refine callsIn_of_wp Tryz.func197 rfl trivial ?_ rfl;simp only [Tryz.ntmps197,List.size_toArray,List.length_cons,List.length_nil,Nat.reduceAdd,Nat.reduceSub,Array.replicate_succ,Array.replicate_zero,List.push_toArray,List.append_toArray,List.nil_append,List.cons_append]
 gi_wp2
 gi_loopw [6] (fun _ wr=>∃ (left:Pk->Bool) (cnt:Nat) (ss:List Pk),Rg pkE wr b W.heap.size n f left cnt/\ss.length+cnt<=n/\Came pkE f left ss/\J ss wr)
  (fun _ wr=>wr.rangeLeft b W.heap.size)
 case atStart=>
  exact ⟨_,_,[],hrg0,sn,Came.start _ _,h00⟩
 case round=>
  obtain ⟨left,cnt,ss,hrg,hcs,hC,hJs⟩:=hrel;rcases hrg.next 0 with ⟨hc0,hl0,hrun⟩|⟨i,v,w2,cnt2,hi,hli,hfi,hrun,hrg2,hlt,hg2,hs2,hen⟩
  ·gi_wp2
   go_end0;exact ⟨⟨_,rfl⟩,.inl ⟨ss,hC.all hl0,hJs⟩⟩
  ·obtain ⟨xa,xn⟩:=i
   have hJ2:J ss w2:=hJ ss wr w2 (some W.heap.size) hJs hg2 (fun r e=>by cases e; exact ⟨Nat.le_refl _,hrg.iter_walk⟩);have hJ3:J ss (w2.alloc (.cells #[U xa,I xn] 28)):=hJ ss w2 _ none hJ2 (World.grownBy_alloc w2 _ none) (fun r e=>by cases e);have hrg3:=hrg2.of_walks (KeepsWalks.alloc w2 (.cells #[U xa,I xn] 28));obtain ⟨fn,tmps,assign,body,hy,hR⟩:=hY ss ⟨xa,xn⟩ _ hJ3 G;have hC2:=hC.step hi hli hfi;replace hrun:(Instr.next (K W.heap.size) false 0).run prog wr= .ok (.tuple #[O true,.agg #[U xa,I xn],v]) w2:=hrun;replace hen:(Instr.entry (K W.heap.size)).run prog w2= .ok (.tuple #[.agg #[U xa,I xn],v]) w2:=hen;clear hs2
   gi_wp2
   refine ⟨fun h=>(by cases h),hR.mono ?_⟩;rintro e W3 (⟨rfl,hJ4,hk3⟩|⟨rfl,hJx3⟩)
   ·gi_wp2
    have hrg4:=hrg3.of_walks hk3;go_roundw
    case rel=>exact ⟨_,cnt2,ss++[⟨xa,xn⟩],hrg4,by simp; omega,hC2,hJ4⟩
    case measure=>rw [hrg4.left_eq,hrg.left_eq]; exact hlt
   ·gi_wp2
    refine bodyPost_ret (results_none rfl _ _ _) rfl ?_;exact ⟨⟨_,rfl⟩,.inr ⟨ss++[⟨xa,xn⟩],trivial,hJx3⟩⟩
theorem av3 (m:Nat) (Bm:Nat) (w:World) (hm:w.cell? (Y Bm 0)=some (.map none)):
  SeqStopsK Fence.wide m prog 197 #[K Bm] (fun x:Pk=>#[.agg #[U x.a,I x.n]]) KeepsWalks (fun xs=>xs=[]) (fun _=>True) 0 w:=fun l J Jx W hW hJ _ hY h0=>by
 have hm':=held hW hm;clear hm hW;refine callsIn_of_wp Tryz.func197 rfl trivial ?_ rfl;simp only [Tryz.ntmps197,List.size_toArray,List.length_cons,List.length_nil,Nat.reduceAdd,Nat.reduceSub,Array.replicate_succ,Array.replicate_zero,List.push_toArray,List.append_toArray,List.nil_append,List.cons_append];have hrg:=run_range_nilMap (P:=prog) W 104 28 203 X;have hnx:∀ ty,(Instr.next (K W.heap.size) false ty).run prog (W.alloc (.mapIter none 0 #[] 0))=_:=fun ty=>run_next_nilMap _ ty 0 0 #[]
 gi_wp2
 refine wpIn_loop_rounds 1 ?_;rw [roundsIn_succ]
 gi_wp2
 go_end0;exact ⟨⟨_,rfl⟩,.inl ⟨[],rfl,hJ [] W _ none h0 (World.grownBy_alloc W _ none) (fun r e=>by cases e)⟩⟩
theorem ct1 (o:Option Nat) (w:World):Q 176 #[.map o] w fun e w'=>
  e= .returned (.func (.func 197) #[] #[K w.heap.size])/\w'=w.alloc (.cells #[.map o] 104):=by
 go_enter Tryz.func176,Tryz.ntmps176;go_wp2;go_ret;exact ⟨rfl,rfl⟩
def clP (x:Pk):List Value:=[U x.a,I x.n]
theorem infoP:(prog.info? 28).map (fun i=>(i.zero,i.size,i.bytes))=some (some (.agg #[U 0,I 0]),2,16):=X
def GotP (n₀:Nat) (v:Value) (xs:List Pk) (W:World):Prop:=W.ownsRow n₀ 28 2 v xs.length (xs.flatMap clP)/\(v= .slice none 0 0↔xs=[])
theorem appendSeqP {g:Nat} {lb:Array Value} (eg:∀ args w,(callFunc g args).run prog w= .ok (.enter g args) w) {S Sp:List Pk->Prop} {N:Nat} (hN:N<=1000000000) {w:World}
  (hseq:SeqStopsK Fence.wide 8 prog g lb (fun x:Pk=>#[.agg #[U x.a,I x.n]]) KeepsWalks S Sp N w):
  Q 210 #[.slice none 0 0,.func (.func g) #[] lb] w fun e w'=>∃ v xs,e= .returned v/\S xs/\GotP w.heap.size v xs w'/\Bw w w':=by
 obtain ⟨i0,hi,hz0,hz1,hz2⟩:=info_parts infoP;refine (callsIn_wide (n:=9)).1 ?_;refine callsIn_of_wp_marks Tryz.func210 rfl trivial ?_ rfl;simp only [Tryz.ntmps210,List.size_toArray,List.length_cons,List.length_nil,Nat.reduceAdd,Nat.reduceSub,Array.replicate_succ,Array.replicate_zero,List.push_toArray,List.append_toArray,List.nil_append,List.cons_append]
 gi_wp2
 refine wpIn_rangeFunc_ownH rfl G (gf:=g) (lb:=lb) rfl trivial eg hseq walksK_t walksK_b (aa0 _ _) (fun _=>rfl)
  (fun pre W=>(∃ v,Boxed W w.heap.size 229 v/\W.ownsRow w.heap.size 28 2 v pre.length (pre.flatMap clP)/\(v= .slice none 0 0↔pre=[]))/\Bw w W)
  (fun _ _ _=>False)
  (OwnFrom.and (Own.from (holdsRow_own w.heap.size w.heap.size 229 28 2 (fun pre=>pre.length) (fun pre=>pre.flatMap clP) (fun pre v=>(v= .slice none 0 0↔pre=[]))) _) (ownFrom_below (Nat.le_refl _) sn))
  (fun _ _ _ _ _ h _ _=>h) ?_
  (fun x a' W=>∃ Bx,Blk 28 W Bx #[U x.a,I x.n]/\a'={ tmps:=#[.slice none 0 0,.func (.func g) #[] lb,Pt w.heap.size,undef,.slice none 0 0,Pt Bx,.func (.func g) #[] lb,.agg #[U x.a,I x.n],undef,undef,undef,undef,undef],defers:=[] })
  ?_ ?assign ?body ?done ?stop
 ·exact ⟨⟨_,Boxed.new _ _ _,World.ownsRow_nil _ _ _ _,sn⟩,aa0 _ _⟩
 ·rintro x a' s W W' row ⟨Bx,hX,rfl⟩ hg hr
  exact ⟨Bx,hX.grown hg hr,rfl⟩
 case assign=>
  rintro l pre x W K ⟨⟨v,hv,hrow,hnil⟩,hB⟩ hK
  gi_wp2
  exact hK _ _ ((KeepsOthers.alloc _ _).from _) (KeepsWalks.alloc _ _) ⟨⟨v,hv.alloc _,hrow.alloc _,hnil⟩,hB.alloc hB.size _⟩ ⟨_,Blk.new _ _ _,rfl⟩
 case body=>
  rintro l pre ⟨xa,xn⟩ a' W hl hr ⟨⟨v,hv,hrow,hnil⟩,hB⟩ ⟨Bx,hX,rfl⟩ hlt;have cB:=hv.cell;have x0:=hX.at_ 0;have x1:=hX.at_ 1;have hle:=hB.size
  gi_wp2_with (first
   |(gi_at_builtin; refine wpListIn_append_own _ rfl _ _ 229 rfl w.heap.size 28 i0 (.agg #[.int .u32 0,.int .i64 0]) 2 16 Tryz.underlying229 hi hz0 hz1 hz2 rfl (by decide) _ _ _ rfl (hrow.alloc _) ⟨W.heap.size,0,none⟩ 1 1 [.int .u32 xa,.int .i64 xn] rfl rfl (fun j u hj=>(br9 _ _ _ j).trans (by simpa using hj)) (by simp [Value.oneCell']) (by unfold maxLen; omega) G (by simp; omega) ?_
     intro v' w1 hown' hgrow _;obtain ⟨g',cap',rfl⟩:=ownsRow_succ hown';obtain ⟨hv1,hv2,hr2,hk2,hb2⟩:=hv.appended (by decide) hrow hB.size (Nat.le_refl _) hown' hgrow;have hc1:=hv1.cell;have hf1:=hv1.frozen)
   |gi_in)
  refine ⟨hk2.from _,hk2.walks,⟨_,hv2,by simpa [clP] using hr2,sn⟩,?_⟩;exact hB.trans hb2
 case done=>
  rintro D xs W hD hS ⟨⟨v,hv,hrow,hnil⟩,hB⟩ hK;have cB:=hv.cell;have hD':w.heap.size<=D:=by simp at hD; omega
  gi_wp2
  refine ⟨by simp,.inl ⟨_,_,rfl,run_takeDeferred hK,?_⟩⟩;exact ⟨_,results_tmp rfl _ _ _,v,xs,rfl,hS,⟨ownsRow_putObj hrow _ hK rfl,hnil⟩,hB.grown (grownBy_putObj' _ _ _) hB.size (fun k e=>by cases e; exact hD')⟩
 case stop=>
  rintro D c pre W _ _ h _;exact h.elim
end
end Go.Proofs.YtafkfnodcemefaaGreat
