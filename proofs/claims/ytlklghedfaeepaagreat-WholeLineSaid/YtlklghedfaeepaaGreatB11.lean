import Derived.Test.YtlklghedfaeepaaGreatB10
set_option maxHeartbeats 8000000
set_option maxRecDepth 100000
namespace Go.Proofs.YtlklghedfaeepaaGreat
open _root_.Go.Proofs.Tryz (prog)
section
open Go.RowKit Go.Maps Rm
variable {w:World}{N R n:Nat}{fl o tb:Option Nat}{j:Jr}{M:Mr}
theorem ce6 (h:Rr w R o fl tb j N n M) {a:Nat} {len:Int} (hp:Pk.ok ⟨a,len⟩) {fr exp:Int} {id seq met:Nat} {ok:Bool} (hr:(M.pick a len).getD Rt.zero=⟨fr,id,seq,met,exp⟩) (hok:(M.pick a len).isSome=ok):
  Calls prog 34 #[.pointer (some ⟨R,0,none⟩),.agg #[.int .u32 a,.int .i64 len]] w fun e w'=>e= .returned (.tuple #[.agg #[.int .i64 fr,.int .u32 id,.int .u32 seq,.int .u16 met,.int .i64 exp],.bool ok])/\Below w.heap.size w w':=by
 have hb:=next (next (aa0 w (.cells #[.pointer (some ⟨R,0,none⟩)] 35)) (aa0 _ (.cells #[.int .u32 a,.int .i64 len] 31))) (aa0 _ (.cells #[.int .i64 0,.int .u32 0,.int .u32 0,.int .u16 0,.int .i64 0] 88));have RB:=((Blk.new w 35 #[.pointer (some ⟨R,0,none⟩)]).more (.cells #[.int .u32 a,.int .i64 len] 31)).more (.cells #[.int .i64 0,.int .u32 0,.int .u32 0,.int .u16 0,.int .i64 0] 88);have PB:=(Blk.new (w.alloc (.cells #[.pointer (some ⟨R,0,none⟩)] 35)) 31 #[.int .u32 a,.int .i64 len]).more (.cells #[.int .i64 0,.int .u32 0,.int .u32 0,.int .u16 0,.int .i64 0] 88);have DB:=Blk.new ((w.alloc (.cells #[.pointer (some ⟨R,0,none⟩)] 35)).alloc (.cells #[.int .u32 a,.int .i64 len] 31)) 88 #[.int .i64 0,.int .u32 0,.int .u32 0,.int .u16 0,.int .i64 0];rw [aa1] at PB;rw [aa1,aa1] at DB;have h1:=h.held hb;go_enter Tryz.func34,Tryz.ntmps34;go_upto_region 1 with fail;generalize ((w.alloc (.cells #[.pointer (some ⟨R,0,none⟩)] 35)).alloc (.cells #[.int .u32 a,.int .i64 len] 31)).alloc (.cells #[.int .i64 0,.int .u32 0,.int .u32 0,.int .u16 0,.int .i64 0] 88)=W at*;have A1:Asks W R o fl tb j N n M w.heap.size (w.heap.size+1) a len:=⟨h1,RB,PB⟩;have HP:=cq6 (A1.held (Below.refl _ _).drew) hp.1 hp.2 hr hok;have r0:W.drew.cell? ⟨w.heap.size,0,none⟩=some (.pointer (some ⟨R,0,none⟩)):=RB.at_ 0;have p0:W.drew.cell? ⟨w.heap.size+1,0,none⟩=some (.int .u32 a):=PB.at_ 0;have p1:W.drew.cell? ⟨w.heap.size+1,1,none⟩=some (.int .i64 len):=PB.at_ 1;have X:=H2 hb DB;dsimp only [rV] at HP;clear h h1 RB PB hb DB A1 hr hok;generalize hbw:w.heap.size=b at*;have HBW:=Lib.hid hbw;clear hbw;refine wp_region_held_drew (S:=fun u=>u.cell? ⟨b,0,none⟩=some (.pointer (some ⟨R,0,none⟩))/\u.cell? ⟨b+1,0,none⟩=some (.int .u32 a)/\u.cell? ⟨b+1,1,none⟩=some (.int .i64 len)) (by kernel_rfl) ⟨r0,p0,p1⟩ (fun hHeld=>?_);refine tk 0 (.pointer (some ⟨R,0,none⟩)) rfl hHeld ?_;go_frame;refine tk 1 (.pointer (some ⟨R,0,none⟩)) rfl hHeld ?_;go_frame;refine tk 2 (.pointer (some ⟨R,10,none⟩)) rfl hHeld ?_;go_frame;refine tk 3 (.agg #[.int .u32 a,.int .i64 len]) rfl hHeld ?_;go_frame;refine tk 4 (.pointer (some ⟨R,0,none⟩)) rfl hHeld ?_;go_frame;refine tk 5 (.func (.func 67) #[.pointer (some ⟨R,0,none⟩)] #[]) rfl hHeld ?_;go_frame;refine tk 6 (.func (.func 68) #[] #[.pointer (some ⟨b,0,none⟩),.pointer (some ⟨b+1,0,none⟩)]) rfl hHeld ?_;go_frame;refine rl 7 rfl fun K hK=>?_
 go_simp;refine HP.mono ?_;rintro e w2 ⟨rfl,hb2⟩;have s0:=held hb2 r0;have s2:=held hb2 p0;have s3:=held hb2 p1;refine hK.out _ _ ⟨s0,s2,s3⟩ (fun hHeld=>?_);clear hK K HP;have D2:=X.out.2.drew.held hb2;have z0:=D2.at_ 0;have z1:=D2.at_ 1;have z2:=D2.at_ 2;have z3:=D2.at_ 3;have z4:=D2.at_ 4;have y0:=D2.free 0;have y1:=D2.free 1;have y2:=D2.free 2;have y3:=D2.free 3;have y4:=D2.free 4;refine tk 8 (.agg #[.int .i64 fr,.int .u32 id,.int .u32 seq,.int .u16 met,.int .i64 exp]) rfl hHeld ?_;go_frame;refine tk 9 (.bool ok) rfl hHeld ?_;go_frame;refine rl 10 rfl fun K hK=>?_
 go_simp;have T8:Turn [b+1+1] w2 (((((w2.setCell ⟨b+1+1,0,none⟩ (.int .i64 fr)).setCell ⟨b+1+1,1,none⟩ (.int .u32 id)).setCell ⟨b+1+1,2,none⟩ (.int .u32 seq)).setCell ⟨b+1+1,3,none⟩ (.int .u16 met)).setCell ⟨b+1+1,4,none⟩ (.int .i64 exp)):=((((Turn.setCell _ (by simp) _).trans (Turn.setCell _ (by simp) _)).trans (Turn.setCell _ (by simp) _)).trans (Turn.setCell _ (by simp) _)).trans (Turn.setCell _ (by simp) _);have t0:=T8.cell s0 (by simp; omega);have t2:=T8.cell s2 (by simp);have t3:=T8.cell s3 (by simp);refine hK.out _ _ ⟨t0,t2,t3⟩ (fun hHeld=>?_);clear hK K;have D8:Blk 88 _ (b+1+1) #[.int .i64 fr,.int .u32 id,.int .u32 seq,.int .u16 met,.int .i64 exp]:=((((D2.store 0 (.int .i64 fr)).store 1 (.int .u32 id)).store 2 (.int .u32 seq)).store 3 (.int .u16 met)).store 4 (.int .i64 exp);have hle:b<=W.drew.heap.size:=by have:b+1+1<W.drew.heap.size:=X.out.2.lt; omega
 have hle2:=Nat.le_trans hle hb2.size;have hbF:=(X.out.1.drew.trans (hb2.mono hle)).trans (T8.below (B:=b) (fun i hi=>by simp at hi; omega) hle2);clear hle hle2 z0 z1 z2 z3 z4 y0 y1 y2 y3 y4 s0 s2 s3 T8 r0 p0 p1 D2;generalize ((((w2.setCell ⟨b+1+1,0,none⟩ (.int .i64 fr)).setCell ⟨b+1+1,1,none⟩ (.int .u32 id)).setCell ⟨b+1+1,2,none⟩ (.int .u32 seq)).setCell ⟨b+1+1,3,none⟩ (.int .u16 met)).setCell ⟨b+1+1,4,none⟩ (.int .i64 exp)=w8 at*;refine rl 11 rfl fun K hK=>?_
 go_simp;refine hK.out _ _ ⟨t0,t2,t3⟩ (fun hHeld=>?_);clear hK K;refine wpAnyH_done (by kernel_rfl) ?_ _;try go_frame
 have q0:=D8.at_ 0;have q1:=D8.at_ 1;have q2:=D8.at_ 2;have q3:=D8.at_ 3;have q4:=D8.at_ 4;clear D8 hHeld;go_wp2_with fail;refine bodyPost_ret (v:= .tuple #[.agg #[.int .i64 fr,.int .u32 id,.int .u32 seq,.int .u16 met,.int .i64 exp],.bool ok]) ?_ rfl ⟨rfl,by rw [HBW.out]; exact hbF⟩;simp [results,Tryz.results34,go_sem,q0,q1,q2,q3,q4]
def Mr.dist (M:Mr) (a:Nat) (len:Int):Int×Bool:=if M.owns ⟨a,len⟩=true then (0,true) else match M.pick a len with
 |none=>(0,false)
 |some r=>(far r.met (cAt M.c r.fr),true)
theorem cf5 {xs:List Rh} {x:Rh} (h:pickL xs=some x):x∈xs:=List.mem_of_find?_eq_some h
theorem Mr.pick_some {a:Nat} {len:Int} {r:Rt} (h:M.pick a len=some r):∃ k:Nat,k<9/\M.f ⟨a,len,k⟩=some r/\¬ cAt M.c k<1/\M.fea a len r=true/\far r.met (cAt M.c k)≠65535:=by
 unfold Mr.pick at h
 cases hp:pickL (M.openL a len 9) with
 |none=>rw [hp] at h; cases h
 |some x=>
  rw [hp] at h;have hx:=cf5 hp;unfold Mr.openL at hx;obtain ⟨k,hk,he⟩:=List.mem_filterMap.1 hx;have hk9:=List.mem_range.1 hk;unfold Mr.reachF at he
  cases hf:M.f ⟨a,len,k⟩ with
  |none=>rw [hf] at he; cases he
  |some r'=>
   rw [hf] at he;simp only at he;split at he
   ·cases he
   ·rename_i hc
    cases he;simp only [Option.map_some,Option.some.injEq] at h;subst h;simp only [not_or] at hc;exact ⟨k,hk9,hf,hc.1,by simpa using hc.2.1,hc.2.2⟩
theorem Mr.pick_fits (hF:M.Fits) {a:Nat} {len:Int} {r:Rt} (h:(M.pick a len).getD Rt.zero=r):r.Fits:=by
 cases hp:M.pick a len with
 |none=>
  rw [hp] at h;subst h;constructor<;>(try constructor)<;>simp [Rt.zero]
 |some x=>
  rw [hp] at h;obtain ⟨k,-,hk,-⟩:=Mr.pick_some hp;have:=hF.f _ _ hk;have e:x=r:=h
  rwa [e] at this
theorem as0 (s:Nat) (z:Int) (w:World):(Instr.field 59 (.agg #[.int .u32 s,.int .u16 z]) 1).run prog w= .ok (.int .u16 z) w:=by kernel_rfl
theorem da5 (h:Rr w R o fl tb j N n M) {a:Nat} {len:Int} (hp:Pk.ok ⟨a,len⟩) {z:Int} {ok:Bool} (hz:M.dist a len=(z,ok)):
  Calls prog 13 #[.pointer (some ⟨R,0,none⟩),.agg #[.int .u32 a,.int .i64 len]] w fun e w'=>e= .returned (.tuple #[.int .i64 z,.bool ok])/\Below w.heap.size w w':=by
 obtain ⟨hb,PB⟩:=nw w 31 #[.int .u32 a,.int .i64 len];have p0:=PB.at_ 0;have p1:=PB.at_ 1;have HO:=ba7 (h.held hb) hp;unfold Mr.dist at hz;obtain ⟨q,hq⟩:∃ q,M.owns ⟨a,len⟩=q:=⟨_,rfl⟩;rw [hq] at HO hz;have X:=H4 h hb PB hz;clear h hb PB hz hq;go_enter Tryz.func13,Tryz.ntmps13;go_wp2_with fail;refine HO.mono ?_;rintro e w2 ⟨rfl,hb2⟩;have hb3:=next X.out.2.1 hb2;have PB2:=X.out.2.2.1.held hb2;have h2:=X.out.1.held hb3
 cases q with
 |true=>
  have E:=X.out.2.2.2;rw [if_pos rfl] at E;injection E with e1 e2;subst e1 e2;clear p0 p1 HO hb2 PB2 h2;go_wp2_with fail;go_ret2;exact ⟨rfl,hb3⟩
 |false=>
  have E:=X.out.2.2.2;rw [if_neg (by decide)] at E;obtain ⟨⟨fr,id,seq,met,exp⟩,hr⟩:∃ r,(M.pick a len).getD Rt.zero=r:=⟨_,rfl⟩;obtain ⟨ok2,hok⟩:∃ ok,(M.pick a len).isSome=ok:=⟨_,rfl⟩;have HW:=ce6 h2 hp hr hok;have hm:=(Mr.pick_fits X.out.1.fits hr).met;have q0:=PB2.at_ 0;have q1:=PB2.at_ 1;have Y:=H6 E hr hok h2 hb3 hm;clear E hr hok h2 hb3 hm p0 p1 HO hb2 PB2;go_wp2_with fail;refine HW.mono ?_;rintro e w3 ⟨rfl,hb4⟩;have hb5:=next Y.out.2.2.2.2.1 (next hb4 (aa0 w3 (.cells #[.int .i64 fr,.int .u32 id,.int .u32 seq,.int .u16 met,.int .i64 exp] 88)));have h5:=Y.out.2.2.2.1.held (next hb4 (aa0 w3 (.cells #[.int .i64 fr,.int .u32 id,.int .u32 seq,.int .u16 met,.int .i64 exp] 88)));have RB:=Blk.new w3 88 #[.int .i64 fr,.int .u32 id,.int .u32 seq,.int .u16 met,.int .i64 exp];clear q0 q1 HW hb4
  cases ok2 with
  |false=>
   have E:=Y.out.1
   cases hpk:M.pick a len with
   |some r=>have:=Y.out.2.2.1; rw [hpk] at this; cases this
   |none=>
    rw [hpk] at E;injection E with e1 e2;subst e1 e2;clear h5 RB hpk;go_wp2_with fail;go_ret2;exact ⟨rfl,hb5⟩
  |true=>
   have E:=Y.out.1
   cases hpk:M.pick a len with
   |none=>have:=Y.out.2.2.1; rw [hpk] at this; cases this
   |some r=>
    have e0:r=⟨fr,id,seq,met,exp⟩:=by have:=Y.out.2.1; rw [hpk] at this; exact this
    subst e0;rw [hpk] at E;injection E with e1 e2;have hfr:=ao2 (m:=met) (c:=cAt M.c fr) (by omega);have HRc:=bq5 h5 (fr:=fr) (exp:=exp) (id:=id) (seq:=seq) Y.out.2.2.2.2.2;simp only at e1;rw [e1] at HRc hfr;subst e2;have r0:=RB.at_ 0;have r1:=RB.at_ 1;have r2:=RB.at_ 2;have r3:=RB.at_ 3;have r4:=RB.at_ 4;have Z:=Lib.hid hb5;clear h5 RB hpk hb5 e1;go_wp2_with fail;refine HRc.mono ?_;rintro e w6 ⟨rfl,hb6⟩;have hb7:=next Z.out hb6;have h0:0<=z:=by omega
    have h6:z<=65535:=by omega
    have hfd:=as0 seq z w6;clear hb6 HRc r0 r1 r2 r3 r4;go_wp2_with fail;go_ret2;exact ⟨rfl,hb7⟩
end
section
open Go.RowKit Rm
variable {tL:TypeId} {YS:List Value}
section
variable {w w':World} {d S M n:Nat} {safe:Nat->List UInt8} {wn:Int->Option (List UInt8)} {well:Int}
theorem put_at (h:Dk w d S M n safe wn well) (hw:well≠0) (hw2:dec well≠0) {first size gen place:Nat} {z:Int} (hz:z=(place:Int)) (hi:first+place<n) {k:Int} {g l id a:Nat} {len:Int} {on:Bool} {s m:Nat} (hf:(⟨k,gen,place,id,a,len,on,s,m⟩:Rc).Fits) (hr:right ⟨k,gen,place,id,a,len,on,s,m⟩=true):
  Calls prog 94 #[.agg #[.pointer (some ⟨d,0,none⟩),.int .i64 first,.int .i64 size,.int .u32 gen],.int .i64 z,.agg #[.int .i64 k,.int .u32 g,.int .u32 l,.int .u32 id,.int .u32 a,.int .i64 len,.bool on,.int .u32 s,.int .u16 m]] w fun e w'=>(e= .returned (.int .i64 0)/\
   Dk w' d S M n (synced safe (updD wn ((first:Int)+place) (u8s (Rm.bytes ⟨k,gen,place,id,a,len,on,s,m⟩)))) (fun _=>none) (dec (dec well)))/\Turn [d,S,M] w w':=by
 subst hz;exact (bq8 h hw hw2 hi hf hr).mono fun e w' h=>⟨⟨h.1,h.2.1⟩,h.2.2⟩
theorem bp0 {lb first size gen len:Nat} {laid:Bool} {o fl:Option Nat} {id N:Nat} {T:Sm} (hN:Notes tL (lgX d first size gen len laid++YS) w lb o fl id N T) (hNN:N<100000) (h:Dk w d S M n safe wn well) (hw:well≠0) (hw2:dec well≠0)
  (hdis:∀ x,x∈fp lb o fl->x∉[d,S,M]) (hi:first+(1+len)<n) (hsz:1+len<size) (hg:gen<4294967296) {k:Int} {g l rid a:Nat} {rn:Int} {on:Bool} {s m:Nat} (hf:(⟨k,g,l,rid,a,rn,on,s,m⟩:Rc).Fits) (hr:right ⟨k,g,l,rid,a,rn,on,s,m⟩=true) (hk:k≠1):
  Calls prog 64 #[.pointer (some ⟨lb,0,none⟩),.agg #[.int .i64 k,.int .u32 g,.int .u32 l,.int .u32 rid,.int .u32 a,.int .i64 rn,.bool on,.int .u32 s,.int .u16 m]] w fun e w'=>e= .returned (.int .i64 0)/\
   Dk w' d S M n (synced safe (updD wn ((first:Int)+((1+len:Nat):Int)) (u8s (Rm.bytes ⟨k,gen,1+len,rid,a,rn,on,s,m⟩)))) (fun _=>none) (dec (dec well))/\
   ∃ o' fl',Notes tL (lgX d first size gen (len+1) laid++YS) w' lb o' fl' id (N+1) (app T ⟨k,g,l,rid,a,rn,on,s,m⟩)/\Turn ([d,S,M]++fp lb o fl) w w'/\∀ y,y∈fp lb o' fl'->y∈fp lb o fl\/w.heap.size<=y:=by
 obtain ⟨cn,cm,hnm,hS⟩:=hN;have n2:=h.n2;have hk1:(k==1)=false:=beq_eq_false_iff_ne.2 hk;have hf2:(⟨k,gen,1+len,rid,a,rn,on,s,m⟩:Rc).Fits:=⟨hf.k1,hf.k2,hg,by show 1+len<4294967296; omega,hf.id,hf.a,hf.n1,hf.n2,hf.seq,hf.met⟩;have hr2:right ⟨k,gen,1+len,rid,a,rn,on,s,m⟩=true:=by rw [<- ai8] at hr ⊢; unfold right2 at hr ⊢; exact hr
 obtain ⟨hb,RB⟩:=nw w 146 #[.int .i64 k,.int .u32 g,.int .u32 l,.int .u32 rid,.int .u32 a,.int .i64 rn,.bool on,.int .u32 s,.int .u16 m];go_enter Tryz.func64,Tryz.ntmps64;have HH:=H7 h hS hf hf2 hr2 RB hb;have HRT:=bw7 hf.a hr (w.alloc (.cells #[.int .i64 k,.int .u32 g,.int .u32 l,.int .u32 rid,.int .u32 a,.int .i64 rn,.bool on,.int .u32 s,.int .u16 m] 146));have HDIS:=Lib.hid hdis;clear h hS hf hf2 hr hr2 RB hb hdis hk;go_wp2_with fail;generalize w.alloc _=W at*;refine HRT.mono ?_;rintro e x1 ⟨rfl,hb1⟩;obtain ⟨h,hS,hf,hf2,hr2,RB,hb⟩:=HH.out;have hbb:=next hb hb1;have RB1:=RB.held hb1;have hS1:=hS.held hbb;have HF:=cu4 hS1 (by omega) (q:=false) (decide_eq_false (by omega));have r0:=RB1.at_ 0;have H1:=H3 hbb RB1 hS1;clear h hS hf hf2 hr2 RB hb hbb RB1 hS1 HRT hb1;go_wp2_with fail;refine HF.mono ?_;rintro e x2 ⟨rfl,hb2⟩;obtain ⟨h,hS,hf,hf2,hr2,RB,hb⟩:=HH.out;obtain ⟨hbb,RB1,hS1⟩:=H1.out;have hbb2:=next hbb hb2;have RB2:=(RB1.held hb2).drew;have hS2:=(hS1.held hb2).drew;have HL:=aj2 hS2;have hlb:=hS.head.lt;have hlt:=h.head.lt;have hltM:=h.map.lt;have hltS:=h.ltS;have hl1:=HDIS.out lb (ab6.2 (.inl rfl));simp only [List.mem_cons,List.not_mem_nil,or_false,not_or] at hl1;obtain ⟨hl1,hl2,hl3⟩:=hl1;clear r0;have l4:x2.drew.cell? ⟨lb,4,none⟩=some (.pointer (some ⟨d,0,none⟩)):=HL.at_ 4;have l5:x2.drew.cell? ⟨lb,5,none⟩=some (.int .i64 first):=HL.at_ 5;have l6:x2.drew.cell? ⟨lb,6,none⟩=some (.int .i64 size):=HL.at_ 6;have l7:x2.drew.cell? ⟨lb,7,none⟩=some (.int .u32 gen):=HL.at_ 7;have r0:x2.drew.cell? ⟨w.heap.size,0,none⟩=some (.int .i64 k):=RB2.at_ 0;have r1:x2.drew.cell? ⟨w.heap.size,1,none⟩=some (.int .u32 g):=RB2.at_ 1;have r2:x2.drew.cell? ⟨w.heap.size,2,none⟩=some (.int .u32 l):=RB2.at_ 2;have r3:x2.drew.cell? ⟨w.heap.size,3,none⟩=some (.int .u32 rid):=RB2.at_ 3;have r4:x2.drew.cell? ⟨w.heap.size,4,none⟩=some (.int .u32 a):=RB2.at_ 4;have r5:x2.drew.cell? ⟨w.heap.size,5,none⟩=some (.int .i64 rn):=RB2.at_ 5;have r6:x2.drew.cell? ⟨w.heap.size,6,none⟩=some (.bool on):=RB2.at_ 6;have r7:x2.drew.cell? ⟨w.heap.size,7,none⟩=some (.int .u32 s):=RB2.at_ 7;have r8:x2.drew.cell? ⟨w.heap.size,8,none⟩=some (.int .u16 m):=RB2.at_ 8;have HNX:=br8 hS2 (by omega);have HPUT:=put_at (h.held hbb2).drew hw hw2 (size:=size) (z:=1+(len:Int)) (place:=1+len) (by push_cast; rfl) hi (g:=g) (l:=l) hf2 hr2;have H2:=H3 hbb2 RB2 hS2;clear h hS hf hf2 hr2 RB hb hbb RB1 hS1 hbb2 RB2 hS2 HL H1 HF hb2;go_wp2_with fail;go_region_held3 (fun w'=>w'.cell? ⟨lb,4,none⟩=some (.pointer (some ⟨d,0,none⟩))/\w'.cell? ⟨lb,5,none⟩=some (.int .i64 first)/\w'.cell? ⟨lb,6,none⟩=some (.int .i64 size)/\w'.cell? ⟨lb,7,none⟩=some (.int .u32 gen)/\w'.cell? ⟨w.heap.size,0,none⟩=some (.int .i64 k)/\w'.cell? ⟨w.heap.size,1,none⟩=some (.int .u32 g)/\w'.cell? ⟨w.heap.size,2,none⟩=some (.int .u32 l)/\w'.cell? ⟨w.heap.size,3,none⟩=some (.int .u32 rid)/\w'.cell? ⟨w.heap.size,4,none⟩=some (.int .u32 a)/\w'.cell? ⟨w.heap.size,5,none⟩=some (.int .i64 rn)/\w'.cell? ⟨w.heap.size,6,none⟩=some (.bool on)/\w'.cell? ⟨w.heap.size,7,none⟩=some (.int .u32 s)/\w'.cell? ⟨w.heap.size,8,none⟩=some (.int .u16 m))
  (first|exact ⟨l4,l5,l6,l7,r0,r1,r2,r3,r4,r5,r6,r7,r8⟩|exact ⟨hT3.cell l4 (by simp; omega),hT3.cell l5 (by simp; omega),hT3.cell l6 (by simp; omega),hT3.cell l7 (by simp; omega),hT3.cell r0 (by simp; omega),hT3.cell r1 (by simp; omega),hT3.cell r2 (by simp; omega),hT3.cell r3 (by simp; omega),hT3.cell r4 (by simp; omega),hT3.cell r5 (by simp; omega),hT3.cell r6 (by simp; omega),hT3.cell r7 (by simp; omega),hT3.cell r8 (by simp; omega)⟩|go_keep)
  (first|(go_at_call 95; refine HNX.mono ?_; rintro e w' ⟨rfl,rfl⟩)|(go_at_call 94; refine HPUT.mono ?_; rintro e x3 ⟨⟨rfl,hD3⟩,hT3⟩))
 obtain ⟨hbb2,RB2,hS2⟩:=H2.out;have hS3:=hS2.turn hT3 HDIS.out;have hwl:w.heap.size∉[d,S,M]:=by simp; omega
 have RB3:=RB2.turn hT3 hwl;have HL3:=aj2 hS3;have hfl:∀ x,x∈fp lb o fl->x<w.heap.size:=fun x hx=>HH.out.2.1.lt hx
 have hS4:St tL (lgX d first size gen (len+1) laid++YS) (x3.setCell ⟨lb,8,none⟩ (.int .i64 ((len:Int)+1))) lb o fl id T.lease cn cm T.own T.floor:=
  ⟨HL3.store 8 (.int .i64 ((len:Int)+1)),hS3.owns.of_block (fun b hb=>Below.heap_setCell _ _ _ _ (Ne.symm (hS3.head_ne (.inl hb)))),hS3.floors.of_block (fun b hb=>Below.heap_setCell _ _ _ _ (Ne.symm (hS3.head_ne (.inr hb)))),hS3.apart,hS3.small,hS3.lease_lt,hS3.counts⟩
 have RB4:Blk 146 (x3.setCell ⟨lb,8,none⟩ (.int .i64 ((len:Int)+1))) w.heap.size _:=(Below.heap_setCell _ _ _ _ (by show w.heap.size≠lb; omega)).trans RB3;have hD4:Dk (x3.setCell ⟨lb,8,none⟩ (.int .i64 ((len:Int)+1))) d S M n _ _ _:=hD3.of_blocks (Below.heap_setCell _ _ _ _ (by show d≠lb; omega)) (Below.heap_setCell _ _ _ _ (by show S≠lb; omega)) (Below.heap_setCell _ _ _ _ (by show M≠lb; omega));have l8:x3.cell? ⟨lb,8,none⟩=some (.int .i64 len):=HL3.at_ 8;have f8:=HL3.free 8;have hT4:Turn ([d,S,M]++fp lb o fl) w (x3.setCell ⟨lb,8,none⟩ (.int .i64 ((len:Int)+1))):=((Turn.of_below _ hbb2.drew).trans (hT3.mono (by simp))).trans (Turn.setCell _ (p:=⟨lb,8,none⟩) (List.mem_append_right _ (ab6.2 (.inl rfl))) _);have hw8:IntKind.i64.wrap ((len:Int)+1)=(len:Int)+1:=by simp only [IntKind.wrap,IntKind.bits,IntKind.signed]; simp; omega
 have HA:=bj4 (S:=T) (N:=N) ⟨cn,cm,hnm,hS4.drew⟩ hNN ⟨k,g,l,rid,a,rn,on,s,m⟩ HH.out.2.2.1;have H4:=H5 RB4 hT4 hD4 hS4 hfl;clear l4 l5 l6 l7 r0 r1 r2 r3 r4 r5 r6 r7 r8 hbb2 RB2 hS2 hS3 RB3 HL3 hfl hS4 RB4 hT4 hD4 hT3 hD3 HNX HPUT H2;go_wp2_with fail;obtain ⟨RB4,hT4,hD4,hS4,hfl⟩:=H4.out;have hsz4:=hT4.size;have r0:(x3.setCell ⟨lb,8,none⟩ (.int .i64 ((len:Int)+1))).drew.cell? ⟨w.heap.size,0,none⟩=some (.int .i64 k):=RB4.at_ 0;have r1:(x3.setCell ⟨lb,8,none⟩ (.int .i64 ((len:Int)+1))).drew.cell? ⟨w.heap.size,1,none⟩=some (.int .u32 g):=RB4.at_ 1;have r2:(x3.setCell ⟨lb,8,none⟩ (.int .i64 ((len:Int)+1))).drew.cell? ⟨w.heap.size,2,none⟩=some (.int .u32 l):=RB4.at_ 2;have r3:(x3.setCell ⟨lb,8,none⟩ (.int .i64 ((len:Int)+1))).drew.cell? ⟨w.heap.size,3,none⟩=some (.int .u32 rid):=RB4.at_ 3;have r4:(x3.setCell ⟨lb,8,none⟩ (.int .i64 ((len:Int)+1))).drew.cell? ⟨w.heap.size,4,none⟩=some (.int .u32 a):=RB4.at_ 4;have r5:(x3.setCell ⟨lb,8,none⟩ (.int .i64 ((len:Int)+1))).drew.cell? ⟨w.heap.size,5,none⟩=some (.int .i64 rn):=RB4.at_ 5;have r6:(x3.setCell ⟨lb,8,none⟩ (.int .i64 ((len:Int)+1))).drew.cell? ⟨w.heap.size,6,none⟩=some (.bool on):=RB4.at_ 6;have r7:(x3.setCell ⟨lb,8,none⟩ (.int .i64 ((len:Int)+1))).drew.cell? ⟨w.heap.size,7,none⟩=some (.int .u32 s):=RB4.at_ 7;have r8:(x3.setCell ⟨lb,8,none⟩ (.int .i64 ((len:Int)+1))).drew.cell? ⟨w.heap.size,8,none⟩=some (.int .u16 m):=RB4.at_ 8;have hnf:w.heap.size∉fp lb o fl:=fun hx=>by have:=hfl _ hx; omega
 clear RB4 hT4 hD4 hS4 hfl l8 f8;generalize x3.setCell ⟨lb,8,none⟩ (.int .i64 ((len:Int)+1))=x4 at*;go_region_held3 (fun w'=>w'.cell? ⟨w.heap.size,0,none⟩=some (.int .i64 k)/\w'.cell? ⟨w.heap.size,1,none⟩=some (.int .u32 g)/\w'.cell? ⟨w.heap.size,2,none⟩=some (.int .u32 l)/\w'.cell? ⟨w.heap.size,3,none⟩=some (.int .u32 rid)/\w'.cell? ⟨w.heap.size,4,none⟩=some (.int .u32 a)/\w'.cell? ⟨w.heap.size,5,none⟩=some (.int .i64 rn)/\w'.cell? ⟨w.heap.size,6,none⟩=some (.bool on)/\w'.cell? ⟨w.heap.size,7,none⟩=some (.int .u32 s)/\w'.cell? ⟨w.heap.size,8,none⟩=some (.int .u16 m))
  (first|exact ⟨r0,r1,r2,r3,r4,r5,r6,r7,r8⟩|exact ⟨hT5.cell r0 hnf,hT5.cell r1 hnf,hT5.cell r2 hnf,hT5.cell r3 hnf,hT5.cell r4 hnf,hT5.cell r5 hnf,hT5.cell r6 hnf,hT5.cell r7 hnf,hT5.cell r8 hnf⟩|go_keep)
  (first|(go_at_call 96; refine HA.mono ?_; rintro e x5 ⟨rfl,o',fl',hN5,hT5,hfp5⟩))
 obtain ⟨-,hT4,hD4,-,-⟩:=H4.out;have hD5:=hD4.drew.of_blocks (hT5.block _ hD4.drew.head.lt (fun hx=>HDIS.out d hx (by simp))) (hT5.block _ hD4.drew.ltS (fun hx=>HDIS.out S hx (by simp))) (hT5.block _ hD4.drew.map.lt (fun hx=>HDIS.out M hx (by simp)));have hTT:=hT4.drew.trans (hT5.mono (fun i hi=>List.mem_append_right _ hi));have hfp6:∀ y,y∈fp lb o' fl'->y∈fp lb o fl\/w.heap.size<=y:=fun y hy=>(hfp5 y hy).imp_right fun h=>Nat.le_trans hsz4 h
 clear r0 r1 r2 r3 r4 r5 r6 r7 r8 HA;go_wp2_with fail;go_ret;exact ⟨rfl,hD5,o',fl',hN5,hTT,hfp6⟩
end
end
section
open Go.RowKit Go.Maps
attribute [local go_sem] Oper.semAt_some
theorem aw1:∀ args w,(callFunc 198 args).run prog w= .ok (.enter 198 args) w:=enters_of Tryz.func198 (by kernel_rfl) rfl
theorem bm3 (m:Nat) (Bm b n:Nat) (f:Pk->Option Value) (w:World) (hm:w.cell? ⟨Bm,0,none⟩=some (.map (some b))) (hM:Mk pkE w b n f):
  SeqStopsK Fence.wide m prog 198 #[.pointer (some ⟨Bm,0,none⟩)] (fun x:Pk=>#[.agg #[.int .u32 x.a,.int .i64 x.n]]) KeepsWalks (fun xs=>xs.Nodup/\∀ x,x∈xs↔x.ok/\(f x).isSome=true) (fun _=>True) n w:=fun l J Jx W hW hJ _ hY h0=>by
 have hm':=held hW hm;have hM':=hM.held hW;clear hm hM hW;obtain ⟨w0,hr,hrg0,hg0,hs0⟩:=hM'.range (t:=100) (e:=175) (by kernel_rfl);have h00:=hJ [] W w0 none h0 hg0 (fun r e=>by cases e);refine callsIn_of_wp Tryz.func198 rfl trivial ?_ rfl;simp only [Tryz.ntmps198,List.size_toArray,List.length_cons,List.length_nil,Nat.reduceAdd,Nat.reduceSub,Array.replicate_succ,Array.replicate_zero,List.push_toArray,List.append_toArray,List.nil_append,List.cons_append]
 gi_wp2
 gi_loopw [6] (fun _ wr=>∃ (left:Pk->Bool) (cnt:Nat) (ss:List Pk),Rg pkE wr b W.heap.size n f left cnt/\ss.length+cnt<=n/\Came pkE f left ss/\J ss wr)
  (fun _ wr=>wr.rangeLeft b W.heap.size)
 case atStart=>
  exact ⟨_,_,[],hrg0,by simp,Came.start _ _,h00⟩
 case round=>
  obtain ⟨left,cnt,ss,hrg,hcs,hC,hJs⟩:=hrel;rcases hrg.next 0 with ⟨hc0,hl0,hrun⟩|⟨i,v,w2,cnt2,hi,hli,hfi,hrun,hrg2,hlt,hg2,hs2,hen⟩
  ·gi_wp2
   go_end0;exact ⟨⟨_,rfl⟩,.inl ⟨ss,hC.all hl0,hJs⟩⟩
  ·obtain ⟨xa,xn⟩:=i
   have hJ2:J ss w2:=hJ ss wr w2 (some W.heap.size) hJs hg2 (fun r e=>by cases e; exact ⟨Nat.le_refl _,hrg.iter_walk⟩);have hJ3:J ss (w2.alloc (.cells #[.int .u32 xa,.int .i64 xn] 31)):=hJ ss w2 _ none hJ2 (World.grownBy_alloc w2 _ none) (fun r e=>by cases e);have hrg3:=hrg2.of_walks (KeepsWalks.alloc w2 (.cells #[.int .u32 xa,.int .i64 xn] 31));obtain ⟨fn,tmps,assign,body,hy,hR⟩:=hY ss ⟨xa,xn⟩ _ hJ3 (by omega);have hC2:=hC.step hi hli hfi;replace hrun:(Instr.next (.pointer (some ⟨W.heap.size,0,none⟩)) false 0).run prog wr= .ok (.tuple #[.bool true,.agg #[.int .u32 xa,.int .i64 xn],v]) w2:=hrun;replace hen:(Instr.entry (.pointer (some ⟨W.heap.size,0,none⟩))).run prog w2= .ok (.tuple #[.agg #[.int .u32 xa,.int .i64 xn],v]) w2:=hen;clear hs2
   gi_wp2
   refine ⟨fun h=>(by cases h),hR.mono ?_⟩;rintro e W3 (⟨rfl,hJ4,hk3⟩|⟨rfl,hJx3⟩)
   ·gi_wp2
    have hrg4:=hrg3.of_walks hk3;go_roundw
    case rel=>exact ⟨_,cnt2,ss++[⟨xa,xn⟩],hrg4,by simp; omega,hC2,hJ4⟩
    case measure=>rw [hrg4.left_eq,hrg.left_eq]; exact hlt
   ·gi_wp2
    refine bodyPost_ret (results_none rfl _ _ _) rfl ?_;exact ⟨⟨_,rfl⟩,.inr ⟨ss++[⟨xa,xn⟩],trivial,hJx3⟩⟩
theorem av3 (m:Nat) (Bm:Nat) (w:World) (hm:w.cell? ⟨Bm,0,none⟩=some (.map none)):
  SeqStopsK Fence.wide m prog 198 #[.pointer (some ⟨Bm,0,none⟩)] (fun x:Pk=>#[.agg #[.int .u32 x.a,.int .i64 x.n]]) KeepsWalks (fun xs=>xs=[]) (fun _=>True) 0 w:=fun l J Jx W hW hJ _ hY h0=>by
 have hm':=held hW hm;clear hm hW;refine callsIn_of_wp Tryz.func198 rfl trivial ?_ rfl;simp only [Tryz.ntmps198,List.size_toArray,List.length_cons,List.length_nil,Nat.reduceAdd,Nat.reduceSub,Array.replicate_succ,Array.replicate_zero,List.push_toArray,List.append_toArray,List.nil_append,List.cons_append];have hrg:=run_range_nilMap (P:=prog) W 100 31 175 (by kernel_rfl);have hnx:∀ ty,(Instr.next (.pointer (some ⟨W.heap.size,0,none⟩)) false ty).run prog (W.alloc (.mapIter none 0 #[] 0))=_:=fun ty=>run_next_nilMap _ ty 0 0 #[]
 gi_wp2
 refine wpIn_loop_rounds 1 ?_;rw [roundsIn_succ]
 gi_wp2
 go_end0;exact ⟨⟨_,rfl⟩,.inl ⟨[],rfl,hJ [] W _ none h0 (World.grownBy_alloc W _ none) (fun r e=>by cases e)⟩⟩
theorem ct1 (o:Option Nat) (w:World):Calls prog 178 #[.map o] w fun e w'=>
  e= .returned (.func (.func 198) #[] #[.pointer (some ⟨w.heap.size,0,none⟩)])/\w'=w.alloc (.cells #[.map o] 100):=by
 go_enter Tryz.func178,Tryz.ntmps178;go_wp2;go_ret;exact ⟨rfl,rfl⟩
def clP (x:Pk):List Value:=[.int .u32 x.a,.int .i64 x.n]
theorem infoP:(prog.info? 31).map (fun i=>(i.zero,i.size,i.bytes))=some (some (.agg #[.int .u32 0,.int .i64 0]),2,16):=by kernel_rfl
def GotP (n₀:Nat) (v:Value) (xs:List Pk) (W:World):Prop:=W.ownsRow n₀ 31 2 v xs.length (xs.flatMap clP)/\(v= .slice none 0 0↔xs=[])
theorem appendSeqP {g:Nat} {lb:Array Value} (eg:∀ args w,(callFunc g args).run prog w= .ok (.enter g args) w) {S Sp:List Pk->Prop} {N:Nat} (hN:N<=100000) {w:World}
  (hseq:SeqStopsK Fence.wide 8 prog g lb (fun x:Pk=>#[.agg #[.int .u32 x.a,.int .i64 x.n]]) KeepsWalks S Sp N w):
  Calls prog 210 #[.slice none 0 0,.func (.func g) #[] lb] w fun e w'=>∃ v xs,e= .returned v/\S xs/\GotP w.heap.size v xs w'/\Below w.heap.size w w':=by
 obtain ⟨i0,hi,hz0,hz1,hz2⟩:=info_parts infoP;refine (callsIn_wide (n:=9)).1 ?_;refine callsIn_of_wp_marks Tryz.func210 rfl trivial ?_ rfl;simp only [Tryz.ntmps210,List.size_toArray,List.length_cons,List.length_nil,Nat.reduceAdd,Nat.reduceSub,Array.replicate_succ,Array.replicate_zero,List.push_toArray,List.append_toArray,List.nil_append,List.cons_append]
 gi_wp2
 refine wpIn_rangeFunc_ownH rfl (by omega) (gf:=g) (lb:=lb) rfl trivial eg hseq walksK_t walksK_b (aa0 _ _) (fun _=>rfl)
  (fun pre W=>(∃ v,Boxed W w.heap.size 240 v/\W.ownsRow w.heap.size 31 2 v pre.length (pre.flatMap clP)/\(v= .slice none 0 0↔pre=[]))/\Below w.heap.size w W)
  (fun _ _ _=>False)
  (OwnFrom.and (Own.from (holdsRow_own w.heap.size w.heap.size 240 31 2 (fun pre=>pre.length) (fun pre=>pre.flatMap clP) (fun pre v=>(v= .slice none 0 0↔pre=[]))) _) (ownFrom_below (Nat.le_refl _) (by simp)))
  (fun _ _ _ _ _ h _ _=>h) ?_
  (fun x a' W=>∃ Bx,Blk 31 W Bx #[.int .u32 x.a,.int .i64 x.n]/\a'={ tmps:=#[.slice none 0 0,.func (.func g) #[] lb,.pointer (some ⟨w.heap.size,0,none⟩),undef,.slice none 0 0,.pointer (some ⟨Bx,0,none⟩),.func (.func g) #[] lb,.agg #[.int .u32 x.a,.int .i64 x.n],undef,undef,undef,undef,undef],defers:=[] })
  ?_ ?assign ?body ?done ?stop
 ·exact ⟨⟨_,Boxed.new _ _ _,World.ownsRow_nil _ _ _ _,by simp⟩,aa0 _ _⟩
 ·rintro x a' s W W' row ⟨Bx,hX,rfl⟩ hg hr
  exact ⟨Bx,hX.grown hg hr,rfl⟩
 case assign=>
  rintro l pre x W K ⟨⟨v,hv,hrow,hnil⟩,hB⟩ hK
  gi_wp2
  exact hK _ _ ((KeepsOthers.alloc _ _).from _) (KeepsWalks.alloc _ _) ⟨⟨v,hv.alloc _,hrow.alloc _,hnil⟩,hB.alloc hB.size _⟩ ⟨_,Blk.new _ _ _,rfl⟩
 case body=>
  rintro l pre ⟨xa,xn⟩ a' W hl hr ⟨⟨v,hv,hrow,hnil⟩,hB⟩ ⟨Bx,hX,rfl⟩ hlt;have cB:=hv.cell;have x0:=hX.at_ 0;have x1:=hX.at_ 1;have hle:=hB.size
  gi_wp2_with (first
   |(gi_at_builtin; refine wpListIn_append_own _ rfl _ _ 240 rfl w.heap.size 31 i0 (.agg #[.int .u32 0,.int .i64 0]) 2 16 Tryz.underlying240 hi hz0 hz1 hz2 rfl (by decide) _ _ _ rfl (hrow.alloc _) ⟨W.heap.size,0,none⟩ 1 1 [.int .u32 xa,.int .i64 xn] rfl rfl (fun j u hj=>(br9 _ _ _ j).trans (by simpa using hj)) (by simp [Value.oneCell']) (by unfold maxLen; omega) (by omega) (by simp; omega) ?_
     intro v' w1 hown' hgrow _;obtain ⟨g',cap',rfl⟩:=ownsRow_succ hown';obtain ⟨hv1,hv2,hr2,hk2,hb2⟩:=hv.appended (by decide) hrow hB.size (Nat.le_refl _) hown' hgrow;have hc1:=hv1.cell;have hf1:=hv1.frozen)
   |gi_in)
  refine ⟨hk2.from _,hk2.walks,⟨_,hv2,by simpa [clP] using hr2,by simp⟩,?_⟩;exact hB.trans hb2
 case done=>
  rintro D xs W hD hS ⟨⟨v,hv,hrow,hnil⟩,hB⟩ hK;have cB:=hv.cell;have hD':w.heap.size<=D:=by simp at hD; omega
  gi_wp2
  refine ⟨by simp,.inl ⟨_,_,rfl,run_takeDeferred hK,?_⟩⟩;exact ⟨_,results_tmp rfl _ _ _,v,xs,rfl,hS,⟨ownsRow_putObj hrow _ hK rfl,hnil⟩,hB.grown (grownBy_putObj' _ _ _) hB.size (fun k e=>by cases e; exact hD')⟩
 case stop=>
  rintro D c pre W _ _ h _;exact h.elim
end
end Go.Proofs.YtlklghedfaeepaaGreat
