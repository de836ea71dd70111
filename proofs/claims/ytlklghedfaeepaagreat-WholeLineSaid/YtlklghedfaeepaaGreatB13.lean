import Derived.Test.YtlklghedfaeepaaGreatB12
set_option maxHeartbeats 8000000
set_option maxRecDepth 100000
namespace Go.Proofs.YtlklghedfaeepaaGreat
open _root_.Go.Proofs.Tryz (prog)
section
open Go.RowKit Go.Maps
attribute [local go_sem] Oper.semAt_some
variable {X:Option Nat->Array Value}
def deadAt (f:Ways) (now:Int) (z:Rk):Bool:=
 match f z with
 |some r=>decide (r.exp<=now)
 |none=>false
theorem ce5 [Ten X] {w:World} {t n:Nat} {o:Option Nat} {f:Ways} (h:Tb X w t o n f) (now:Int):
  Calls prog 74 #[.pointer (some ⟨t,10,none⟩),.int .i64 now] w fun e w'=>e= .returned (.tuple #[])/\∃ n',Tb X w' t o n' (lessF f (deadAt f now))/\Turn o.toList w w':=by
 have c0:=h.head.ten;obtain ⟨w1,hrn,hrg,hg1,hs1⟩:=Ro.range h.map;have P0:Pw X w w1 t w.heap.size o f (fun z=>(vals f z).isSome) n n:=⟨hrg,h.head.grown (B:=0) hg1 (fun r e=>by cases e),(Turn.refl _ _).trans ⟨hg1.os,hg1.tape,hg1.output,hg1.size,fun i hi _=>hg1.block i hi (by simp)⟩,Nat.le_refl _⟩;have H:=H2 h P0;clear h hrg hg1 P0 hs1;go_enter Tryz.func74,Tryz.ntmps74;go_wp2_with fail;generalize hgR:w.heap.size=r at*;clear hrn c0 hgR;go_loopw [4,5] (fun _ _ wr=>∃ (f':Ways) (left:Rk->Bool) (cnt n':Nat),Hid (Pw X w wr t r o f' left cnt n'/\Inv f f' (deadAt f now) left)) (fun _ _ wr=>roLeft o wr r)
 case atStart=>exact ⟨_,_,_,_,H.out.2,Inv.start _ _⟩
 case round=>
  obtain ⟨f',left,cnt,n',R⟩:=hrel;rcases R.out.1.rg.next 0 with ⟨hc0,hl0,hrun⟩|⟨⟨ka,kn,kf⟩,v,w2,cnt2,hi,hli,hfi,hrun,hrg2,hlt,hg2,hs2,hen⟩
  ·go_wp2_with fail
   go_end0;exact ⟨rfl,n',R.out.1.done H.out.1.map R.out.2 hl0,R.out.1.turn⟩
  ·have hon:=R.out.1.rg.some hli
   obtain ⟨rt,hrt,rfl⟩:∃ rt,f' ⟨ka,kn,kf⟩=some rt/\rV rt=v:=by
    unfold vals at hfi
    cases hx:f' ⟨ka,kn,kf⟩ with
    |none=>rw [hx] at hfi; cases hfi
    |some rt=>rw [hx] at hfi; exact ⟨rt,rfl,by simpa using hfi⟩
   have hfz:f ⟨ka,kn,kf⟩=some rt:=by
    have:=R.out.2 ⟨ka,kn,kf⟩ hi;rw [hrt,if_neg (by rw [hli]; simp)] at this;exact this.symm
   obtain ⟨rf,id,seq,met,exp⟩:=rt;have hdead:deadAt f now ⟨ka,kn,kf⟩=decide (exp<=now):=by unfold deadAt; rw [hfz]
   have P2:=((R.out.1.next hrg2 hg2).alloc (.cells #[.int .u32 ka,.int .i64 kn,.int .i64 kf] 204)).alloc (.cells #[.int .i64 rf,.int .u32 id,.int .u32 seq,.int .u16 met,.int .i64 exp] 88);have hmeas:=R.out.1.rg.left_eq;unfold rV at hrun hen;replace hrun:(Instr.next (.pointer (some ⟨r,0,none⟩)) false 0).run prog wr= .ok (.tuple #[.bool true,.agg #[.int .u32 ka,.int .i64 kn,.int .i64 kf],.agg #[.int .i64 rf,.int .u32 id,.int .u32 seq,.int .u16 met,.int .i64 exp]]) w2:=hrun;replace hen:(Instr.entry (.pointer (some ⟨r,0,none⟩))).run prog w2= .ok (.tuple #[.agg #[.int .u32 ka,.int .i64 kn,.int .i64 kf],.agg #[.int .i64 rf,.int .u32 id,.int .u32 seq,.int .u16 met,.int .i64 exp]]) w2:=hen;clear hs2 hg2 hrg2 hfi hrt hfz;have KB:=(Blk.new w2 204 #[.int .u32 ka,.int .i64 kn,.int .i64 kf]).more (.cells #[.int .i64 rf,.int .u32 id,.int .u32 seq,.int .u16 met,.int .i64 exp] 88);by_cases hd:exp<=now
   ·have R2:=Lib.hid (R.out.2.cut (i:=⟨ka,kn,kf⟩) (by rw [hdead]; exact decide_eq_true hd))
    have hd1:decide (exp<=now)=true:=decide_eq_true hd;clear R hdead;go_wp2_with fail;clear hrun hen;generalize (w2.alloc (.cells #[.int .u32 ka,.int .i64 kn,.int .i64 kf] 204)).alloc (.cells #[.int .i64 rf,.int .u32 id,.int .u32 seq,.int .u16 met,.int .i64 exp] 88)=W at*;have k0:=KB.at_ 0;have k1:=KB.at_ 1;have k2:=KB.at_ 2;have t0:W.cell? ⟨t,10,none⟩=some (.map o):=P2.head.ten;obtain ⟨w4,n4,cnt4,hu,P4,hc4⟩:=P2.drew.drop hon hi;replace hu:(Builtin.delete_ #[108,204] 0 #[.map o,.agg #[.int .u32 ka,.int .i64 kn,.int .i64 kf]]).run prog W.drew= .ok (.tuple #[]) w4:=hu;have Z:=Lib.hid P4;clear P4 P2 KB;go_region;all_goals
     go_wp2_with fail;go_roundw
     case rel=>exact ⟨_,_,cnt4,n4,Z.out,R2.out⟩
     case measure=>
      have:=Z.out.rg.left_eq;omega
   ·have R2:=Lib.hid (R.out.2.keep (i:=⟨ka,kn,kf⟩) (by rw [hdead]; exact decide_eq_false hd))
    have hd1:decide (exp<=now)=false:=decide_eq_false hd;have P3:=Lib.hid P2;clear P2 R KB hdead;go_wp2_with fail;go_roundw
    case rel=>exact ⟨f',_,cnt2,n',P3.out,R2.out⟩
    case measure=>
     have:=P3.out.rg.left_eq;omega
end
section
open Go.RowKit Go.Maps Rm
variable {L:List Nat}{w w1:World}{n r1 s1 t:Nat}{o:Option Nat}{k:Rk}
section
variable {w w':World} {R:Nat} {o fl tb:Option Nat} {j:Jr} {N n:Nat} {M:Mr}
theorem Rr.ne (h:Rr w R o fl tb j N n M) {b:Nat} (hb:o=some b\/fl=some b\/tb=some b):R≠b:=by
 obtain ⟨cn,cm,hnm,hS⟩:=h.nt;rcases hb with hb|hb|hb
 ·exact hS.head_ne (.inl hb)
 ·exact hS.head_ne (.inr hb)
 ·exact h.tab.ne hb
theorem Rr.of_head (h:Rr w R o fl tb j N n M) {M':Mr} {j':Jr} (hb:Blk 112 w' R (M'.C o fl j' tb)) (hsm:M'.sm=M.sm) (hf:M'.f=M.f) (hblk:∀ b,b≠R->w'.heap[b]?=w.heap[b]?) (hF:M'.Fits):Rr w' R o fl tb j' N n M':=by
 obtain ⟨cn,cm,hnm,hS⟩:=h.nt;have ho:Mo pkE w' o cn (fun x=>(M.sm.own x).map ownV):=hS.owns.of_block fun b e=>hblk b (Ne.symm (h.ne (.inl e)))
 have hl:Mo kyE w' fl cm (fun x=>(M.sm.floor x).map dV):=hS.floors.of_block fun b e=>hblk b (Ne.symm (h.ne (.inr (.inl e))))
 refine ⟨⟨cn,cm,hnm,⟨hb,by rw [hsm]; exact ho,by rw [hsm]; exact hl,hS.apart,by rw [hsm]; exact hS.small,by rw [hsm]; exact hS.lease_lt,hS.counts⟩⟩,?_,h.apart,hF⟩;rw [hf];exact h.mp.of_block fun b e=>hblk b (Ne.symm (h.ne (.inr (.inr e))))
theorem Rr.of_tab (h:Rr w R o fl tb j N n M) {f':Ways} {tb':Option Nat} {n':Nat} (ht:Tb (M.C o fl j) w' R tb' n' f') (T:Turn (R::tb.toList) w w') (hnew:∀ b,tb'=some b->tb=some b\/w.heap.size<=b) (hF:∀ k r,f' k=some r->r.Fits):Rr w' R o fl tb' j N n' { M with f:=f' }:=by
 obtain ⟨cn,cm,hnm,hS⟩:=h.nt;have away:∀ b,o=some b\/fl=some b->b∉R::tb.toList:=fun b hb hm=>by
  rcases List.mem_cons.1 hm with e|hm
  ·exact h.ne (hb.elim (fun h=> .inl h) (fun h=> .inr (.inl h))) e.symm
  ·have:=h.apart b (by simpa using hm)
   rcases hb with hb|hb
   ·exact this.1 hb
   ·exact this.2 hb
 refine ⟨⟨cn,cm,hnm,⟨ht.head,hS.owns.of_block fun b e=>T.block b (hS.owns.lt e) (away b (.inl e)),hS.floors.of_block fun b e=>T.block b (hS.floors.lt e) (away b (.inr e)),hS.apart,hS.small,hS.lease_lt,hS.counts⟩⟩,ht.map,fun b e=>?_,⟨h.fits.id,hF,h.fits.c,h.fits.now,h.fits.seq,h.fits.since⟩⟩;rcases hnew b e with e2|e2
 ·exact h.apart b e2
 ·constructor
  ·intro e3; have:=hS.owns.lt e3; omega
  ·intro e3; have:=hS.floors.lt e3; omega
end
theorem au5 {r:Rc} (h:right r=true) (hf:r.Fits):recAt (u8s (Rm.bytes r))=some r:=by
 unfold recAt;rw [cs3 (bd6 r)];exact cr4 h hf
structure Jd (dn:Nat) (safe:Nat->List UInt8) (wn:Int->Option (List UInt8)) (j:Jr) (id:Nat) (dk:Nat) (sm:Sm):Prop where
 disk:j.d=dk
 gen:j.gen<4294967296
 calm:wn=fun _=>none
 size:j.size=dn / 2
 first:j.first=0\/j.first=j.size
 bg:recAt (safe j.first)=some ⟨1,j.gen,0,id,0,0,false,0,0⟩
 recs:∃ rs:List Rc,rs.length=j.len/\(∀ k r,rs[k]?=some r->recAt (safe (j.first+1+k))=some r/\r.gen=j.gen/\r.lsn=k+1/\r.kind≠1/\right r=true/\r.Fits)/\rs.foldl app sm0=sm
 old:∀ i,i<dn->¬ (j.first<=i/\i<=j.first+j.len)->∀ r,recAt (safe i)=some r->r.gen<j.gen
 laid:j.laid=false
 big:2<=j.size
theorem at7 (safe:Nat->List UInt8) (i:Nat):synced safe (fun _=>none) i=safe i:=rfl
theorem Jd.push {dn:Nat} {safe:Nat->List UInt8} {wn:Int->Option (List UInt8)} {d first size gen len id dk:Nat} {laid:Bool} {sm:Sm} (h:Jd dn safe wn ⟨d,first,size,gen,len,laid⟩ id dk sm) {k:Int} {g l rid a:Nat} {rn:Int} {on:Bool} {s m:Nat}
  (hf:(⟨k,gen,1+len,rid,a,rn,on,s,m⟩:Rc).Fits) (hr:right ⟨k,gen,1+len,rid,a,rn,on,s,m⟩=true) (hk:k≠1):
  Jd dn (synced safe (updD wn ((first:Int)+((1+len:Nat):Int)) (u8s (Rm.bytes ⟨k,gen,1+len,rid,a,rn,on,s,m⟩)))) (fun _=>none) ⟨d,first,size,gen,len+1,laid⟩ id dk (app sm ⟨k,g,l,rid,a,rn,on,s,m⟩):=by
 obtain ⟨h0,h1,rfl,h3,h4,h5,⟨rs,h6,h7,h8⟩,h9,h10,h11⟩:=h;simp only at h1 h3 h4 h5 h6 h7 h9 h10 h11;have at_other:∀ i:Nat,i≠first+(1+len)->synced safe (updD (fun _=>none) ((first:Int)+((1+len:Nat):Int)) (u8s (Rm.bytes ⟨k,gen,1+len,rid,a,rn,on,s,m⟩))) i=safe i:=fun i hi=>by
  unfold synced;rw [ag3 _ (by omega)];rfl
 have at_same:synced safe (updD (fun _=>none) ((first:Int)+((1+len:Nat):Int)) (u8s (Rm.bytes ⟨k,gen,1+len,rid,a,rn,on,s,m⟩))) (first+(1+len))=u8s (Rm.bytes ⟨k,gen,1+len,rid,a,rn,on,s,m⟩):=by
  unfold synced;rw [show ((first+(1+len):Nat):Int)=(first:Int)+((1+len:Nat):Int) by omega,ai3];rfl
 refine ⟨h0,h1,rfl,h3,h4,?_,⟨rs++[⟨k,gen,1+len,rid,a,rn,on,s,m⟩],?_,?_,?_⟩,?_,h10,h11⟩
 ·show recAt (synced safe _ first)=_
  rw [at_other first (by omega)];exact h5
 ·simp [h6]
 ·intro i r hi
  try simp only
  by_cases e:i<rs.length
  ·rw [List.getElem?_append_left e] at hi
   rw [at_other _ (by omega)];exact h7 i r hi
  ·have e2:i=rs.length:=by
    obtain ⟨q,_⟩:=List.getElem?_eq_some_iff.1 hi;simp at q;omega
   subst e2;rw [List.getElem?_append_right (Nat.le_refl _),Nat.sub_self] at hi;simp only [List.getElem?_cons_zero,Option.some.injEq] at hi;subst hi;rw [h6,show first+1+len=first+(1+len) by omega,at_same];exact ⟨au5 hr hf,rfl,by show 1+len=len+1; omega,hk,hr,hf⟩
 ·rw [List.foldl_append,h8]
  rfl
 ·intro i hi hn r hr2
  simp only at hn ⊢;rw [at_other i (by omega)] at hr2;exact h9 i hi (by omega) r hr2
structure Rz (F:List Nat) (w:World) (R room sp:Nat) (M:Mr):Prop where
 ex:∃ o fl tb j N n S Mp dn safe wn,F=[j.d,S,Mp]++rp R o fl tb/\Rr w R o fl tb j N n M/\Dk w j.d S Mp dn safe wn (-1)/\(∀ x,x∈rp R o fl tb->x∉[j.d,S,Mp])/\
  j.first+j.size<=dn/\j.len+room+1<=j.size/\Jd dn safe wn j M.id M.d M.sm/\N+room<=1000/\n+sp<=90000
def Goes (F:List Nat) (w:World) (R room sp:Nat) (M':Mr) (w':World):Prop:=∃ F',Rz F' w' R room sp M'/\Turn F w w'/\∀ y,y∈F'->y∈F\/w.heap.size<=y
section
variable {F:List Nat} {w w':World} {R room sp:Nat} {M M':Mr}
theorem Turn.beyond {L':List Nat} {w w2:World} (h:Turn L w w1) (k:Turn L' w1 w2) (hL:∀ y,y∈L'->y∈L\/w.heap.size<=y):Turn L w w2:=
 ⟨k.os.trans h.os,k.tape.trans h.tape,k.output.trans h.output,Nat.le_trans h.size k.size,fun i hi hn=>(k.block i (Nat.lt_of_lt_of_le hi h.size) (fun hm=>(hL i hm).elim hn (fun h=>by omega))).trans (h.block i hi hn)⟩
theorem Rz.held (h:Rz F w R room sp M) (hb:Below w.heap.size w w'):Rz F w' R room sp M:=by
 obtain ⟨o,fl,tb,j,N,n,S,Mp,dn,safe,wn,hF,hR,hD,hr⟩:=h.ex;exact ⟨o,fl,tb,j,N,n,S,Mp,dn,safe,wn,hF,hR.held hb,hD.held hb,hr⟩
theorem Rz.turn (h:Rz F w R room sp M) (t:Turn L w w') (hL:∀ x,x∈F->x∉L):Rz F w' R room sp M:=by
 obtain ⟨o,fl,tb,j,N,n,S,Mp,dn,safe,wn,hF,hR,hD,hr⟩:=h.ex;subst hF;exact ⟨o,fl,tb,j,N,n,S,Mp,dn,safe,wn,rfl,hR.turn t (fun x hx=>hL x (List.mem_append_right _ hx)),hD.turn t (hL _ (by simp)) (hL _ (by simp)) (hL _ (by simp)),hr⟩
theorem Rz.lt (h:Rz F w R room sp M) {x:Nat} (hx:x∈F):x<w.heap.size:=by
 obtain ⟨o,fl,tb,j,N,n,S,Mp,dn,safe,wn,hF,hR,hD,hr⟩:=h.ex;subst hF;rcases List.mem_append.1 hx with h1|h1
 ·simp only [List.mem_cons,List.not_mem_nil,or_false] at h1
  rcases h1 with rfl|rfl|rfl
  ·exact hD.head.lt
  ·exact hD.ltS
  ·exact hD.map.lt
 ·exact hR.lt h1
theorem Rz.fits (h:Rz F w R room sp M):M.Fits:=by
 obtain ⟨o,fl,tb,j,N,n,S,Mp,dn,safe,wn,hF,hR,hD,hr⟩:=h.ex;exact hR.fits
theorem Rz.rr (h:Rz F w R room sp M):∃ o fl tb j N n,Rr w R o fl tb j N n M:=by
 obtain ⟨o,fl,tb,j,N,n,S,Mp,dn,safe,wn,hF,hR,hD,hr⟩:=h.ex;exact ⟨o,fl,tb,j,N,n,hR⟩
theorem Goes.stay (h:Rz F w R room sp M) (hb:Below w.heap.size w w'):Goes F w R room sp M w':=⟨F,h.held hb,.of_below _ hb,fun _ h=> .inl h⟩
theorem Goes.trans {F1:List Nat} {w2:World} (t1:Turn F w w1) (h1:∀ y,y∈F1->y∈F\/w.heap.size<=y) (k:Goes F1 w1 R r1 s1 M' w2):Goes F w R r1 s1 M' w2:=by
 obtain ⟨F2,h2,t2,n2⟩:=k;refine ⟨F2,h2,t1.beyond t2 h1,fun y hy=>?_⟩;rcases n2 y hy with h|h
 ·exact h1 y h
 ·exact .inr (Nat.le_trans t1.size h)
theorem Goes.before {w2:World} (hb:Below w.heap.size w w1) (k:Goes F w1 R r1 s1 M' w2):Goes F w R r1 s1 M' w2:=Goes.trans (.of_below _ hb) (fun _ h=> .inl h) k
theorem Goes.behind {w2:World} (k:Goes F w R r1 s1 M' w1) (hb:Below w1.heap.size w1 w2):Goes F w R r1 s1 M' w2:=by
 obtain ⟨F2,h2,t2,n2⟩:=k;exact ⟨F2,h2.held hb,t2.and_below hb,n2⟩
theorem Rz.of_head (h:Rz F w R room sp M) {M':Mr} (hb:∀ o fl j tb,Blk 112 w R (M.C o fl j tb)->Blk 112 w' R (M'.C o fl j tb)) (hsm:M'.sm=M.sm) (hf:M'.f=M.f) (T:Turn [R] w w') (hF:M'.Fits) (hid:M'.id=M.id:=by rfl) (hdd:M'.d=M.d:=by rfl):Goes F w R room sp M' w':=by
 obtain ⟨o,fl,tb,j,N,n,S,Mp,dn,safe,wn,hF',hR,hD,hd,hr⟩:=h.ex;rw [<- hsm,<- hid,<- hdd] at hr;subst hF';have hRm:R∈rp R o fl tb:=ae6.2 (.inl rfl);have hRd:=hd R hRm;simp only [List.mem_cons,List.not_mem_nil,or_false,not_or] at hRd;refine ⟨_,⟨o,fl,tb,j,N,n,S,Mp,dn,safe,wn,rfl,?_,hD.turn T (by simp; exact fun e=>hRd.1 e.symm) (by simp; exact fun e=>hRd.2.1 e.symm) (by simp; exact fun e=>hRd.2.2 e.symm),hd,hr⟩,T.mono (fun i hi=>by simp at hi; subst hi; exact List.mem_append_right _ hRm),fun _ h=> .inl h⟩;obtain ⟨cn,cm,hnm,hS⟩:=hR.nt;have ho:Mo pkE w' o cn (fun x=>(M.sm.own x).map ownV):=hS.owns.of_block fun b e=>T.block b (hS.owns.lt e) (by simp; exact Ne.symm (hR.ne (.inl e)))
 have hl:Mo kyE w' fl cm (fun x=>(M.sm.floor x).map dV):=hS.floors.of_block fun b e=>T.block b (hS.floors.lt e) (by simp; exact Ne.symm (hR.ne (.inr (.inl e))))
 refine ⟨⟨cn,cm,hnm,⟨hb _ _ _ _ hR.head,by rw [hsm]; exact ho,by rw [hsm]; exact hl,hS.apart,by rw [hsm]; exact hS.small,by rw [hsm]; exact hS.lease_lt,hS.counts⟩⟩,?_,hR.apart,hF⟩;rw [hf];exact hR.mp.of_block fun b e=>T.block b (hR.mp.lt e) (by simp; exact Ne.symm (hR.ne (.inr (.inr e))))
end
section
variable {X:Option Nat->Array Value}
theorem Tb.list {f:Ways} (h:Tb X w t o n f):∃ ks:List Rk,ks.Nodup/\(∀ k,k∈ks↔k.ok/\(f k).isSome=true)/\n=ks.length:=by
 cases o with
 |none=>
  refine ⟨[],List.nodup_nil,fun k=>?_,h.map.1⟩;have h1:(vals f k).isSome=false:=by rw [h.map.2 k]; rfl
  rw [af3] at h1;simp [h1]
 |some b=>
  obtain ⟨ks,h1,h2⟩:=Mk.list h.map;have h3:∀ k,k∈ks↔k.ok/\(f k).isSome=true:=fun k=>by rw [h2 k,af3]; exact Iff.rfl
  exact ⟨ks,h1,h3,(Mk.card h.map h1 h2).symm⟩
theorem Tb.fewer {Y:Option Nat->Array Value} {w':World} {t' n':Nat} {o':Option Nat} {f f':Ways} (h:Tb X w t o n f) (h':Tb Y w' t' o' n' f') (hf:∀ k,(f' k).isSome=true->(f k).isSome=true):n'<=n:=by
 obtain ⟨ks,h1,h2,rfl⟩:=h.list;obtain ⟨ks',h1',h2',rfl⟩:=h'.list;exact List.Nodup.length_le_of_subset h1' fun k hk=>(h2 k).2 ⟨((h2' k).1 hk).1,hf k ((h2' k).1 hk).2⟩
end
theorem ay3 {f:Ways} {dead:Rk->Bool} (h:(lessF f dead k).isSome=true):(f k).isSome=true:=by
 unfold lessF at h;split at h
 ·cases h
 ·exact h
theorem bc7 {f:Ways} {dead:Rk->Bool} {r:Rt} (h:lessF f dead k=some r):f k=some r:=by
 unfold lessF at h;split at h
 ·cases h
 ·exact h
section
variable {F:List Nat} {w w':World} {R room sp:Nat} {M:Mr}
theorem Rz.tab (h:Rz F w R room sp M):∃ (o fl tb:Option Nat) (j:Jr) (n:Nat),Tb (M.C o fl j) w R tb n M.f/\n+sp<=90000/\∀ (w':World) (tb':Option Nat) (n':Nat) (f':Ways) (sp':Nat),Tb (M.C o fl j) w' R tb' n' f'->Turn (R::tb.toList) w w'->(∀ b,tb'=some b->tb=some b\/w.heap.size<=b)->(∀ k r,f' k=some r->r.Fits)->n'+sp'<=90000->Goes F w R room sp' { M with f:=f' } w':=by
 obtain ⟨o,fl,tb,j,N,n,S,Mp,dn,safe,wn,hF',hR,hD,hd,h1,h2,h3,h4,h5⟩:=h.ex;refine ⟨o,fl,tb,j,n,hR.tab,h5,fun w' tb' n' f' sp' ht T hnew hF hn=>?_⟩;subst hF';have hsub:∀ x,x∈R::tb.toList->x∈rp R o fl tb:=fun x hx=>by
  rcases List.mem_cons.1 hx with rfl|hx
  ·exact ae6.2 (.inl rfl)
  ·exact ae6.2 (.inr (.inr (.inr (by simpa using hx))))
 have haw:∀ y,y∈[j.d,S,Mp]->y∉R::tb.toList:=fun y hy hx=>hd y (hsub y hx) hy
 have hDl:∀ y,y∈[j.d,S,Mp]->y<w.heap.size:=fun y hy=>h.lt (List.mem_append_left _ hy)
 refine ⟨_,⟨o,fl,tb',j,N,n',S,Mp,dn,safe,wn,rfl,hR.of_tab ht T hnew hF,hD.turn T (haw _ (by simp)) (haw _ (by simp)) (haw _ (by simp)),fun x hx hm=>?_,h1,h2,h3,h4,hn⟩,T.mono fun i hi=>List.mem_append_right _ (hsub i hi),fun y hy=>?_⟩
 ·rcases ae6.1 hx with e|e|e|e
  ·exact hd x (ae6.2 (.inl e)) hm
  ·exact hd x (ae6.2 (.inr (.inl e))) hm
  ·exact hd x (ae6.2 (.inr (.inr (.inl e)))) hm
  ·rcases hnew x e with e2|e2
   ·exact hd x (ae6.2 (.inr (.inr (.inr e2)))) hm
   ·have:=hDl x hm; omega
 ·rcases List.mem_append.1 hy with hy|hy
  ·exact .inl (List.mem_append_left _ hy)
  ·rcases ae6.1 hy with e|e|e|e
   ·exact .inl (List.mem_append_right _ (ae6.2 (.inl e)))
   ·exact .inl (List.mem_append_right _ (ae6.2 (.inr (.inl e))))
   ·exact .inl (List.mem_append_right _ (ae6.2 (.inr (.inr (.inl e)))))
   ·rcases hnew y e with e2|e2
    ·exact .inl (List.mem_append_right _ (ae6.2 (.inr (.inr (.inr e2)))))
    ·exact .inr e2
theorem rz_set (h:Rz F w R room (sp+1) M) (a:Nat) (len:Int) (r:Rt) (hk:Rk.ok ⟨a,len,r.fr⟩) (hr:r.Fits):
  Calls prog 137 #[.pointer (some ⟨R,10,none⟩),.agg #[.int .u32 a,.int .i64 len],rV r] w fun e w'=>e= .returned (.tuple #[])/\Goes F w R room sp { M with f:=putR M.f ⟨a,len,r.fr⟩ r } w':=by
 obtain ⟨o,fl,tb,j,n,hT,hn,hG⟩:=h.tab;refine (rt_set hT (by omega) a len r hk).mono ?_;rintro e w' ⟨rfl,b,n',hT',hn',hTu,hob⟩;refine ⟨rfl,hG w' (some b) n' _ sp hT' hTu (fun b' e=>by cases e; exact hob) (fun k r' e=>?_) (by omega)⟩;unfold putR at e;split at e
 ·cases e; exact hr
 ·exact h.fits.f k r' e
theorem ce3 (h:Rz F w R room sp M) (a:Nat) (len fr:Int) (hk:Rk.ok ⟨a,len,fr⟩):
  Calls prog 136 #[.pointer (some ⟨R,10,none⟩),.agg #[.int .u32 a,.int .i64 len],.int .i64 fr] w fun e w'=>e= .returned (.bool (M.f ⟨a,len,fr⟩).isSome)/\Goes F w R room sp { M with f:=cutR M.f ⟨a,len,fr⟩ } w':=by
 obtain ⟨o,fl,tb,j,n,hT,hn,hG⟩:=h.tab;refine (da3 hT a len fr hk rfl).mono ?_;rintro e w' ⟨rfl,n',hT',hn',hTu⟩;refine ⟨rfl,hG w' tb n' _ sp hT' (hTu.mono fun i hi=>List.mem_cons_of_mem _ hi) (fun b' e=> .inl e) (fun k r' e=>?_) (by omega)⟩;unfold cutR at e;split at e
 ·cases e
 ·exact h.fits.f k r' e
theorem bv8 (h:Rz F w R room sp M) (fr:Int):
  Calls prog 88 #[.pointer (some ⟨R,10,none⟩),.int .i64 fr] w fun e w'=>e= .returned (.tuple #[])/\Goes F w R room sp { M with f:=lessF M.f fun z=>decide (z.fr=fr) } w':=by
 obtain ⟨o,fl,tb,j,n,hT,hn,hG⟩:=h.tab;refine (bw1 hT fr).mono ?_;rintro e w' ⟨rfl,n',hT',hTu⟩;have:=hT.fewer hT' fun k=>ay3
 exact ⟨rfl,hG w' tb n' _ sp hT' (hTu.mono fun i hi=>List.mem_cons_of_mem _ hi) (fun b' e=> .inl e) (fun k r' e=>h.fits.f k r' (bc7 e)) (by omega)⟩
theorem ce2 (h:Rz F w R room sp M) (now:Int):
  Calls prog 74 #[.pointer (some ⟨R,10,none⟩),.int .i64 now] w fun e w'=>e= .returned (.tuple #[])/\Goes F w R room sp { M with f:=lessF M.f (deadAt M.f now) } w':=by
 obtain ⟨o,fl,tb,j,n,hT,hn,hG⟩:=h.tab;refine (ce5 hT now).mono ?_;rintro e w' ⟨rfl,n',hT',hTu⟩;have:=hT.fewer hT' fun k=>ay3
 exact ⟨rfl,hG w' tb n' _ sp hT' (hTu.mono fun i hi=>List.mem_cons_of_mem _ hi) (fun b' e=> .inl e) (fun k r' e=>h.fits.f k r' (bc7 e)) (by omega)⟩
def Mr.setCost (M:Mr) (k:Nat) (c:Int):Mr:={ M with c:=fun i=>if i=k then c else M.c i }
def Mr.link (M:Mr) (k:Nat) (c:Int):Mr:=if c=0 then { M.setCost k c with f:=lessF M.f fun z=>decide (z.fr=k) } else M.setCost k c
theorem ba2 (M:Mr) (k:Nat) (hk:k<8) (c:Int) (o fl:Option Nat) (j:Jr) (tb:Option Nat):(M.C o fl j tb).setIfInBounds (11+k) (.int .i64 c)=(M.setCost k c).C o fl j tb:=by
 have:k=0\/k=1\/k=2\/k=3\/k=4\/k=5\/k=6\/k=7:=by omega
 rcases this with rfl|rfl|rfl|rfl|rfl|rfl|rfl|rfl<;>rfl
theorem bv6 (h:Rz F w R room sp M) {k:Nat} (hk:k<8) {c:Int} (h0:0<=c) (h1:c<=1000):Goes F w R room sp (M.setCost k c) (w.setCell ⟨R,11+k,none⟩ (.int .i64 c)):=by
 have hF:=h.fits;refine h.of_head (fun o fl j tb hb=>?_) rfl rfl (Turn.setCell _ (by simp) _) ⟨hF.id,hF.f,fun i=>?_,hF.now,hF.seq,hF.since⟩
 ·have:=hb.store (11+k) (.int .i64 c)
  rw [ba2 M k hk] at this;exact this
 ·show 0<=(if i=k then c else M.c i)/\(if i=k then c else M.c i)<=1000
  split
  ·exact ⟨h0,h1⟩
  ·exact hF.c i
theorem ce1 (h:Rz F w R room sp M) {k:Nat} (hk:k<8) {c:Int} (h0:0<=c) (h1:c<=1000):
  Calls prog 60 #[.pointer (some ⟨R,0,none⟩),.int .i64 k,.int .i64 c] w fun e w'=>e= .returned (.int .i64 0)/\Goes F w R room sp (M.link k c) w':=by
 obtain ⟨o,fl,tb,j,N,n,hR⟩:=h.rr;have c0:=hR.cost_cell hk;have f0:=hR.head.free (11+k);have hG:=bv6 h hk h0 h1;have d1:decide ((k:Int)<0)=false:=decide_eq_false (by omega);have d2:decide ((8:Int)<=(k:Int))=false:=decide_eq_false (by omega);have d3:decide (c<0)=false:=decide_eq_false (by omega);have d4:decide ((1000:Int)<c)=false:=decide_eq_false (by omega);have HG:=Lib.hid hG;clear hG h hR;by_cases hc:c=0
 ·subst hc
  obtain ⟨F1,hz1,t1,n1⟩:=HG.out;have hDA:=bv8 hz1 k;have Z:=H2 t1 n1;clear hz1 t1 n1 HG;go_enter Tryz.func60,Tryz.ntmps60;go_wp2_with fail;refine hDA.mono ?_;rintro e w2 ⟨rfl,hG2⟩;have hG3:=Goes.trans Z.out.1 Z.out.2 hG2;clear hDA hG2 c0 f0;have HG3:=Lib.hid hG3;clear hG3;go_wp2_with fail;go_ret;refine ⟨rfl,?_⟩;have:=HG3.out;unfold Mr.link;rw [if_pos rfl];exact this
 ·have d5:(c==0)=false:=beq_eq_false_iff_ne.2 hc
  have E:=Lib.hid (show M.link k c=M.setCost k c by unfold Mr.link; rw [if_neg hc]);clear hc;go_enter Tryz.func60,Tryz.ntmps60;go_wp2_with fail;go_ret;exact ⟨rfl,by rw [E.out]; exact HG.out⟩
end
end
end Go.Proofs.YtlklghedfaeepaaGreat
