import Derived.Test.YtlklghedfaeepaaGreatB28
set_option maxHeartbeats 8000000
set_option maxRecDepth 100000
namespace Go.Proofs.YtlklghedfaeepaaGreat
open _root_.Go.Proofs.Tryz (prog)
section
open Go.RowKit Go.Maps Rm
attribute [local go_sem] Oper.semAt_some
section
variable {w:World} {N MB n:Nat} {ms:Nat->Ma} {v:Value} {xs:List Pe} {os:List (Nat×Nat×List Nat)}
structure Sent (w:World) (N MB n:Nat) (ms:Nat->Ma) (v:Value) (xs:List Pe) (os:List (Nat×Nat×List Nat)) (p:Pe) (bs:List Nat) (w':World):Prop where
 ex:∃ v' xs',Nw w' N MB n ms v' xs' (if os.length<256 then os++[(p.frm,p.dst,bs)] else os)/\Turn (N::v.ownBlock.toList) w w'/\(v'.ownBlock=v.ownBlock\/∃ b,v'.ownBlock=some b/\w.heap.size<=b)/\(∀ x,x∈xs'->x∈xs\/x=p)
theorem cr6 (h:Nw w N MB n ms v xs os) {a b g cap:Nat} {bs:List Nat} (ho:T.Ob w g cap bs) (hv:v.ownBlock≠some g) (hg:g≠N/\g≠MB/\∀ i,i<n->g∉(ms i).F) (hbig:os.length<=256):
  Calls prog 44 #[.pointer (some ⟨N,0,none⟩),.agg #[.int .i64 a,.int .i64 b,.slice (some ⟨g,0,none⟩) bs.length cap]] w fun e w'=>e= .returned (.tuple #[])/\Sent w N MB n ms v xs os ⟨a,b,g,bs.length,cap⟩ bs w':=by
 obtain ⟨p,vc,rfl,hvc⟩:=h.wy.own.form;have hln:=h.wy.len;rw [hln] at h hv ⊢;obtain ⟨hb1,PB⟩:=nw w 51 #[.int .i64 a,.int .i64 b,.slice (some ⟨g,0,none⟩) bs.length cap];have hs1:=aa1 w (.cells #[.int .i64 a,.int .i64 b,.slice (some ⟨g,0,none⟩) bs.length cap] 51);have h1:=h.held hb1;have ho1:=ho.held hb1;have HW:=am5 h1;have hlt:∀ x,(Value.slice p os.length vc).ownBlock=some x->x<w.heap.size:=fun x hx=>h.wy.lt (.inl hx)
 have X:=H8 h h1 ho1 hv hg hb1 hs1 hlt;have c2:(w.alloc (.cells #[.int .i64 a,.int .i64 b,.slice (some ⟨g,0,none⟩) bs.length cap] 51)).cell? ⟨w.heap.size,0,none⟩=some (.int .i64 a):=PB.at_ 0;have c3:(w.alloc (.cells #[.int .i64 a,.int .i64 b,.slice (some ⟨g,0,none⟩) bs.length cap] 51)).cell? ⟨w.heap.size,1,none⟩=some (.int .i64 b):=PB.at_ 1;have c4:(w.alloc (.cells #[.int .i64 a,.int .i64 b,.slice (some ⟨g,0,none⟩) bs.length cap] 51)).cell? ⟨w.heap.size,2,none⟩=some (.slice (some ⟨g,0,none⟩) bs.length cap):=PB.at_ 2;clear h h1 ho ho1 hv hg hb1 hs1 hlt PB hvc hln;go_enter Tryz.func44,Tryz.ntmps44;go_wp2_with fail;generalize w.alloc _=w1 at*;refine HW.mono ?_;rintro e w2 ⟨rfl,rfl⟩;clear HW;by_cases hl:os.length<256
 ·have d1:decide ((os.length:Int)<256)=true:=decide_eq_true (by omega)
  have hi:(os.length:Int)<256:=by omega
  have h2:=X.out.2.1.held (Below.refl _ _).drew;have ho2:=X.out.2.2.1.held (Below.refl _ _).drew;obtain ⟨g',cap',w7,hrun,hW,hT,hat⟩:=h2.wy.push (a:=a) (b:=b) X.out.2.2.2.1 ho2 (by omega);have hba:=aa0 w2.drew (.cells #[.int .i64 a,.int .i64 b,.slice (some ⟨g,0,none⟩) bs.length cap] 51);have q0:w2.drew.cell? ⟨N,1,none⟩=some (.slice p os.length vc):=h2.nt.head.at_ 1;have q1:w2.drew.cell? ⟨w.heap.size,0,none⟩=some (.int .i64 a):=c2;have q2:w2.drew.cell? ⟨w.heap.size,1,none⟩=some (.int .i64 b):=c3;have q3:w2.drew.cell? ⟨w.heap.size,2,none⟩=some (.slice (some ⟨g,0,none⟩) bs.length cap):=c4;have a0:=held hba q0;have b0:(w2.alloc (.cells #[.int .i64 a,.int .i64 b,.slice (some ⟨g,0,none⟩) bs.length cap] 51)).cell? ⟨N,1,none⟩=some (.slice p os.length vc):=a0;have a1:=held hba q1;have a2:=held hba q2;have a3:=held hba q3;have hNv:N∉(Value.slice p os.length vc).ownBlock.toList:=fun hm=>(h2.apart N (.inl (by simpa using hm))).1 rfl
  have hPv:w.heap.size∉(Value.slice p os.length vc).ownBlock.toList:=fun hm=>by have:=X.out.2.2.2.2.2.2.2 _ (by simpa using hm); omega
  have e0:=hT.cell q0 hNv;have e1:=hT.cell q1 hPv;have e2:=hT.cell q2 hPv;have e3:=hT.cell q3 hPv;have f0:w7.frozen? ⟨N,1,none⟩=false:=(h2.nt.head.turn hT hNv).free 1;have hL:=h2.listed hT hW (hat.elim (fun e=> .inl e.symm) (fun e=> .inr ⟨g',rfl,by omega⟩)) X.out.2.2.2.2.1;have hPN:w.heap.size≠N:=fun e=>by have:=X.out.1.nt.head.lt; omega
  have t9:Turn [N] w7 (w7.setCell ⟨N,1,none⟩ (.slice (some ⟨g',0,none⟩) (os.length+1) cap')):=Turn.setCell w7 (by simp) _;have s1:=t9.cell e1 (by simp; exact hPN);have s2:=t9.cell e2 (by simp; exact hPN);have s3:=t9.cell e3 (by simp; exact hPN);have Z:=Lib.hid (show Sent w N MB n ms (.slice p os.length vc) xs os ⟨a,b,g,bs.length,cap⟩ bs (w7.setCell ⟨N,1,none⟩ (.slice (some ⟨g',0,none⟩) (os.length+1) cap')) from ⟨.slice (some ⟨g',0,none⟩) (os.length+1) cap',xs++[⟨a,b,g,bs.length,cap⟩],by rw [if_pos hl]; exact hL.1,(Turn.of_below _ (X.out.2.2.2.2.2.1.trans ((Below.refl _ _).drew.mono X.out.2.2.2.2.2.1.size))).trans hL.2,hat.elim (fun e=> .inl e.symm) (fun e=> .inr ⟨g',rfl,by have h1:w2.drew.heap.size<g':=e; have h2:w2.drew.heap.size=w2.heap.size:=rfl; have:=X.out.2.2.2.2.2.2.1; omega⟩),fun x hx=>by simpa using hx⟩);clear hL hat hW hT h2 ho2 hba hNv hPv c2 c3 c4 t9 hPN;go_wp2_with fail;refine wp_region_held_drew (S:=fun u=>(u.cell? ⟨w.heap.size,0,none⟩=some (.int .i64 a)/\u.cell? ⟨w.heap.size,1,none⟩=some (.int .i64 b)/\u.cell? ⟨w.heap.size,2,none⟩=some (.slice (some ⟨g,0,none⟩) bs.length cap))) (by kernel_rfl) ⟨q1,q2,q3⟩ (fun hHeld=>?_);refine tk 0 (.pointer (some ⟨N,0,none⟩)) rfl hHeld ?_;go_frame;refine tk 1 (.pointer (some ⟨N,0,none⟩)) rfl hHeld ?_;go_frame;refine tk 2 (.pointer (some ⟨N,0,none⟩)) rfl hHeld ?_;go_frame;refine tk 3 (.pointer (some ⟨N,1,none⟩)) rfl hHeld ?_;go_frame;refine tk 5 (.agg #[.int .i64 a,.int .i64 b,.slice (some ⟨g,0,none⟩) bs.length cap]) rfl hHeld ?_;go_frame;refine wpAnyH_ready (rs:=[4,6]) (by kernel_rfl) (by simp) (AllReadyH.cons (aq4 rfl) (fun K hK=>?_) (AllReadyH.cons (aq4 rfl) (fun K hK=>?_) AllReadyH.nil))
  ·go_simp
   refine hK.out _ _ ⟨q1,q2,q3⟩ (fun hHeld=>?_);clear hK K;try go_frame
   refine rl 6 rfl fun K hK=>?_
   go_simp;refine hK.out _ _ ⟨a1,a2,a3⟩ (fun hHeld=>?_);clear hK K;try go_frame
   refine rl 7 rfl fun K hK=>?_
   refine ac6 rfl _ _ _ rfl _ _ _ _ _ ?_ ?_ ?_ hrun ?_<;>first|rfl|skip
   refine hK.out _ _ ⟨e1,e2,e3⟩ (fun hHeld=>?_);clear hK K a0 b0 a1 a2 a3 hrun q0 q1 q2 q3;try go_frame
   refine tk 8 (.pointer (some ⟨N,0,none⟩)) rfl hHeld ?_;go_frame;refine tk 9 (.pointer (some ⟨N,1,none⟩)) rfl hHeld ?_;go_frame;refine rl 10 rfl fun K hK=>?_
   go_simp;refine hK.out _ _ ⟨s1,s2,s3⟩ (fun hHeld=>?_);clear hK K;refine wpAnyH_done (by kernel_rfl) ?_ _;try go_frame
   clear hHeld;go_wp2_with fail;go_end0;exact ⟨rfl,Z.out⟩
  ·go_simp
   refine hK.out _ _ ⟨a1,a2,a3⟩ (fun hHeld=>?_);clear hK K;try go_frame
   refine rl 4 rfl fun K hK=>?_
   go_simp;refine hK.out _ _ ⟨a1,a2,a3⟩ (fun hHeld=>?_);clear hK K;try go_frame
   refine rl 7 rfl fun K hK=>?_
   refine ac6 rfl _ _ _ rfl _ _ _ _ _ ?_ ?_ ?_ hrun ?_<;>first|rfl|skip
   refine hK.out _ _ ⟨e1,e2,e3⟩ (fun hHeld=>?_);clear hK K a0 b0 a1 a2 a3 hrun q0 q1 q2 q3;try go_frame
   refine tk 8 (.pointer (some ⟨N,0,none⟩)) rfl hHeld ?_;go_frame;refine tk 9 (.pointer (some ⟨N,1,none⟩)) rfl hHeld ?_;go_frame;refine rl 10 rfl fun K hK=>?_
   go_simp;refine hK.out _ _ ⟨s1,s2,s3⟩ (fun hHeld=>?_);clear hK K;refine wpAnyH_done (by kernel_rfl) ?_ _;try go_frame
   clear hHeld;go_wp2_with fail;go_end0;exact ⟨rfl,Z.out⟩
 ·have d1:decide ((os.length:Int)<256)=false:=decide_eq_false (by omega)
  clear c2 c3 c4;go_wp2_with fail;go_end0;refine ⟨rfl,_,_,by rw [if_neg hl]; exact X.out.2.1,.of_below _ X.out.2.2.2.2.2.1,.inl rfl,fun x hx=> .inl hx⟩
end
theorem Ot.turn {L:List Nat} {B:Nat} {v:Value} {os:List (Nat×List Nat)} {xs:List Oe} {W W':World} (h:Ot B v os xs W) (t:Turn L W W') (hL:∀ x,B<=x->(v.ownBlock=some x\/∃ q,∃ (h:q<xs.length),xs[q].g=x)->x∉L):Ot B v os xs W':=
 ⟨h.own.turn t fun b e=>hL b (h.own.lt e).2 (.inl e),h.len,fun i hi hi'=>by obtain ⟨a,b,c,d,e⟩:=h.row i hi hi'; exact ⟨a,b,c.turn t (hL _ d (.inr ⟨i,hi,rfl⟩)),d,e⟩⟩
def sent1 (frm:Nat) (os:List (Nat×Nat×List Nat)) (d:Nat×List Nat):List (Nat×Nat×List Nat):=if os.length<256 then os++[(frm,d.1,d.2)] else os
def sendAll (frm:Nat) (os:List (Nat×Nat×List Nat)) (ds:List (Nat×List Nat)):List (Nat×Nat×List Nat):=ds.foldl (sent1 frm) os
theorem cd4 {frm:Nat} {os:List (Nat×Nat×List Nat)} (d:Nat×List Nat) (h:os.length<=256):(sent1 frm os d).length<=256:=by
 unfold sent1;split
 ·simp; omega
 ·exact h
theorem am0 {frm:Nat}:∀ (ds:List (Nat×List Nat)) (os:List (Nat×Nat×List Nat)),os.length<=256->(sendAll frm os ds).length<=256
 |[],_,h=>h
 |d::r,os,h=>am0 r (sent1 frm os d) (cd4 d h)
theorem bf0 {frm:Nat} (os:List (Nat×Nat×List Nat)) {ds:List (Nat×List Nat)} {k:Nat} (hk:k<ds.length):sendAll frm os (ds.take (k+1))=sent1 frm (sendAll frm os (ds.take k)) ds[k]:=by
 unfold sendAll;rw [List.take_succ_eq_append_getElem hk,List.foldl_append];rfl
structure Ticking (w w1:World) (N MB n:Nat) (ms:Nat->Ma) (i:Nat) (v:Value) (F:List Nat) (os:List (Nat×Nat×List Nat)) (B:Nat) (vt:Value) (ds:List (Nat×List Nat)) (xt:List Oe) (k:Nat) (wr:World):Prop where
 ex:∃ v' xs',Nw wr N MB n ms v' xs' (sendAll i os (ds.take k))/\(∀ b,v'.ownBlock=some b->v.ownBlock=some b\/w1.heap.size<=b)
 ot:Ot B vt ds xt wr
 sz:w1.heap.size<=wr.heap.size
 old:w.heap.size<=B
 tn:Turn (N::(v.ownBlock.toList++F)) w wr
 hv:∀ b,v.ownBlock=some b->b<w.heap.size
 Nl:N<w.heap.size/\MB<w.heap.size
 F:∀ j,j<n->∀ x,x∈(ms j).F->x<B
 top:w.heap.size<=w1.heap.size/\∀ q (h:q<xt.length),xt[q].g<w1.heap.size
 vt:∀ b,vt.ownBlock=some b->b<w1.heap.size
 len:os.length<=256
section
variable {w w1:World} {N MB n:Nat} {ms:Nat->Ma} {i:Nat} {v:Value} {F:List Nat} {os:List (Nat×Nat×List Nat)} {B:Nat} {vt:Value} {ds:List (Nat×List Nat)} {xt:List Oe} {k:Nat} {wr:World}
theorem Ticking.held (h:Ticking w w1 N MB n ms i v F os B vt ds xt k wr) {w2:World} (hb:Below wr.heap.size wr w2):Ticking w w1 N MB n ms i v F os B vt ds xt k w2:=by
 obtain ⟨v',xs',h1,h2⟩:=h.ex;exact ⟨⟨v',xs',h1.held hb,h2⟩,h.ot.held hb,Nat.le_trans h.sz hb.size,h.old,h.tn.and_below hb,h.hv,h.Nl,h.F,h.top,h.vt,h.len⟩
theorem Ticking.send (h:Ticking w w1 N MB n ms i v F os B vt ds xt k wr) (hk:k<ds.length) (hk2:k<xt.length):
  Calls prog 44 #[.pointer (some ⟨N,0,none⟩),.agg #[.int .i64 i,.int .i64 xt[k].dst,.slice (some ⟨xt[k].g,0,none⟩) xt[k].n xt[k].cap]] wr fun e w'=>e= .returned (.tuple #[])/\Ticking w w1 N MB n ms i v F os B vt ds xt (k+1) w':=by
 obtain ⟨v',xs',h1,h2⟩:=h.ex;obtain ⟨a1,a2,a3,a4,a5⟩:=h.ot.row k hk2 hk;have hN:=h.Nl;have ht:=h.top;have hold:=h.old;rw [a1,a2];have hv':v'.ownBlock≠some xt[k].g:=fun e=>by
  rcases h2 _ e with e2|e2
  ·have:=h.hv _ e2; omega
  ·have:=ht.2 k hk2; omega
 refine (cr6 h1 a3 hv' ⟨by omega,by omega,fun j hj hm=>by have:=h.F j hj _ hm; omega⟩ (am0 _ _ h.len)).mono ?_;rintro e w2 ⟨rfl,⟨v2,xs2,g1,g2,g3,g4⟩⟩;have hsz:=g2.size;refine ⟨rfl,⟨⟨v2,xs2,by rw [bf0 _ hk]; exact g1,fun b e=>?_⟩,h.ot.turn g2 fun x hx hx2 hm=>?_,Nat.le_trans h.sz hsz,hold,h.tn.beyond g2 fun y hy=>?_,h.hv,hN,h.F,ht,h.vt,h.len⟩⟩
 ·rcases g3 with e2|⟨b',e2,hb'⟩
  ·exact h2 b (by rw [<- e2]; exact e)
  ·rw [e2] at e; cases e
   exact .inr (Nat.le_trans h.sz hb')
 ·have hxl:x<w1.heap.size:=by
   rcases hx2 with e|⟨q,hq,rfl⟩
   ·exact h.vt x e
   ·exact ht.2 q hq
  rcases List.mem_cons.1 hm with e|e
  ·omega
  ·rcases h2 x (by simpa using e) with e2|e2
   ·have:=h.hv x e2; omega
   ·omega
 ·rcases List.mem_cons.1 hy with e|e
  ·exact .inl (by simp [e])
  ·rcases h2 y (by simpa using e) with e2|e2
   ·exact .inl (by simp [e2])
   ·exact .inr (by have:=h.top; omega)
theorem Ticking.start {d R room sp:Nat} {M:Mr} {c:Nat->Int} {z:Dz} {room0 sp0:Nat} {M0:Mr} {xs:List Pe} (h:Nw w N MB n ms v xs os) (hi:i<n) (hm:ms i=⟨d,some ⟨R,room0,sp0,M0⟩,F,c,z⟩) (hlen:os.length<=256)
  {F':List Nat} (hz:Rz F' w1 R room sp M) (t:Turn F w w1) (hn:∀ y,y∈F'->(y∈F\/w.heap.size<=y)/\y<B) (hB:w.heap.size<=B) (hO:Ot B vt ds xt w1) (hMd:M.d=M0.d):
  Ticking w w1 N MB n (puts ms i ⟨d,some ⟨R,room,sp,M⟩,F',c,z⟩) i v F os B vt ds xt 0 w1:=by
 obtain ⟨F2,hg⟩:∃ F2,Nt w1 N MB n (puts ms i ⟨d,some ⟨R,room,sp,M⟩,F2,c,z⟩) v/\F2=F':=by
  refine ⟨F',?_,rfl⟩;refine h.nt.one hi (by rw [hm]; exact t) (.of_some rfl hz (hMd.trans (by have:=(h.nt.mas.ok i hi).disk (x:=⟨R,room0,sp0,M0⟩) (by rw [hm]); rw [this,hm]))) (fun y hy=>by rw [hm]; exact (hn y hy).1) (by rw [hm]; rfl)
 have hg1:=hg.1;rw [hg.2] at hg1;have hN:=h.nt.head.lt;have hM:=h.nt.mas.lt;refine ⟨⟨v,xs,by rw [List.take_zero]; exact h.one hi hg1 t (fun x hx=> .inr (by rw [hm]; exact hx)) (fun y hy=>by rw [hm]; exact (hn y hy).1),fun b e=> .inl e⟩,hO,Nat.le_refl _,hB,t.mono fun x hx=>by simp [hx],fun b e=>h.wy.lt (.inl e),⟨hN,hM⟩,fun j hj x hx=>?_,?_,fun b e=>(hO.own.lt e).1,hlen⟩
 ·by_cases e:j=i
  ·subst e
   rw [aa3] at hx;exact (hn x hx).2
  ·rw [aa2 e] at hx
   have:=(h.nt.mas.ok j hj).lt hx;omega
 ·refine ⟨?_,fun q hq=>?_⟩
  ·exact t.size
  ·exact (hO.row q hq (by rw [<- hO.len]; exact hq)).2.2.1.lt
end
section
variable {w:World} {N MB n:Nat} {ms:Nat->Ma} {v:Value} {xs:List Pe} {os:List (Nat×Nat×List Nat)}
theorem cr5 (h:Nw w N MB n ms v xs os) {i:Nat} (hi:i<n) (hlen:os.length<=256) {d R room0 sp0 room sp:Nat} {M:Mr} {F:List Nat} {c:Nat->Int} {z:Dz} (hm:ms i=⟨d,some ⟨R,room0,sp0,M⟩,F,c,z⟩)
  (HT:Calls prog 43 #[.pointer (some ⟨R,0,none⟩)] w fun e w'=>∃ v,e= .returned v/\Tkd F w R room sp M v w'):
  Calls prog 19 #[.pointer (some ⟨N,0,none⟩),.int .i64 i] w fun e w'=>e= .returned (.int .i64 0)/\∃ M2 rs F' v' xs',Ticks M M2/\Subj M2 rs/\Nw w' N MB n (puts ms i ⟨d,some ⟨R,room,sp,(M2.tellS rs).2⟩,F',c,z⟩) v' xs' (sendAll i os (sends M.c (T.Tm.encode (M2.tellS rs).1) 8))/\
   Turn (N::(v.ownBlock.toList++F)) w w'/\(∀ y,y∈F'->y∈F\/w.heap.size<=y)/\(∀ b,v'.ownBlock=some b->v.ownBlock=some b\/w.heap.size<=b):=by
 have H2:=as3 h.nt hi;rw [hm] at H2;replace H2:Calls prog 28 #[.pointer (some ⟨N,0,none⟩),.int .i64 i] w fun e w'=>e= .returned (.bool true)/\w'=w:=H2
 have c0:w.cell? ⟨N,0,none⟩=some (.slice (some ⟨MB,0,none⟩) n n):=h.nt.head.at_ 0;have c1:w.cell? ⟨MB,i*10,none⟩=some (.pointer (some ⟨R,0,none⟩)):=h.nt.cell hi (j:=0) (by rw [hm]; rfl);have hin:(i:Int)<(n:Int):=by omega
 have X:=H3 h hm hlen;clear h hm hlen;go_enter Tryz.func19,Tryz.ntmps19;go_wp2_with fail;refine H2.mono ?_;rintro e w2 ⟨rfl,rfl⟩;clear H2;go_wp2_with fail;refine HT.mono ?_;rintro e w1 ⟨vt,rfl,⟨F',B,M2,rs,xt,hk1,hk2,hz,ht,hn,hB,hO⟩⟩;have hS:=Ticking.start X.out.1 hi X.out.2.1 X.out.2.2 hz ht hn hB hO ((Mr.tellS_kin _ _).2.trans hk1.kin.2);obtain ⟨tp,vc,rfl,hvc⟩:=hO.own.form;have hln:=hO.len;generalize hds:sends M.c (T.Tm.encode (M2.tellS rs).1) 8=ds at*;generalize hM3:(M2.tellS rs).2=M3 at*;rw [hln] at hS;have Y:=H8 hS hk1 hk2 hn hln hM3 ht.size hds;rw [hln];clear hS hk1 hk2 hn hz ht hB hO HT c0 c1 hvc hM3 hln hds;go_wp2_with fail;go_loopw [21] (fun ix wr=>∃ k:Nat,ix= .int .i64 k/\k<=ds.length/\Hid (Ticking w2 w1 N MB n (puts ms i ⟨d,some ⟨R,room,sp,M3⟩,F',c,z⟩) i v F os B (.slice tp ds.length vc) ds xt k wr)) (fun ix _=>ds.length - (intOf ix).toNat)
 case atStart=>exact ⟨0,rfl,by omega,Lib.hid Y.out.1⟩
 case round=>
  obtain ⟨k,rfl,hk,hB⟩:=hrel;by_cases hkn:k<ds.length
  ·have hin2:(k:Int)<(ds.length:Int):=by omega
   have hkx:k<xt.length:=by rw [Y.out.2.2.2.2.1]; exact hkn
   obtain ⟨g0,cap0,e0,h1,h2,hc⟩:=hB.out.ot.own.at_ elemO.len hkx;injection e0 with e1 e2 e3;subst e1;subst e3;clear e2;have q0:wr.cell? ⟨g0,k*2,none⟩=some (.int .i64 xt[k].dst):=hc 0 (by omega);have q1:wr.cell? ⟨g0,k*2+1,none⟩=some (.slice (some ⟨xt[k].g,0,none⟩) xt[k].n xt[k].cap):=hc 1 (by omega);have hba:=aa0 wr (.cells #[.int .i64 xt[k].dst,.slice (some ⟨xt[k].g,0,none⟩) xt[k].n xt[k].cap] 117);have HS:=(hB.out.held hba).send hkn hkx;have hsm:ds.length<=maxLen:=by have:=Y.out.2.2.2.2.1; omega
   unfold maxLen at hsm;clear hc h1 h2 hba;go_wp2_with fail;refine HS.mono ?_;rintro e w5 ⟨rfl,hT5⟩;have R:=Lib.hid hT5;clear hT5 HS q0 q1 hB;go_wp2_with fail;go_roundw
   case rel=>exact ⟨k+1,by go_num,by omega,R⟩
   case measure=>simp [intOf]; omega
  ·obtain rfl:k=ds.length:=by omega
   have hE:=hB.out.ex;rw [List.take_length] at hE;obtain ⟨v',xs',g1,g2⟩:=hE;have Z:=H3 g1 g2 hB.out.tn;clear hB g1 g2;go_wp2_with fail;go_ret;have hsz:=Y.out.2.2.2.2.2.2.1;exact ⟨rfl,M2,rs,F',v',xs',Y.out.2.1,Y.out.2.2.1,by rw [Y.out.2.2.2.2.2.1,Y.out.2.2.2.2.2.2.2]; exact Z.out.1,Z.out.2.2,fun y hy=>(Y.out.2.2.2.1 y hy).1,fun b e=>(Z.out.2.1 b e).imp id (Nat.le_trans hsz)⟩
end
section
variable {w:World} {N MB n:Nat} {ms:Nat->Ma} {v:Value} {xs:List Pe} {os:List (Nat×Nat×List Nat)}
theorem ch3 (h:Nw w N MB n ms v xs os) (z:Int):Calls prog 45 #[.pointer (some ⟨N,0,none⟩),.int .i64 z] w fun e w'=>e= .returned (.bool (decide (0<=z/\z<(os.length:Int))))/\w'=w:=by
 have HS:=am5 h;clear h;by_cases h0:0<=z
 ·have d0:decide (0<=z)=true:=decide_eq_true h0
  have E:=Lib.hid (show decide (0<=z/\z<(os.length:Int))=decide (z<(os.length:Int)) by simp [h0]);obtain ⟨q,hq⟩:∃ q,decide (z<(os.length:Int))=q:=⟨_,rfl⟩;rw [hq] at E;go_enter Tryz.func45,Tryz.ntmps45;go_wp2_with fail;refine HS.mono ?_;rintro e w2 ⟨rfl,rfl⟩;go_wp2_with fail;go_ret;exact ⟨aa4 E.out.symm,rfl⟩
 ·have d0:decide (0<=z)=false:=decide_eq_false h0
  have E:=Lib.hid (show decide (0<=z/\z<(os.length:Int))=false by simp [h0]);go_enter Tryz.func45,Tryz.ntmps45;go_wp2;go_ret;exact ⟨rfl,rfl⟩
theorem ar3 (h:Nw w N MB n ms v xs os) {k:Nat} (hk:k<os.length):Calls prog 45 #[.pointer (some ⟨N,0,none⟩),.int .i64 k] w fun e w'=>e= .returned (.bool true)/\w'=w:=
 (ch3 h k).mono fun _ _ ⟨he,hw⟩=>⟨by rw [he,decide_eq_true (by omega)],hw⟩
end
end
section
open Go.RowKit Go.Maps Rm
theorem ba6 {P:Program} (w:World) (t e ty:TypeId) (z:Value) (ht:P.underlying t=some (.slice e)) (hv:∀ w,(zeroValue e).run P w= .ok z w) (h1:∀ v∈z.cells.toList,v.oneCell'=true) (b o c:Nat)
  (hc:∀ j,j<z.cells.size->(w.cell? ⟨b,o+j,none⟩).isSome=true) (hf:∀ j,j<z.cells.size->w.frozen? ⟨b,o+j,none⟩=false):
  (Builtin.clear_ #[t] ty #[.slice (some ⟨b,o,none⟩) 1 c]).run P w= .ok (.tuple #[]) (w.setCells b o z.cells.toList):=by
 have hzc:(Builtin.zeroCells z.cells 1).toList=z.cells.toList:=by
  apply List.ext_getElem
  ·simp [Builtin.zeroCells]
  ·intro i h1 h2
   have h3:i<z.cells.size:=by simpa using h2
   simp [Builtin.zeroCells,Nat.mod_eq_of_lt h3];exact getElem!_pos z.cells i h3
 have hst:=run_storeCells_cells (P:=P) b o z.cells.toList 0 w (by simpa using hc) (by simpa using hf) h1;simp only [Nat.add_zero] at hst;simp [Builtin.clear_,run_underlying ht,hv,hzc,hst]
theorem bz6 (xs:List Pe) {k:Nat} (hk:k<xs.length) (cur:Array Value) (ht:cur.toList.take (xs.length*3)=xs.flatMap pcl):
  (cur.toList.take (k*3)++(xs.drop (k+1)).flatMap pcl++cur.toList.drop (k*3+((xs.drop (k+1)).flatMap pcl).length)).take ((xs.length - 1)*3)=(xs.eraseIdx k).flatMap pcl:=by
 have hl:∀ x:Pe,(pcl x).length=3:=elemW.len;have e1:cur.toList.take (k*3)=(xs.take k).flatMap pcl:=by
  have:cur.toList.take (k*3)=(cur.toList.take (xs.length*3)).take (k*3):=by rw [List.take_take,Nat.min_eq_left (by omega)]
  rw [this,ht]
  conv=>lhs; arg 2; rw [<- List.take_append_drop k xs,List.flatMap_append]
  rw [List.take_left' (by rw [aa9 hl,List.length_take,Nat.min_eq_left (by omega)])]
 rw [e1,List.eraseIdx_eq_take_drop_succ,List.flatMap_append,List.take_left'];rw [List.length_append,aa9 hl,aa9 hl,List.length_take,List.length_drop,Nat.min_eq_left (by omega)];omega
attribute [local go_sem] Oper.semAt_some
def zpk:Value:= .agg #[.int .i64 0,.int .i64 0,.slice none 0 0]
theorem df4 {w:World} {g cap:Nat} {xs:List Pe} (h:Ol 51 pcl 3 0 (.slice (some ⟨g,0,none⟩) xs.length cap) xs w) {k:Nat} (hk:k<xs.length):
  Calls prog 51 #[.slice (some ⟨g,0,none⟩) xs.length cap,.int .i64 k,.int .i64 ((k+1:Nat):Int)] w fun e w'=>e= .returned (.slice (some ⟨g,0,none⟩) (xs.length - 1) cap)/\Ol 51 pcl 3 0 (.slice (some ⟨g,0,none⟩) (xs.length - 1) cap) (xs.eraseIdx k) w'/\Turn [g] w w':=by
 have H:=Lib.hid h;obtain ⟨hl,h2⟩:=h;rcases h2 with ⟨e,_⟩|⟨g',cap',cur,e,h4,h5,h6,h7,h8,h9⟩
 ·cases e
 cases e;have hi1:(k:Int)<(xs.length:Int):=by omega
 have hne:((k:Int)==((k+1:Nat):Int))=false:=beq_eq_false_iff_ne.2 (by omega);have hcur:∀ (q:Nat) (u:Value),(xs.flatMap pcl)[q]?=some u->cur[q]?=some u:=fun q u hq=>by
  rw [<- h9,List.getElem?_take] at hq;split at hq
  ·simpa using hq
  ·cases hq
 obtain ⟨news,hnews⟩:∃ news,news=(xs.drop (k+1)).flatMap pcl:=⟨_,rfl⟩;have hnl:news.length=(xs.length - (k+1))*3:=by rw [hnews,aa9 elemW.len,List.length_drop]
 obtain ⟨ad,hA,hsrc⟩:∃ ad:Addr,(if cap=k+1 then some (⟨g,0,none⟩:Addr) else some ⟨g,(k+1)*3,none⟩)=some ad/\∀ j u,news[j]?=some u->w.drew.cell? (ad.add j)=some u:=by
  by_cases e:cap=k+1
  ·refine ⟨_,if_pos e,fun j u hu=>?_⟩
   have:news=[]:=List.eq_nil_of_length_eq_zero (by rw [hnl]; omega);rw [this] at hu;simp at hu
  ·refine ⟨_,if_neg e,fun j u hu=>?_⟩
   rw [Addr.add_lit];have hb:Blk 51 w.drew g cur:=h5;rw [hb.at_];refine hcur _ _ ?_;rw [<- List.take_append_drop (k+1) xs,List.flatMap_append,List.getElem?_append_right (by rw [aa9 elemW.len,List.length_take]; omega),aa9 elemW.len,List.length_take,Nat.min_eq_left (by omega),Nat.add_sub_cancel_left,<- hnews];exact hu
 obtain ⟨i0,z0,hi0,hz0,hz1,hz2,hz3⟩:=elemW.info;have hone:∀ u∈news,u.oneCell'=true:=fun u hu=>by
  rw [hnews] at hu;obtain ⟨x,_,hx⟩:=List.mem_flatMap.1 hu;exact elemW.one x u hx
 have hrun:=run_append_room (P:=prog) w.drew 73 73 51 i0 (by kernel_rfl) hi0 g k cap cur h5 ad (xs.length - (k+1)) (cap - (k+1)) news (by rw [hz1]; exact hnl) hsrc hone (by omega) (by rw [hz1,hnl,h8]; omega);obtain ⟨m1,hm1⟩:∃ m1,m1=xs.length - 1:=⟨_,rfl⟩;rw [show k+(xs.length - (k+1))=m1 by omega,hz1] at hrun;obtain ⟨W1,hW1⟩:∃ W1,W1=w.drew.setRow g (cur.toList.take (k*3)++news++cur.toList.drop (k*3+news.length)).toArray:=⟨_,rfl⟩;rw [<- hW1] at hrun;have hB1:Blk 51 W1 g (cur.toList.take (k*3)++news++cur.toList.drop (k*3+news.length)).toArray:=by
  rw [hW1];exact setRow_heap w.drew g cur _ 51 (0,0) h5
 have hsz1:(cur.toList.take (k*3)++news++cur.toList.drop (k*3+news.length)).length=cap*3:=by
  simp only [List.length_append,List.length_take,List.length_drop,Array.length_toList,hnl,h8];omega
 have hd:=bz6 xs hk cur h9;rw [<- hnews] at hd;have hT1:Turn [g] w W1:=by
  rw [hW1];exact ⟨rfl,rfl,rfl,by rw [setRow_size]; exact Nat.le_refl _,fun q _ hq=>(setRow_other w.drew g q _ (fun e=>hq (by simp [e])))⟩
 generalize cur.toList.take (k*3)++news++cur.toList.drop (k*3+news.length)=L1 at*;have hcl:(Builtin.clear_ #[73] 0 #[.slice (some ⟨g,(xs.length - 1)*3,none⟩) (xs.length - (xs.length - 1)) (cap - (xs.length - 1))]).run prog W1= .ok (.tuple #[]) (W1.setCells g ((xs.length - 1)*3) [Value.int .i64 0,Value.int .i64 0,Value.slice none 0 0]):=by
  rw [show xs.length - (xs.length - 1)=1 by omega];refine ba6 W1 73 51 0 zpk (by kernel_rfl) (fun w=>by kernel_rfl) (fun v hv=>?_) g _ _ (fun j hj=>?_) (fun j _=>hB1.free _)
  ·simp only [zpk,Value.cells,List.mem_cons,List.not_mem_nil,or_false] at hv
   rcases hv with rfl|rfl|rfl<;>rfl
  ·rw [hB1.at_]
   have h3:j<3:=hj;rw [List.getElem?_toArray,List.getElem?_eq_getElem (by rw [hsz1]; omega)];rfl
 have hB2:=hB1.setCells [Value.int .i64 0,Value.int .i64 0,Value.slice none 0 0] ((xs.length - 1)*3);have hO2:Ol 51 pcl 3 0 (.slice (some ⟨g,0,none⟩) (xs.length - 1) cap) (xs.eraseIdx k) (W1.setCells g ((xs.length - 1)*3) [Value.int .i64 0,Value.int .i64 0,Value.slice none 0 0]):=by
  have hel:(xs.eraseIdx k).length=xs.length - 1:=by rw [List.length_eraseIdx,if_pos hk]
  have hz3:[Value.int .i64 0,Value.int .i64 0,Value.slice none 0 0].length=3:=rfl;refine ⟨by rw [aa9 elemW.len],.inr ⟨g,cap,_,by rw [hel],Nat.zero_le _,hB2,by omega,h7,by rw [av0]; simpa using hsz1,?_⟩⟩;rw [hel,<- hd];apply List.ext_getElem?;intro q;rw [List.getElem?_take,List.getElem?_take];split
  ·rw [Array.getElem?_toList,ah7 _ _ _ (by rw [hz3]; simp only [List.size_toArray,hsz1]; omega),if_neg (by omega),List.getElem?_toArray]
  ·rfl
 have hT2:Turn [g] w (W1.setCells g ((xs.length - 1)*3) [Value.int .i64 0,Value.int .i64 0,Value.slice none 0 0]):=hT1.trans (Turn.setCells W1 (by simp) _ _);have M:=H2 hO2 hT2;have hm:cap<=9223372036854775807:=by unfold maxLen at h7; omega
 clear hl h4 h5 h8 h9 H h7 hcur hsrc hone hi0 hz0 hz1 hz2 hz3 hW1 hnews hnl hB1 hsz1 hd hT1 hB2 hO2 hT2;go_enter Tryz.func51,Tryz.ntmps51;go_wp2_with fail;refine wp_region_held_drew (S:=fun u=>True) (by kernel_rfl) trivial (fun hHeld=>?_);refine tk 0 (.slice (some ⟨g,0,none⟩) xs.length cap) rfl hHeld ?_;go_frame;refine tk 1 (.int .i64 k) rfl hHeld ?_;go_frame;refine aa6 (i:=2) (v:= .slice (some ⟨g,0,none⟩) k cap) rfl (by kernel_rfl) (by kernel_rfl) (by kernel_rfl) (fun _ _ _ h=>h) (.inl ⟨rfl,?_⟩) hHeld ?_
 ·(intro w hSw; go_simp; try (intro e0; omega))
 go_frame;refine tk 3 (.slice (some ⟨g,0,none⟩) xs.length cap) rfl hHeld ?_;go_frame;refine tk 4 (.int .i64 ((k+1:Nat):Int)) rfl hHeld ?_;go_frame;refine aa6 (i:=5) (v:= .slice (some ad) (xs.length - (k+1)) (cap - (k+1))) rfl (by kernel_rfl) (by kernel_rfl) (by kernel_rfl) (fun _ _ _ h=>h) (.inl ⟨rfl,?_⟩) hHeld ?_
 ·(intro w hSw; go_simp; try (intro e0; have:=e0 (by omega); omega))
 go_frame;refine rl 6 rfl fun K hK=>?_
 refine ac6 rfl _ _ _ rfl _ _ _ _ _ ?_ ?_ ?_ hrun ?_<;>first|rfl|skip
 refine hK.out _ _ trivial (fun hHeld=>?_);clear hK K hrun;try go_frame
 refine tk 7 (.slice (some ⟨g,0,none⟩) m1 cap) rfl hHeld ?_;go_frame;refine wpAnyH_done (by kernel_rfl) ?_ _;try go_frame
 clear hHeld;go_wp2_with fail;go_ret;subst hm1;exact ⟨rfl,M.out⟩
end
section
open Go.RowKit Go.Maps Rm
attribute [local go_sem] Oper.semAt_some
section
variable {w w':World} {N MB n:Nat} {ms:Nat->Ma} {v:Value} {xs:List Pe} {os:List (Nat×Nat×List Nat)}
theorem Wy.erase {W W':World} (h:Wy v os xs W) {k:Nat} (hk:k<xs.length) {v':Value} (hv:v'.ownBlock=v.ownBlock) (hO:Ol 51 pcl 3 0 v' (xs.eraseIdx k) W') (hT:Turn v.ownBlock.toList W W'):Wy v' (os.eraseIdx k) (xs.eraseIdx k) W':=by
 have hko:k<os.length:=by rw [<- h.len]; exact hk
 refine ⟨hO,by rw [List.length_eraseIdx,List.length_eraseIdx,if_pos hk,if_pos hko,h.len],fun i hi hi'=>?_⟩;have hi2:i<xs.length - 1:=by rw [List.length_eraseIdx,if_pos hk] at hi; exact hi
 have away:∀ x,v.ownBlock≠some x->x∉v.ownBlock.toList:=fun x hx hm=>hx (by simpa using hm)
 rw [List.getElem_eraseIdx,List.getElem_eraseIdx];by_cases e:i<k
 ·rw [dif_pos e,dif_pos e]
  obtain ⟨a,b,c,d,f⟩:=h.row i (by omega) (by rw [<- h.len]; omega);exact ⟨a,b,c,d.turn hT (away _ f),by rw [hv]; exact f⟩
 ·rw [dif_neg e,dif_neg e]
  obtain ⟨a,b,c,d,f⟩:=h.row (i+1) (by omega) (by rw [<- h.len]; omega);exact ⟨a,b,c,d.turn hT (away _ f),by rw [hv]; exact f⟩
theorem Nw.fewer (h:Nw w N MB n ms v xs os) (hT:Turn v.ownBlock.toList w w') {v':Value} {os':List (Nat×Nat×List Nat)} {xs':List Pe} (hW:Wy v' os' xs' w') (hv:v'.ownBlock=v.ownBlock) (hx:∀ p,p∈xs'->p∈xs):
  Nw (w'.setCell ⟨N,1,none⟩ v') N MB n ms v' xs' os'/\Turn (N::v.ownBlock.toList) w (w'.setCell ⟨N,1,none⟩ v'):=by
 have t2:Turn [N] w' (w'.setCell ⟨N,1,none⟩ v'):=Turn.setCell w' (by simp) _;have away:∀ x,x∈v.ownBlock.toList->x≠N/\x≠MB/\∀ i,i<n->x∉(ms i).F:=fun x hx=>h.apart x (.inl (by simpa using hx))
 have hN1:=(h.nt.head.turn hT fun hm=>(away _ hm).1 rfl).store 1 v';have hap:∀ x,inW v' xs' x->x≠N/\x≠MB/\∀ i,i<n->x∉(ms i).F:=fun x hx1=>by
  rcases hx1 with e|⟨q,hq,e⟩
  ·exact h.apart x (.inl (by rw [<- hv]; exact e))
  ·exact h.apart x (.inr ⟨q,hx q hq,e⟩)
 exact ⟨⟨⟨hN1,(h.nt.mas.turn hT (fun hm=>(away _ hm).2.1 rfl) (fun i hi x hx hm=>(away x hm).2.2 i hi hx)).turn t2 (by simp; exact fun e=>h.nt.ne e.symm) (fun i hi x hx=>by simp; exact fun e=>h.nt.nF i hi (e ▸ hx)),h.nt.ne,h.nt.nF,h.nt.n1,h.nt.n8⟩,hW.turn t2 fun x hx=>by simp; exact (hap x hx).1,hap⟩,(hT.mono fun x hx=>List.mem_cons_of_mem _ hx).trans (t2.mono fun x hx=>by simp at hx; simp [hx])⟩
theorem cr7 (h:Nw w N MB n ms v xs os) {k:Nat} (hk:k<os.length):Calls prog 23 #[.pointer (some ⟨N,0,none⟩),.int .i64 k] w fun e w'=>e= .returned (.int .i64 0)/\
  ∃ v',Nw w' N MB n ms v' (xs.eraseIdx k) (os.eraseIdx k)/\Turn (N::v.ownBlock.toList) w w'/\v'.ownBlock=v.ownBlock:=by
 have hkx:k<xs.length:=by rw [h.wy.len]; exact hk
 have HW:=ar3 h hk;obtain ⟨g0,cap0,rfl,h1,h2,hc⟩:=h.wy.own.at_ elemW.len hkx;have hsm:os.length<=maxLen:=by have:=h.wy.len; omega
 unfold maxLen at hsm;have HD:=df4 h.wy.own hkx;have hln:=h.wy.len;have ek:((k+1:Nat):Int)=(k:Int)+1:=by omega
 rw [ek,hln] at HD;rw [hln] at h ⊢;have c0:w.cell? ⟨N,1,none⟩=some (.slice (some ⟨g0,0,none⟩) os.length cap0):=h.nt.head.at_ 1;have e1:wrap64 ((k:Int)+1)=(k:Int)+1:=IntWalk.wrap64_in _ (by omega);have hgN:N∉[g0]:=by simp; exact fun e=>(h.apart g0 (.inl rfl)).1 e.symm
 have f0:w.frozen? ⟨N,1,none⟩=false:=h.nt.head.free 1;have H:=Lib.hid h;clear hc h1 h2 h ek hln;go_enter Tryz.func23,Tryz.ntmps23;go_wp2_with fail;refine HW.mono ?_;rintro e w2 ⟨rfl,rfl⟩;clear HW;go_wp2_with fail;refine HD.mono ?_;rintro e w3 ⟨rfl,hO,hT⟩;have hT2:Turn (Value.slice (some ⟨g0,0,none⟩) os.length cap0).ownBlock.toList w2 w3:=hT;have hv2:(Value.slice (some ⟨g0,0,none⟩) (os.length - 1) cap0).ownBlock=(Value.slice (some ⟨g0,0,none⟩) os.length cap0).ownBlock:=rfl;have hE:=H.out.wy.erase hkx hv2 hO hT2;have hF:=H.out.fewer hT2 hE hv2 (fun p hp=>List.mem_of_mem_eraseIdx hp);have c1:=hT.cell c0 hgN;have f1:w3.frozen? ⟨N,1,none⟩=false:=(H.out.nt.head.turn hT hgN).free 1;have R:=Lib.hid hF;clear hF hO hT HD c0 hE hT2 hv2;go_wp2_with fail;go_ret;exact ⟨rfl,.slice (some ⟨g0,0,none⟩) (os.length - 1) cap0,R.out.1,R.out.2,rfl⟩
end
section
variable {w:World} {N MB n:Nat} {ms:Nat->Ma} {v:Value} {xs:List Pe} {os:List (Nat×Nat×List Nat)}
def Comes (w:World) (N MB n:Nat) (ms:Nat->Ma) (v:Value) (xs:List Pe) (os:List (Nat×Nat×List Nat)) (k:Nat) (F:List Nat) (i:Nat) (m:List Nat->Ma) (w':World):Prop:=
 ∃ F' v',Nw w' N MB n (puts ms i (m F')) v' (xs.eraseIdx k) (os.eraseIdx k)/\Turn (N::(v.ownBlock.toList++F)) w w'/\(∀ y,y∈F'->y∈F\/w.heap.size<=y)/\v'.ownBlock=v.ownBlock
theorem bl6 (h:Nw w N MB n ms v xs os) (hlen:os.length<=256) {k:Nat} (hk:k<os.length) {fr i:Nat} {bs:List Nat} (ho:os[k]=(fr,i,bs)) (hi:i<n) {d R room sp:Nat} {M:Mr} {F:List Nat} {c:Nat->Int} {z:Dz} (hm:ms i=⟨d,some ⟨R,room,sp+1000,M⟩,F,c,z⟩)
  {most:Int} {m:Nat} (hmm:min (max most 0) (bs.length:Int)=m) (h256:∀ c∈bs,c<256) (hbl:bs.length<=5000) (hdec:∀ us,T.Tm.decode (bs.take m)=some us->us.length<=1000):
  Calls prog 32 #[.pointer (some ⟨N,0,none⟩),.int .i64 k,.int .i64 most] w fun e w'=>e= .returned (.int .i64 0)/\Comes w N MB n ms v xs os k F i (fun F'=>⟨d,some ⟨R,room,sp,M.receive fr (bs.take m)⟩,F',c,z⟩) w':=by
 have hkx:k<xs.length:=by rw [h.wy.len]; exact hk
 obtain ⟨a1,a2,a3,a4,a5⟩:=h.wy.row k hkx hk;rw [ho] at a1 a2 a3 a4;simp only at a1 a2 a3 a4;obtain ⟨g,hg⟩:∃ g,xs[k].g=g:=⟨_,rfl⟩;obtain ⟨cap,hcap⟩:∃ cap,xs[k].cap=cap:=⟨_,rfl⟩;have hga:=h.apart g (.inr ⟨_,List.getElem_mem hkx,hg⟩);rw [hg] at a4 a5;rw [hcap] at a4;have HW:=ar3 h hk;obtain ⟨g0,cap0,rfl,h1,h2,hc⟩:=h.wy.own.at_ elemW.len hkx;have hsm:os.length<=maxLen:=by have:=h.wy.len; omega
 unfold maxLen at hsm;have q0:w.cell? ⟨g0,k*3,none⟩=some (.int .i64 xs[k].frm):=hc 0 (by omega);have q1:w.cell? ⟨g0,k*3+1,none⟩=some (.int .i64 xs[k].dst):=hc 1 (by omega);have q2:w.cell? ⟨g0,k*3+2,none⟩=some (.slice (some ⟨xs[k].g,0,none⟩) xs[k].n xs[k].cap):=hc 2 (by omega);rw [a1] at q0;rw [a2] at q1;rw [a3,hg,hcap] at q2;have hln:=h.wy.len;rw [hln] at h a5 ⊢;have c0:w.cell? ⟨N,1,none⟩=some (.slice (some ⟨g0,0,none⟩) os.length cap0):=h.nt.head.at_ 1;have hin:(k:Int)<(os.length:Int):=by omega
 have hii:(i:Int)<(n:Int):=by omega
 obtain ⟨L,hL⟩:∃ L,bs.length=L:=⟨_,rfl⟩;rw [hL] at q2 hmm;have hmL:m<=L:=by omega
 have hLm:(L:Int)<=5000:=by omega
 have hcapL:L<=cap/\cap<=maxLen:=by obtain ⟨cur,-,-,b3,b4,-⟩:=a4; rw [hL] at b3; exact ⟨b3,b4⟩
 unfold maxLen at hcapL;obtain ⟨hb1,PB⟩:=nw w 51 #[.int .i64 fr,.int .i64 i,.slice (some ⟨g,0,none⟩) L cap];have h1':=h.held hb1;have HL:=cr7 h1' hk;have hlt0:g0<w.heap.size:=h.wy.lt (.inl rfl);have hNlt:=h.nt.head.lt;have hFlt:∀ y,y∈F->y<w.heap.size:=fun y hy=>(h.nt.mas.ok i hi).lt (by rw [hm]; exact hy)
 have hFN:∀ y,y∈F->y≠N/\y≠MB:=fun y hy=>⟨fun e=>h.nt.nF i hi (by rw [hm,<- e]; exact hy),fun e=>h.nt.mas.mb i hi (by rw [hm,<- e]; exact hy)⟩
 have hglt:=a4.lt;have a4':=a4.held hb1;have X:=H11 h hm hb1 a4' a5 hga hlt0 hNlt hFlt hFN hglt;have Y:=H5 h256 hbl hdec hL hlen;clear h hm hb1 a4 a4' a5 hga hlt0 hNlt hFlt hFN hglt h256 hbl hdec hL hlen h1 h2 hc a1 a2 a3 hg hcap hln h1';go_enter Tryz.func32,Tryz.ntmps32;go_wp2_with fail;refine HW.mono ?_;rintro e w2 ⟨rfl,rfl⟩;clear HW;go_wp2_with fail;generalize w2.alloc _=w1 at*;refine HL.mono ?_;rintro e w3 ⟨rfl,v',hN3,hT3,hv3⟩;clear HL q0 q1 q2 c0;have hpn:w2.heap.size∉N::(Value.slice (some ⟨g0,0,none⟩) os.length cap0).ownBlock.toList:=by
  have e1:=X.out.2.2.2.2.2.2.1;have e2:=X.out.2.2.2.2.2.2.2.1;simp only [List.mem_cons,Value.ownBlock,Option.toList_some,List.not_mem_nil,or_false,not_or];omega
 have p0:=hT3.cell (PB.at_ 0:w1.cell? ⟨w2.heap.size,0,none⟩=some (.int .i64 fr)) hpn;have p1:=hT3.cell (PB.at_ 1:w1.cell? ⟨w2.heap.size,1,none⟩=some (.int .i64 i)) hpn;have p2:=hT3.cell (PB.at_ 2:w1.cell? ⟨w2.heap.size,2,none⟩=some (.slice (some ⟨g,0,none⟩) L cap)) hpn;have HR:=as3 hN3.nt hi;rw [X.out.2.1] at HR;replace HR:Calls prog 28 #[.pointer (some ⟨N,0,none⟩),.int .i64 i] w3 fun e w'=>e= .returned (.bool true)/\w'=w3:=HR
 have hOb:T.Ob w3 g cap bs:=X.out.2.2.2.1.turn hT3 (by
  have e1:=X.out.2.2.2.2.1;have e2:=X.out.2.2.2.2.2.1.1;simp only [List.mem_cons,Value.ownBlock,Option.toList_some,List.not_mem_nil,or_false,not_or];exact ⟨e2,fun e=>e1 (by simp [Value.ownBlock,e])⟩)
 have hSl:T.Sl w3.drew (some ⟨g,0,none⟩) m cap (bs.take m):=by
  have s1:=((⟨hOb.bytes Y.out.1 Y.out.2.1,by obtain ⟨cur,q1,q2,q3,q4,q5⟩:=hOb; exact q3,fun _=>⟨_,_,rfl⟩⟩:T.Sl w3 (some ⟨g,0,none⟩) bs.length cap bs).part 0 m (by rw [Y.out.2.2.2.1]; omega)).drew;simpa using s1
 have hz:=hN3.nt.mas.ok i hi;rw [X.out.2.1] at hz;have HC:=bv7 Y.out.2.2.1 ((hz.some rfl).held (Below.refl _ _).drew) hSl fr;have m0:w3.drew.cell? ⟨N,0,none⟩=some (.slice (some ⟨MB,0,none⟩) n n):=hN3.nt.head.at_ 0;have m1:w3.drew.cell? ⟨MB,i*10,none⟩=some (.pointer (some ⟨R,0,none⟩)):=hN3.nt.cell hi (j:=0) (by rw [X.out.2.1]; rfl);have p0':w3.drew.cell? ⟨w2.heap.size,0,none⟩=some (.int .i64 fr):=p0;have p1':w3.drew.cell? ⟨w2.heap.size,1,none⟩=some (.int .i64 i):=p1;have p2':w3.drew.cell? ⟨w2.heap.size,2,none⟩=some (.slice (some ⟨g,0,none⟩) L cap):=p2;have Z:=H4 hN3 hT3 hv3 hOb;clear hN3 hT3 hv3 hOb hSl hz PB hpn;go_wp2_with fail;refine HR.mono ?_;rintro e w4 ⟨rfl,rfl⟩;clear HR;go_wp2_with fail;clear p0 p1 p2;refine wp_region_held_drew (S:=fun u=>u.cell? ⟨N,0,none⟩=some (.slice (some ⟨MB,0,none⟩) n n)/\u.cell? ⟨MB,i*10,none⟩=some (.pointer (some ⟨R,0,none⟩))/\u.cell? ⟨w2.heap.size,0,none⟩=some (.int .i64 fr)/\u.cell? ⟨w2.heap.size,1,none⟩=some (.int .i64 i)/\u.cell? ⟨w2.heap.size,2,none⟩=some (.slice (some ⟨g,0,none⟩) L cap)) (by kernel_rfl) ⟨m0,m1,p0',p1',p2'⟩ (fun hHeld=>?_);refine tk 0 (.pointer (some ⟨N,0,none⟩)) rfl hHeld ?_;go_frame;refine tk 1 (.pointer (some ⟨N,0,none⟩)) rfl hHeld ?_;go_frame;refine tk 2 (.pointer (some ⟨N,0,none⟩)) rfl hHeld ?_;go_frame;refine tk 3 (.slice (some ⟨MB,0,none⟩) n n) rfl hHeld ?_;go_frame;refine tk 4 (.pointer (some ⟨w2.heap.size,1,none⟩)) rfl hHeld ?_;go_frame;refine tk 5 (.int .i64 i) rfl hHeld ?_;go_frame;refine tk 6 (.pointer (some ⟨MB,i*10,none⟩)) rfl hHeld ?_;go_frame;refine tk 7 (.pointer (some ⟨MB,i*10,none⟩)) rfl hHeld ?_;go_frame;refine tk 8 (.pointer (some ⟨R,0,none⟩)) rfl hHeld ?_;go_frame;refine tk 9 (.pointer (some ⟨w2.heap.size,0,none⟩)) rfl hHeld ?_;go_frame;refine tk 10 (.int .i64 fr) rfl hHeld ?_;go_frame;refine tk 11 (.pointer (some ⟨w2.heap.size,2,none⟩)) rfl hHeld ?_;go_frame;refine tk 12 (.slice (some ⟨g,0,none⟩) L cap) rfl hHeld ?_;go_frame;refine tk 13 (.int .i64 m) rfl hHeld ?_;go_frame;refine aa6 (i:=14) (v:= .slice (some ⟨g,0,none⟩) m cap) rfl (by kernel_rfl) (by kernel_rfl) (by kernel_rfl) (fun _ _ _ h=>h) (.inl ⟨rfl,?_⟩) hHeld ?_
 ·(intro w hSw; go_simp; intro h; exfalso; omega)
 go_frame;refine rl 15 rfl fun K hK=>?_
 go_simp;refine HC.mono ?_;rintro e w5 ⟨rfl,hG⟩;obtain ⟨F4,hz4,t4,n4⟩:=hG;have hp4:w2.heap.size∉F:=fun hx=>by have:=X.out.2.2.2.2.2.2.2.2.1 _ hx; omega
 have hNF:N∉F:=fun hx=>(X.out.2.2.2.2.2.2.2.2.2.1 _ hx).1 rfl
 have hMF:MB∉F:=fun hx=>(X.out.2.2.2.2.2.2.2.2.2.1 _ hx).2 rfl
 refine hK.out _ _ ⟨t4.cell m0 hNF,t4.cell m1 hMF,t4.cell p0' hp4,t4.cell p1' hp4,t4.cell p2' hp4⟩ (fun hHeld=>?_);clear hK K HC m0 m1 p0' p1' p2';have hN4:Nw w4.drew N MB n ms v' (xs.eraseIdx k) (os.eraseIdx k):=Z.out.1.held (Below.refl _ _).drew;obtain ⟨F',g1,g2,g3⟩:=hN4.nt.goes hi (m:=⟨d,none,[],c,z⟩) (x:=⟨R,room,sp+1000,M⟩) (F:=F) (by rw [X.out.2.1]; rfl) ⟨F4,hz4,t4,n4⟩ (Mr.receive_kin _ _ _).2;have G:=H4 g1 g2 g3 hN4;clear hz4 t4 n4 g1 g2 g3 hN4;refine wpAnyH_done (by kernel_rfl) ?_ _;try go_frame
 clear hHeld;go_wp2_with fail;go_ret;have hFi:(ms i).F=F:=by rw [X.out.2.1]
 have hsz:w2.heap.size<=w4.heap.size:=Nat.le_trans X.out.2.2.1.size Z.out.2.1.size;have hT4:Turn (N::((Value.slice (some ⟨g0,0,none⟩) os.length cap0).ownBlock.toList++F)) w2 w4.drew:=((Turn.of_below _ X.out.2.2.1).trans (Z.out.2.1.mono fun x hx=>by
  rcases List.mem_cons.1 hx with e|e
  ·exact List.mem_cons.2 (.inl e)
  ·exact List.mem_cons_of_mem _ (List.mem_append_left _ e))).drew
 refine ⟨rfl,F',v',G.out.2.2.2.one hi G.out.1 G.out.2.1 (fun x hx=> .inr (by rw [hFi]; exact hx)) (fun y hy=>by rw [hFi]; exact G.out.2.2.1 y hy),hT4.trans (G.out.2.1.mono fun x hx=>List.mem_cons_of_mem _ (List.mem_append_right _ hx)),fun y hy=>(G.out.2.2.1 y hy).imp id (Nat.le_trans hsz),Z.out.2.2.1⟩
end
section
variable {w:World} {N MB n:Nat}
theorem ch4 {P:Nat->World->Prop} {Q:Nat->World->Prop} (hn8:n<=8) (h0:P 0 w)
  (hn:w.cell? ⟨N,0,none⟩=some (.slice (some ⟨MB,0,none⟩) n n))
  (ht:∀ k wr,k<n->P k wr->Calls prog 19 #[.pointer (some ⟨N,0,none⟩),.int .i64 k] wr fun e w'=>∃ z:Int,e= .returned (.int .i64 z)/\P (k+1) w')
  (hs:∀ wr,P n wr->∃ J,Q J wr)
  (hw:∀ j wr,Q j wr->Calls prog 20 #[.pointer (some ⟨N,0,none⟩)] wr fun e w'=>e= .returned (.int .i64 (j:Int))/\w'=wr)
  (hd:∀ j wr,Q (j+1) wr->Calls prog 32 #[.pointer (some ⟨N,0,none⟩),.int .i64 0,.int .i64 1024] wr fun e w'=>∃ z:Int,e= .returned (.int .i64 z)/\Q j w'):
  Calls prog 11 #[.pointer (some ⟨N,0,none⟩)] w fun e w'=>e= .returned (.tuple #[])/\Q 0 w':=by
 have c0:=hn;have H:=H5 hn ht hs hw hd;have HP:=Lib.hid h0;clear hn ht hs hw hd h0;go_enter Tryz.func11,Tryz.ntmps11;go_wp2_with fail;clear c0;go_loopw [8] (fun ix wr=>∃ k:Nat,ix= .int .i64 k/\k<=n/\Hid (P k wr)) (fun ix _=>n - (intOf ix).toNat)
 case atStart=>exact ⟨0,rfl,by omega,HP⟩
 case round=>
  clear HP;obtain ⟨k,rfl,hk,hB⟩:=hrel;by_cases hkn:k<n
  ·have hin:(k:Int)<(n:Int):=by omega
   have HT:=H.out.2.1 k wr hkn hB.out;clear hB;go_wp2_with fail;refine HT.mono ?_;rintro e w2 ⟨z,rfl,hP⟩;have R:=Lib.hid hP;clear hP HT;go_wp2_with fail;go_roundw
   case rel=>exact ⟨k+1,by go_num,by omega,R⟩
   case measure=>simp [intOf]; omega
  ·obtain rfl:k=n:=by omega
   obtain ⟨J,hQ0⟩:=H.out.2.2.1 wr hB.out;have hQ:=Lib.hid hQ0;clear hQ0;clear hB;go_wp2_with fail;go_loopg [] J (fun g wr2=>Hid (Q g wr2))
   case atStart=>exact hQ
   case round=>
    clear hQ;have HWt:=H.out.2.2.2.1 gk _ hrel.out;by_cases hg:gk=0
    ·subst hg
     go_wp2_with fail;refine HWt.mono ?_;rintro e w5 ⟨rfl,rfl⟩;go_wp2_with fail;refine bodyPost_end (v:= .tuple #[]) (results_none rfl _ _ _) rfl ⟨rfl,hrel.out⟩
    ·obtain ⟨g,rfl⟩:∃ g,gk=g+1:=⟨gk - 1,by omega⟩
     have HD:=H.out.2.2.2.2 g _ hrel.out;have d0:(0:Int)<((g+1:Nat):Int):=by omega
     go_wp2_with fail;refine HWt.mono ?_;rintro e w5 ⟨rfl,rfl⟩;clear hrel;go_wp2_with fail;refine HD.mono ?_;rintro e w6 ⟨z,rfl,hQ6⟩;have R:=Lib.hid hQ6;clear hQ6 HD HWt;go_wp2_with fail;go_roundg g
     case measure=>omega
     case rel=>exact R
end
section
variable {w:World} {N MB n:Nat} {ms:Nat->Ma} {v:Value}
theorem cr8 (h:Nt w N MB n ms v) {a b:Nat} (ha:a<n) (hb:b<n) (hab:a≠b) {cost:Int} (h0:0<=cost) (h1:cost<=1000):
  Calls prog 8 #[.pointer (some ⟨N,0,none⟩),.int .i64 a,.int .i64 b,.int .i64 cost] w fun e w'=>∃ F G,e= .returned (.int .i64 0)/\Nt w' N MB n (puts (puts ms a ((ms a).linked b cost F)) b ((ms b).linked a cost G)) v/\Turn (MB::((ms a).F++(ms b).F)) w w'/\(∀ y,y∈F->y∈(ms a).F\/w.heap.size<=y)/\(∀ y,y∈G->y∈(ms b).F\/w.heap.size<=y):=by
 have H1:=ag8 h ha;have H2:=ag8 h hb;have h8:=h.n8;have c0:w.cell? ⟨N,0,none⟩=some (.slice (some ⟨MB,0,none⟩) n n):=h.head.at_ 0;have hin:(a:Int)<(n:Int):=by omega
 have hin2:(b:Int)<(n:Int):=by omega
 have d1:decide (cost<0)=false:=decide_eq_false (by omega);have d2:decide ((1000:Int)<cost)=false:=decide_eq_false (by omega);have d3:((a:Int)==(b:Int))=false:=beq_eq_false_iff_ne.2 (by omega);have HA:=bg2 h ha (k:=b) (by omega) h0 h1;have H:=H4 h hab h0 h1;clear h hab h0 h1;go_enter Tryz.func8,Tryz.ntmps8;go_wp2_with fail;refine H1.mono ?_;rintro e w2 ⟨rfl,rfl⟩;go_wp2_with fail;refine H2.mono ?_;rintro e w2 ⟨rfl,rfl⟩;go_wp2_with fail;refine HA.mono ?_;rintro e w1 ⟨F,rfl,hN,ht,hF⟩;have c1:w1.cell? ⟨N,0,none⟩=some (.slice (some ⟨MB,0,none⟩) n n):=hN.head.at_ 0;have HB:=bg2 hN hb (k:=a) (by omega) H.out.2.2.1 H.out.2.2.2;rw [aa2 (Ne.symm H.out.2.1)] at HB;have X:=Lib.hid (And.intro ht hF);clear H1 H2 HA hN ht hF c0;go_wp2_with fail;refine HB.mono ?_;rintro e w2 ⟨G,rfl,hN,ht,hG⟩;have Y:=H3 hN ht hG;clear HB hN ht hG c1;go_wp2_with fail;go_ret;have hsz:=X.out.1.size;refine ⟨F,G,rfl,Y.out.1,(X.out.1.mono fun x hx=>?_).trans (Y.out.2.1.mono fun x hx=>?_),X.out.2,fun y hy=>(Y.out.2.2 y hy).imp id (Nat.le_trans hsz)⟩
 ·rcases List.mem_cons.1 hx with e|e
  ·exact List.mem_cons.2 (.inl e)
  ·exact List.mem_cons_of_mem _ (List.mem_append_left _ e)
 ·rcases List.mem_cons.1 hx with e|e
  ·exact List.mem_cons.2 (.inl e)
  ·exact List.mem_cons_of_mem _ (List.mem_append_right _ e)
end
end
end Go.Proofs.YtlklghedfaeepaaGreat
