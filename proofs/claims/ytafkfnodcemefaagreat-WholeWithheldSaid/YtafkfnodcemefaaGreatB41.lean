import Derived.Test.YtafkfnodcemefaaGreatB40
set_option maxHeartbeats 8000000
set_option maxRecDepth 100000
namespace Go.Proofs.YtafkfnodcemefaaGreat
open _root_.Go.Proofs.Tryz (prog)
section
open Go.RowKit Go.Maps Rm Fm Sb
attribute [local go_sem] Oper.semAt_some
section
variable {v:Value} {os:List (Nat×Nat×List Nat)} {xs:List Pe} {W W':World}
end
structure NwG (w:World) (N MB n:Nat) (ms:Nat->MaG) (v:Value) (xs:List Pe) (os:List (Nat×Nat×List Nat)):Prop where
 nt:NtG w N MB n ms v
 wy:Wy v os xs w
 apart:∀ x,inW v xs x->x≠N/\x≠MB/\∀ i,i<n->x∉(ms i).F
section
variable {w w':World} {N MB n:Nat} {ms:Nat->MaG} {v:Value} {xs:List Pe} {os:List (Nat×Nat×List Nat)}
theorem NwG.held (h:NwG w N MB n ms v xs os) (hb:Below w.heap.size w w'):NwG w' N MB n ms v xs os:=⟨h.nt.held hb,h.wy.held hb,h.apart⟩
theorem NwG.one (h:NwG w N MB n ms v xs os) {i:Nat} (hi:i<n) {m:MaG} {L:List Nat} (hN:NtG w' N MB n (putg ms i m) v) (t:Turn L w w') (hL:∀ x,x∈L->x=MB\/x∈(ms i).F) (hF:∀ y,y∈m.F->y∈(ms i).F\/w.heap.size<=y):NwG w' N MB n (putg ms i m) v xs os:=by
 refine ⟨hN,h.wy.turn t fun x hx hm=>?_,fun x hx=>⟨(h.apart x hx).1,(h.apart x hx).2.1,fun k hk hm=>?_⟩⟩
 ·rcases hL x hm with e|e
  ·exact (h.apart x hx).2.1 e
  ·exact (h.apart x hx).2.2 i hi e
 ·by_cases e:k=i
  ·subst e
   rw [ag0] at hm;rcases hF x hm with e2|e2
   ·exact (h.apart x hx).2.2 k hk e2
   ·have:=h.wy.lt hx; omega
  ·rw [ac5 e] at hm
   exact (h.apart x hx).2.2 k hk hm
theorem az5 (h:NwG w N MB n ms v xs os):Q 9 #[K N] w (Rw w (I os.length)):=by
 obtain ⟨p,cap,rfl,hc⟩:=h.wy.own.form;have c0:w.cell? (Y N 1)=some (.slice p xs.length cap):=h.nt.head.at_ 1;rw [h.wy.len] at c0;have H:=Z h;clear h hc;go_enter Tryz.func9,Tryz.ntmps9;go_wp2_with fail;go_ret;exact ⟨rfl,rfl⟩
theorem NwG.listed (h:NwG w N MB n ms v xs os) (hT:Turn v.ownBlock.toList w w') {v':Value} {os':List (Nat×Nat×List Nat)} {p:Pe} (hW:Wy v' os' (xs++[p]) w') (hv:v'.ownBlock=v.ownBlock\/∃ b,v'.ownBlock=some b/\w.heap.size<=b) (hp:p.g≠N/\p.g≠MB/\∀ i,i<n->p.g∉(ms i).F):
  NwG (w'.setCell (Y N 1) v') N MB n ms v' (xs++[p]) os'/\Turn (N::v.ownBlock.toList) w (w'.setCell (Y N 1) v'):=by
 have hNl:=h.nt.head.lt;have hMl:=h.nt.mas.lt;have t2:Turn [N] w' (w'.setCell (Y N 1) v'):=Turn.setCell w' sn _;have away:∀ x,x∈v.ownBlock.toList->x≠N/\x≠MB/\∀ i,i<n->x∉(ms i).F:=fun x hx=>h.apart x (.inl (by simpa using hx))
 have hN1:=(h.nt.head.turn hT fun hm=>(away _ hm).1 rfl).store 1 v';have hap:∀ x,inW v' (xs++[p]) x->x≠N/\x≠MB/\∀ i,i<n->x∉(ms i).F:=fun x hx=>by
  rcases hx with e|⟨q,hq,e⟩
  ·rcases hv with e2|⟨b,e2,hb⟩
   ·exact h.apart x (.inl (by rw [<- e2]; exact e))
   ·rw [e2] at e
    cases e;exact ⟨by omega,G,fun i hi hm=>by have:=(h.nt.mas.ok i hi).lt hm; omega⟩
  ·rcases List.mem_append.1 hq with e2|e2
   ·exact h.apart x (.inr ⟨q,e2,e⟩)
   ·simp only [List.mem_cons,List.not_mem_nil,or_false] at e2
    subst e2; subst e;exact hp
 refine ⟨⟨⟨hN1,(h.nt.mas.turn hT (fun hm=>(away _ hm).2.1 rfl) (fun i hi x hx hm=>(away x hm).2.2 i hi hx)).turn t2 (by simp; exact fun e=>h.nt.ne e.symm) (fun i hi x hx=>by simp; exact fun e=>h.nt.nF i hi (e ▸ hx)),h.nt.ne,h.nt.nF,h.nt.n1,h.nt.n8⟩,hW.turn t2 fun x hx=>by simp; exact (hap x hx).1,hap⟩,(hT.mono fun x hx=>List.mem_cons_of_mem _ hx).trans (t2.mono fun x hx=>by simp at hx; simp [hx])⟩
end
section
variable {w:World} {N MB n:Nat} {ms:Nat->MaG} {v:Value} {xs:List Pe} {os:List (Nat×Nat×List Nat)}
structure Seng (w:World) (N MB n:Nat) (ms:Nat->MaG) (v:Value) (xs:List Pe) (os:List (Nat×Nat×List Nat)) (p:Pe) (bs:List Nat) (w':World):Prop where
 ex:∃ v' xs',NwG w' N MB n ms v' xs' (if os.length<256 then os++[(p.frm,p.dst,bs)] else os)/\Turn (N::v.ownBlock.toList) w w'/\(v'.ownBlock=v.ownBlock\/∃ b,v'.ownBlock=some b/\w.heap.size<=b)/\(∀ x,x∈xs'->x∈xs\/x=p)
theorem dl8 (h:NwG w N MB n ms v xs os) {a b g cap:Nat} {bs:List Nat} (ho:T.Ob w g cap bs) (hv:v.ownBlock≠some g) (hg:g≠N/\g≠MB/\∀ i,i<n->g∉(ms i).F) (hbig:os.length<=256):
  Q 53 #[Pt N,.agg #[I a,I b,Lt g bs.length cap]] w fun e w'=>e= .returned (.tuple #[])/\Seng w N MB n ms v xs os ⟨a,b,g,bs.length,cap⟩ bs w':=by
 obtain ⟨p,vc,rfl,hvc⟩:=h.wy.own.form;have hln:=h.wy.len;rw [hln] at h hv ⊢;obtain ⟨hb1,PB⟩:=nw w 53 #[I a,I b,Lt g bs.length cap];have hs1:=aa1 w (.cells #[I a,I b,Lt g bs.length cap] 53);have h1:=h.held hb1;have ho1:=ho.held hb1;have HW:=az5 h1;have hlt:∀ x,(Value.slice p os.length vc).ownBlock=some x->x<w.heap.size:=fun x hx=>h.wy.lt (.inl hx)
 have X:=H8 h h1 ho1 hv hg hb1 hs1 hlt;have c2:(w.alloc (.cells #[I a,I b,Lt g bs.length cap] 53)).cell? (Y w.heap.size 0)=some (I a):=PB.at_ 0;have c3:(w.alloc (.cells #[I a,I b,Lt g bs.length cap] 53)).cell? (Y w.heap.size 1)=some (I b):=PB.at_ 1;have c4:(w.alloc (.cells #[I a,I b,Lt g bs.length cap] 53)).cell? (Y w.heap.size 2)=Xp g bs.length cap:=PB.at_ 2;clear h h1 ho ho1 hv hg hb1 hs1 hlt PB hvc hln;go_enter Tryz.func53,Tryz.ntmps53;go_wp2_with fail;generalize w.alloc _=w1 at*;refine HW.mono ?_;rintro e w2 ⟨rfl,rfl⟩;clear HW;by_cases hl:os.length<256
 ·have d1:=dT ((os.length:Int)<256)
  have hi:(os.length:Int)<256:=G
  have h2:=X.out.2.1.held (Below.refl _ _).drew;have ho2:=X.out.2.2.1.held (Below.refl _ _).drew;obtain ⟨g',cap',w7,hrun,hW,hT,hat⟩:=h2.wy.push (a:=a) (b:=b) X.out.2.2.2.1 ho2 G;have hba:=aa0 w2.drew (.cells #[I a,I b,Lt g bs.length cap] 53);have q0:w2.drew.cell? (Y N 1)=some (.slice p os.length vc):=h2.nt.head.at_ 1;have q1:w2.drew.cell? (Y w.heap.size 0)=some (I a):=c2;have q2:w2.drew.cell? (Y w.heap.size 1)=some (I b):=c3;have q3:w2.drew.cell? (Y w.heap.size 2)=Xp g bs.length cap:=c4;have a0:=held hba q0;have b0:(w2.alloc (.cells #[I a,I b,Lt g bs.length cap] 53)).cell? (Y N 1)=some (.slice p os.length vc):=a0;have a1:=held hba q1;have a2:=held hba q2;have a3:=held hba q3;have hNv:N∉(Value.slice p os.length vc).ownBlock.toList:=fun hm=>(h2.apart N (.inl (by simpa using hm))).1 rfl
  have hPv:w.heap.size∉(Value.slice p os.length vc).ownBlock.toList:=fun hm=>by have:=X.out.2.2.2.2.2.2.2 _ (by simpa using hm); omega
  have e0:=hT.cell q0 hNv;have e1:=hT.cell q1 hPv;have e2:=hT.cell q2 hPv;have e3:=hT.cell q3 hPv;have f0:w7.frozen? (Y N 1)=false:=(h2.nt.head.turn hT hNv).free 1;have hL:=h2.listed hT hW (hat.elim (fun e=> .inl e.symm) (fun e=> .inr ⟨g',rfl,G⟩)) X.out.2.2.2.2.1;have hPN:w.heap.size≠N:=fun e=>by have:=X.out.1.nt.head.lt; omega
  have t9:Turn [N] w7 (w7.setCell (Y N 1) (Lt g' (os.length+1) cap')):=Turn.setCell w7 sn _;have s1:=t9.cell e1 (by simp; exact hPN);have s2:=t9.cell e2 (by simp; exact hPN);have s3:=t9.cell e3 (by simp; exact hPN);have Z:=Zq (show Seng w N MB n ms (.slice p os.length vc) xs os ⟨a,b,g,bs.length,cap⟩ bs (w7.setCell (Y N 1) (Lt g' (os.length+1) cap')) from ⟨Lt g' (os.length+1) cap',xs++[⟨a,b,g,bs.length,cap⟩],by rw [if_pos hl]; exact hL.1,(Turn.of_below _ (X.out.2.2.2.2.2.1.trans ((Below.refl _ _).drew.mono X.out.2.2.2.2.2.1.size))).trans hL.2,hat.elim (fun e=> .inl e.symm) (fun e=> .inr ⟨g',rfl,by have h1:w2.drew.heap.size<g':=e; have h2:w2.drew.heap.size=w2.heap.size:=rfl; have:=X.out.2.2.2.2.2.2.1; omega⟩),fun x hx=>by simpa using hx⟩);clear hL hat hW hT h2 ho2 hba hNv hPv c2 c3 c4 t9 hPN;go_wp2_with fail;refine wp_region_held_drew (S:=fun u=>(u.cell? (Y w.heap.size 0)=some (I a)/\u.cell? (Y w.heap.size 1)=some (I b)/\u.cell? (Y w.heap.size 2)=Xp g bs.length cap)) kr ⟨q1,q2,q3⟩ (fun hHeld=>?_);refine tk 0 (Pt N) rfl hHeld ?_;go_frame;refine tk 1 (Pt N) rfl hHeld ?_;go_frame;refine tk 2 (Pt N) rfl hHeld ?_;go_frame;refine tk 3 (Qt N 1) rfl hHeld ?_;go_frame;refine tk 5 (.agg #[I a,I b,Lt g bs.length cap]) rfl hHeld ?_;go_frame;refine wpAnyH_ready (rs:=[4,6]) kr sn (AllReadyH.cons (aq4 rfl) (fun K hK=>?_) (AllReadyH.cons (aq4 rfl) (fun K hK=>?_) AllReadyH.nil))
  ·go_simp
   refine hK.out _ _ ⟨q1,q2,q3⟩ (fun hHeld=>?_);clear hK K;try go_frame
   refine rl 6 rfl fun K hK=>?_
   go_simp;refine hK.out _ _ ⟨a1,a2,a3⟩ (fun hHeld=>?_);clear hK K;try go_frame
   refine rl 7 rfl fun K hK=>?_
   refine ac6 rfl _ _ _ rfl _ _ _ _ _ ?_ ?_ ?_ hrun ?_<;>first|rfl|skip
   refine hK.out _ _ ⟨e1,e2,e3⟩ (fun hHeld=>?_);clear hK K a0 b0 a1 a2 a3 hrun q0 q1 q2 q3;try go_frame
   refine tk 8 (Pt N) rfl hHeld ?_;go_frame;refine tk 9 (Qt N 1) rfl hHeld ?_;go_frame;refine rl 10 rfl fun K hK=>?_
   go_simp;refine hK.out _ _ ⟨s1,s2,s3⟩ (fun hHeld=>?_);clear hK K;refine wpAnyH_done kr ?_ _;try go_frame
   clear hHeld;go_wp2_with fail;go_end0;exact ⟨rfl,Z.out⟩
  ·go_simp
   refine hK.out _ _ ⟨a1,a2,a3⟩ (fun hHeld=>?_);clear hK K;try go_frame
   refine rl 4 rfl fun K hK=>?_
   go_simp;refine hK.out _ _ ⟨a1,a2,a3⟩ (fun hHeld=>?_);clear hK K;try go_frame
   refine rl 7 rfl fun K hK=>?_
   refine ac6 rfl _ _ _ rfl _ _ _ _ _ ?_ ?_ ?_ hrun ?_<;>first|rfl|skip
   refine hK.out _ _ ⟨e1,e2,e3⟩ (fun hHeld=>?_);clear hK K a0 b0 a1 a2 a3 hrun q0 q1 q2 q3;try go_frame
   refine tk 8 (Pt N) rfl hHeld ?_;go_frame;refine tk 9 (Qt N 1) rfl hHeld ?_;go_frame;refine rl 10 rfl fun K hK=>?_
   go_simp;refine hK.out _ _ ⟨s1,s2,s3⟩ (fun hHeld=>?_);clear hK K;refine wpAnyH_done kr ?_ _;try go_frame
   clear hHeld;go_wp2_with fail;go_end0;exact ⟨rfl,Z.out⟩
 ·have d1:=df ((os.length:Int)<256)
  clear c2 c3 c4;go_wp2_with fail;go_end0;refine ⟨rfl,_,_,by rw [if_neg hl]; exact X.out.2.1,.of_below _ X.out.2.2.2.2.2.1,.inl rfl,fun x hx=> .inl hx⟩
end
theorem Mr.tellSG_kin (l:List En) (M:Mr) (J:Jm):M.Kin (M.tellSG J l).2.2:=⟨(Mr.tellSG_same l M J).1,(Mr.tellSG_same l M J).2.2.2.2.2.2⟩
theorem Mr.tickG_kin (M:Mr) (J:Jm):M.Kin (M.tickG J).2.2:=Mr.Kin.trans (M2:=(M.tickG J).2.2) ⟨(stepG_same M J).1,(stepG_same M J).2.2.2.2⟩ (Mr.tellSG_kin _ _ _)
structure Tickig (w w1:World) (N MB n:Nat) (ms:Nat->MaG) (i:Nat) (v:Value) (F:List Nat) (os:List (Nat×Nat×List Nat)) (B:Nat) (vt:Value) (ds:List (Nat×List Nat)) (xt:List Oe) (k:Nat) (wr:World):Prop where
 ex:∃ v' xs',NwG wr N MB n ms v' xs' (sendAll i os (ds.take k))/\(∀ b,v'.ownBlock=some b->v.ownBlock=some b\/w1.heap.size<=b)
 ot:Ot B vt ds xt wr
 sz:w1.heap.size<=wr.heap.size
 old:w.heap.size<=B
 tn:Turn (N::(v.ownBlock.toList++F)) w wr
 hv:∀ b,v.ownBlock=some b->b<w.heap.size
 Nl:N<w.heap.size/\MB<w.heap.size
 F:∀ j,j<n->∀ x,x∈(ms j).F->x<B
 top:w.heap.size<=w1.heap.size/\∀ q (h:q<xt.length),xt[q].g<w1.heap.size
 vt:∀ b,vt.ownBlock=some b->b<w1.heap.size
 len:os.length<=256
section
variable {w w1:World} {N MB n:Nat} {ms:Nat->MaG} {i:Nat} {v:Value} {F:List Nat} {os:List (Nat×Nat×List Nat)} {B:Nat} {vt:Value} {ds:List (Nat×List Nat)} {xt:List Oe} {k:Nat} {wr:World}
theorem Tickig.held (h:Tickig w w1 N MB n ms i v F os B vt ds xt k wr) {w2:World} (hb:Below wr.heap.size wr w2):Tickig w w1 N MB n ms i v F os B vt ds xt k w2:=by
 obtain ⟨v',xs',h1,h2⟩:=h.ex;exact ⟨⟨v',xs',h1.held hb,h2⟩,h.ot.held hb,Nat.le_trans h.sz hb.size,h.old,h.tn.and_below hb,h.hv,h.Nl,h.F,h.top,h.vt,h.len⟩
theorem Tickig.send (h:Tickig w w1 N MB n ms i v F os B vt ds xt k wr) (hk:k<ds.length) (hk2:k<xt.length):
  Q 53 #[K N,.agg #[I i,I xt[k].dst,.slice (some (Y (xt[k].g) 0)) xt[k].n xt[k].cap]] wr fun e w'=>e= .returned (.tuple #[])/\Tickig w w1 N MB n ms i v F os B vt ds xt (k+1) w':=by
 obtain ⟨v',xs',h1,h2⟩:=h.ex;obtain ⟨a1,a2,a3,a4,a5⟩:=h.ot.row k hk2 hk;have hN:=h.Nl;have ht:=h.top;have hold:=h.old;rw [a1,a2];have hv':v'.ownBlock≠some xt[k].g:=fun e=>by
  rcases h2 _ e with e2|e2
  ·have:=h.hv _ e2; omega
  ·have:=ht.2 k hk2; omega
 refine (dl8 h1 a3 hv' ⟨by omega,G,fun j hj hm=>by have:=h.F j hj _ hm; omega⟩ (am0 _ _ h.len)).mono ?_;rintro e w2 ⟨rfl,⟨v2,xs2,g1,g2,g3,g4⟩⟩;have hsz:=g2.size;refine ⟨rfl,⟨⟨v2,xs2,by rw [bf0 _ hk]; exact g1,fun b e=>?_⟩,h.ot.turn g2 fun x hx hx2 hm=>?_,Nat.le_trans h.sz hsz,hold,h.tn.beyond g2 fun y hy=>?_,h.hv,hN,h.F,ht,h.vt,h.len⟩⟩
 ·rcases g3 with e2|⟨b',e2,hb'⟩
  ·exact h2 b (by rw [<- e2]; exact e)
  ·rw [e2] at e; cases e
   exact .inr (Nat.le_trans h.sz hb')
 ·have hxl:x<w1.heap.size:=by
   rcases hx2 with e|⟨q,hq,rfl⟩
   ·exact h.vt x e
   ·exact ht.2 q hq
  rcases List.mem_cons.1 hm with e|e
  ·omega
  ·rcases h2 x (by simpa using e) with e2|e2
   ·have:=h.hv x e2; omega
   ·omega
 ·rcases List.mem_cons.1 hy with e|e
  ·exact .inl (by simp [e])
  ·rcases h2 y (by simpa using e) with e2|e2
   ·exact .inl (by simp [e2])
   ·exact .inr (by have:=h.top; omega)
theorem Tickig.start {d R sp:Nat} {J:Jm} {M:Mr} {c:Nat->Int} {z:Dm} {J0:Jm} {sp0:Nat} {M0:Mr} {xs:List Pe} (h:NwG w N MB n ms v xs os) (hi:i<n) (hm:ms i=⟨d,some ⟨R,J0,sp0,M0⟩,F,c,z⟩) (hlen:os.length<=256)
  {F':List Nat} (hz:Gz F' w1 R J sp M) (t:Turn F w w1) (hn:∀ y,y∈F'->(y∈F\/w.heap.size<=y)/\y<B) (hB:w.heap.size<=B) (hO:Ot B vt ds xt w1) (hMd:M.d=M0.d):
  Tickig w w1 N MB n (putg ms i ⟨d,some ⟨R,J,sp,M⟩,F',c,z⟩) i v F os B vt ds xt 0 w1:=by
 obtain ⟨F2,hg⟩:∃ F2,NtG w1 N MB n (putg ms i ⟨d,some ⟨R,J,sp,M⟩,F2,c,z⟩) v/\F2=F':=by
  refine ⟨F',?_,rfl⟩;refine h.nt.one hi (by rw [hm]; exact t) (.of_some rfl hz (hMd.trans (by have:=(h.nt.mas.ok i hi).disk (x:=⟨R,J0,sp0,M0⟩) (by rw [hm]); rw [this,hm]))) (fun y hy=>by rw [hm]; exact (hn y hy).1) (by rw [hm]; rfl)
 have hg1:=hg.1;rw [hg.2] at hg1;have hN:=h.nt.head.lt;have hM:=h.nt.mas.lt;refine ⟨⟨v,xs,by rw [List.take_zero]; exact h.one hi hg1 t (fun x hx=> .inr (by rw [hm]; exact hx)) (fun y hy=>by rw [hm]; exact (hn y hy).1),fun b e=> .inl e⟩,hO,Nat.le_refl _,hB,t.mono fun x hx=>by simp [hx],fun b e=>h.wy.lt (.inl e),⟨hN,hM⟩,fun j hj x hx=>?_,?_,fun b e=>(hO.own.lt e).1,hlen⟩
 ·by_cases e:j=i
  ·subst e
   rw [ag0] at hx;exact (hn x hx).2
  ·rw [ac5 e] at hx
   have:=(h.nt.mas.ok j hj).lt hx;omega
 ·refine ⟨?_,fun q hq=>?_⟩
  ·exact t.size
  ·exact (hO.row q hq (by rw [<- hO.len]; exact hq)).2.2.1.lt
end
section
variable {w:World} {N MB n:Nat} {ms:Nat->MaG} {v:Value} {xs:List Pe} {os:List (Nat×Nat×List Nat)}
theorem dz0 (h:NwG w N MB n ms v xs os) {i:Nat} (hi:i<n) (hlen:os.length<=256) {d R sp:Nat} {J:Jm} {M:Mr} {F:List Nat} {c:Nat->Int} {z:Dm} (hm:ms i=⟨d,some ⟨R,J,sp,M⟩,F,c,z⟩)
  (HT:Q 52 #[K R] w fun e w'=>∃ v,e= .returned v/\Tkg F w R J sp M v w'):
  Q 27 #[K N,I i] w fun e w'=>e= .returned (I 0)/\∃ F' v' xs',NwG w' N MB n (putg ms i ⟨d,some ⟨R,(M.tickG J).2.1,sp,(M.tickG J).2.2⟩,F',c,z⟩) v' xs' (sendAll i os (M.tickG J).1)/\
   Turn (N::(v.ownBlock.toList++F)) w w'/\(∀ y,y∈F'->y∈F\/w.heap.size<=y)/\(∀ b,v'.ownBlock=some b->v.ownBlock=some b\/w.heap.size<=b):=by
 have H2:=au6 h.nt hi;rw [hm] at H2;replace H2:Q 44 #[K N,I i] w (Rw w (O true)):=H2
 have c0:w.cell? (Aa N 0)=Xp MB n n:=h.nt.head.at_ 0;have c1:w.cell? (Aa MB (i*10))=Np R:=h.nt.cell hi (j:=0) (by rw [hm]; rfl);have hin:(i:Int)<(n:Int):=G
 have X:=H3 h hm hlen;clear h hm hlen;go_enter Tryz.func27,Tryz.ntmps27;go_wp2_with fail;refine H2.mono ?_;rintro e w2 ⟨rfl,rfl⟩;clear H2;go_wp2_with fail;refine HT.mono ?_;rintro e w1 ⟨vt,rfl,⟨F',B,xt,hz,ht,hn,hB,hO⟩⟩;have hS:=Tickig.start X.out.1 hi X.out.2.1 X.out.2.2 hz ht hn hB hO (Mr.tickG_kin _ _).2;obtain ⟨tp,vc,rfl,hvc⟩:=hO.own.form;have hln:=hO.len;generalize hds:(M.tickG J).1=ds at*;generalize hJ3:(M.tickG J).2.1=J3 at*;generalize hM3:(M.tickG J).2.2=M3 at*;rw [hln] at hS;have Y:=H8 hS hJ3 trivial hn hln hM3 ht.size hds;rw [hln];clear hS hn hz ht hB hO HT c0 c1 hvc hM3 hln hds hJ3;go_wp2_with fail;go_loopw [21] (fun ix wr=>∃ k:Nat,ix= I k/\k<=ds.length/\Hid (Tickig w2 w1 N MB n (putg ms i ⟨d,some ⟨R,J3,sp,M3⟩,F',c,z⟩) i v F os B (.slice tp ds.length vc) ds xt k wr)) (fun ix _=>ds.length - (intOf ix).toNat)
 case atStart=>exact ⟨0,rfl,G,Zq Y.out.1⟩
 case round=>
  obtain ⟨k,rfl,hk,hB⟩:=hrel;by_cases hkn:k<ds.length
  ·have hin2:(k:Int)<(ds.length:Int):=G
   have hkx:k<xt.length:=by rw [Y.out.2.2.2.2.1]; exact hkn
   obtain ⟨g0,cap0,e0,h1,h2,hc⟩:=hB.out.ot.own.at_ elemO.len hkx;injection e0 with e1 e2 e3;subst e1;subst e3;clear e2;have q0:wr.cell? (Aa g0 (k*2))=some (I xt[k].dst):=hc 0 G;have q1:wr.cell? (Aa g0 (k*2+1))=some (.slice (some (Aa (xt[k].g) 0)) xt[k].n xt[k].cap):=hc 1 G;have hba:=aa0 wr (.cells #[I xt[k].dst,.slice (some (Aa (xt[k].g) 0)) xt[k].n xt[k].cap] 121);have HS:=(hB.out.held hba).send hkn hkx;have hsm:ds.length<=maxLen:=by have:=Y.out.2.2.2.2.1; omega
   unfold maxLen at hsm;clear hc h1 h2 hba;go_wp2_with fail;refine HS.mono ?_;rintro e w5 ⟨rfl,hT5⟩;have R:=Zq hT5;clear hT5 HS q0 q1 hB;go_wp2_with fail;go_roundw
   case rel=>exact ⟨k+1,by go_num,G,R⟩
   case measure=>simp [intOf]; omega
  ·obtain rfl:k=ds.length:=G
   have hE:=hB.out.ex;rw [List.take_length] at hE;obtain ⟨v',xs',g1,g2⟩:=hE;have Z:=H3 g1 g2 hB.out.tn;clear hB g1 g2;go_wp2_with fail;go_ret;have hsz:=Y.out.2.2.2.2.2.2.1;exact ⟨rfl,F',v',xs',by rw [Y.out.2.1,Y.out.2.2.2.2.2.1,Y.out.2.2.2.2.2.2.2]; exact Z.out.1,Z.out.2.2,fun y hy=>(Y.out.2.2.2.1 y hy).1,fun b e=>(Z.out.2.1 b e).imp id (Nat.le_trans hsz)⟩
end
section
variable {w:World} {N MB n:Nat} {ms:Nat->MaG} {v:Value} {xs:List Pe} {os:List (Nat×Nat×List Nat)}
theorem ct7 (h:NwG w N MB n ms v xs os) (z:Int):Q 42 #[K N,I z] w (Rw w (O (decide (0<=z/\z<(os.length:Int))))):=by
 have HS:=az5 h;clear h;by_cases h0:0<=z
 ·have d0:decide (0<=z)=true:=decide_eq_true h0
  have E:=Z (show decide (0<=z/\z<(os.length:Int))=decide (z<(os.length:Int)) by simp [h0]);obtain ⟨q,hq⟩:=ey (decide (z<(os.length:Int)));rw [hq] at E;go_enter Tryz.func42,Tryz.ntmps42;go_wp2_with fail;refine HS.mono ?_;rintro e w2 ⟨rfl,rfl⟩;go_wp2_with fail;go_ret;exact ⟨aa4 E.out.symm,rfl⟩
 ·have d0:decide (0<=z)=false:=decide_eq_false h0
  have E:=Z (show decide (0<=z/\z<(os.length:Int))=false by simp [h0]);go_enter Tryz.func42,Tryz.ntmps42;go_wp2;go_ret;exact ⟨rfl,rfl⟩
theorem as9 (h:NwG w N MB n ms v xs os) {k:Nat} (hk:k<os.length):Q 42 #[K N,I k] w (Rw w (O true)):=
 (ct7 h k).mono fun _ _ ⟨he,hw⟩=>⟨by rw [he,decide_eq_true G],hw⟩
theorem av1 (h:NwG w N MB n ms v xs os) {z:Int} (hz:¬ (0<=z/\z<(os.length:Int))):Q 42 #[K N,I z] w (Rw w (O false)):=
 (ct7 h z).mono fun _ _ ⟨he,hw⟩=>⟨by rw [he,decide_eq_false hz],hw⟩
theorem bt1 (h:NwG w N MB n ms v xs os) {z:Int} (hz:¬ (0<=z/\z<(os.length:Int))):Q 67 #[K N,I z] w (Rw w (I 2)):=by
 have HS:=av1 h hz;clear h hz;go_enter Tryz.func67,Tryz.ntmps67;go_wp2_with fail;refine HS.mono ?_;rintro e w2 ⟨rfl,rfl⟩;go_wp2_with fail;go_ret;exact ⟨rfl,rfl⟩
theorem dw9 (h:NwG w N MB n ms v xs os) (hlen:os.length<=256) {k:Nat} (hk:k<os.length):Q 67 #[K N,I k] w fun e w'=>e= .returned (I 0)/\
  ∃ v' xs',NwG w' N MB n ms v' xs' (sent1 os[k].1 os os[k].2)/\Turn (N::v.ownBlock.toList) w w'/\(∀ b,v'.ownBlock=some b->v.ownBlock=some b\/w.heap.size<=b):=by
 have hkx:k<xs.length:=by rw [h.wy.len]; exact hk
 obtain ⟨a1,a2,a3,a4,a5⟩:=h.wy.row k hkx hk;have HW:=as9 h hk;have HS:=dl8 h (a:=os[k].1) (b:=os[k].2.1) a4 a5 (h.apart _ (.inr ⟨_,List.getElem_mem hkx,rfl⟩)) hlen;have hin:(k:Int)<(os.length:Int):=G
 obtain ⟨g0,cap0,rfl,h1,h2,hc⟩:=h.wy.own.at_ elemW.len hkx;have hsm:os.length<=maxLen:=by have:=h.wy.len; omega
 unfold maxLen at hsm;have q0:w.cell? (Y g0 (k*3))=some (I xs[k].frm):=hc 0 G;have q1:w.cell? (Y g0 (k*3+1))=some (I xs[k].dst):=hc 1 G;have q2:w.cell? (Y g0 (k*3+2))=some (.slice (some (Y (xs[k].g) 0)) xs[k].n xs[k].cap):=hc 2 G;have c0:w.cell? (Y N 1)=Xp g0 xs.length cap0:=h.nt.head.at_ 1;rw [h.wy.len] at c0;rw [a1] at q0;rw [a2] at q1;rw [a3] at q2;clear hc h1 h2 h a1 a2 a3 a4 a5;go_enter Tryz.func67,Tryz.ntmps67;go_wp2_with fail;refine HW.mono ?_;rintro e w2 ⟨rfl,rfl⟩;clear HW;go_wp2_with fail;refine HS.mono ?_;rintro e w3 ⟨rfl,⟨v',xs',g1,g2,g3,g4⟩⟩;have R:=H3 g1 g2 g3;clear g1 g2 g3 g4 HS q0 q1 q2 c0;go_wp2_with fail;go_ret;exact ⟨rfl,v',xs',R.out.1,R.out.2.1,fun b e=>by
  rcases R.out.2.2 with e2|⟨b',e2,hb⟩
  ·exact .inl (by rw [<- e2]; exact e)
  ·rw [e2] at e; cases e; exact .inr hb⟩
end
section
variable {w w':World} {N MB n:Nat} {ms:Nat->MaG} {v:Value} {xs:List Pe} {os:List (Nat×Nat×List Nat)}
theorem NwG.fewer (h:NwG w N MB n ms v xs os) (hT:Turn v.ownBlock.toList w w') {v':Value} {os':List (Nat×Nat×List Nat)} {xs':List Pe} (hW:Wy v' os' xs' w') (hv:v'.ownBlock=v.ownBlock) (hx:∀ p,p∈xs'->p∈xs):
  NwG (w'.setCell (Y N 1) v') N MB n ms v' xs' os'/\Turn (N::v.ownBlock.toList) w (w'.setCell (Y N 1) v'):=by
 have t2:Turn [N] w' (w'.setCell (Y N 1) v'):=Turn.setCell w' sn _;have away:∀ x,x∈v.ownBlock.toList->x≠N/\x≠MB/\∀ i,i<n->x∉(ms i).F:=fun x hx=>h.apart x (.inl (by simpa using hx))
 have hN1:=(h.nt.head.turn hT fun hm=>(away _ hm).1 rfl).store 1 v';have hap:∀ x,inW v' xs' x->x≠N/\x≠MB/\∀ i,i<n->x∉(ms i).F:=fun x hx1=>by
  rcases hx1 with e|⟨q,hq,e⟩
  ·exact h.apart x (.inl (by rw [<- hv]; exact e))
  ·exact h.apart x (.inr ⟨q,hx q hq,e⟩)
 exact ⟨⟨⟨hN1,(h.nt.mas.turn hT (fun hm=>(away _ hm).2.1 rfl) (fun i hi x hx hm=>(away x hm).2.2 i hi hx)).turn t2 (by simp; exact fun e=>h.nt.ne e.symm) (fun i hi x hx=>by simp; exact fun e=>h.nt.nF i hi (e ▸ hx)),h.nt.ne,h.nt.nF,h.nt.n1,h.nt.n8⟩,hW.turn t2 fun x hx=>by simp; exact (hap x hx).1,hap⟩,(hT.mono fun x hx=>List.mem_cons_of_mem _ hx).trans (t2.mono fun x hx=>by simp at hx; simp [hx])⟩
theorem ci1 (h:NwG w N MB n ms v xs os) {z:Int} (hz:¬ (0<=z/\z<(os.length:Int))):Q 17 #[K N,I z] w (Rw w (I 2)):=by
 have HS:=av1 h hz;clear h hz;go_enter Tryz.func17,Tryz.ntmps17;go_wp2_with fail;refine HS.mono ?_;rintro e w2 ⟨rfl,rfl⟩;go_wp2_with fail;go_ret;exact ⟨rfl,rfl⟩
theorem ci7 (h:NwG w N MB n ms v xs os) {k:Nat} (hk:k<os.length):Q 17 #[K N,I k] w fun e w'=>e= .returned (I 0)/\
  ∃ v',NwG w' N MB n ms v' (xs.eraseIdx k) (os.eraseIdx k)/\Turn (N::v.ownBlock.toList) w w'/\v'.ownBlock=v.ownBlock:=by
 have hkx:k<xs.length:=by rw [h.wy.len]; exact hk
 have HW:=as9 h hk;obtain ⟨g0,cap0,rfl,h1,h2,hc⟩:=h.wy.own.at_ elemW.len hkx;have hsm:os.length<=maxLen:=by have:=h.wy.len; omega
 unfold maxLen at hsm;have HD:=df4 h.wy.own hkx;have hln:=h.wy.len;have ek:((k+1:Nat):Int)=(k:Int)+1:=G
 rw [ek,hln] at HD;rw [hln] at h ⊢;have c0:w.cell? (Y N 1)=Xp g0 os.length cap0:=h.nt.head.at_ 1;have e1:wrap64 ((k:Int)+1)=(k:Int)+1:=IntWalk.wrap64_in _ G;have hgN:N∉[g0]:=by simp; exact fun e=>(h.apart g0 (.inl rfl)).1 e.symm
 have f0:w.frozen? (Y N 1)=false:=h.nt.head.free 1;have H:=Z h;clear hc h1 h2 h ek hln;go_enter Tryz.func17,Tryz.ntmps17;go_wp2_with fail;refine HW.mono ?_;rintro e w2 ⟨rfl,rfl⟩;clear HW;go_wp2_with fail;refine HD.mono ?_;rintro e w3 ⟨rfl,hO,hT⟩;have hT2:Turn (Value.slice (some (Y g0 0)) os.length cap0).ownBlock.toList w2 w3:=hT;have hv2:(Value.slice (some (Y g0 0)) (os.length - 1) cap0).ownBlock=(Value.slice (some (Y g0 0)) os.length cap0).ownBlock:=rfl;have hE:=H.out.wy.erase hkx hv2 hO hT2;have hF:=H.out.fewer hT2 hE hv2 (fun p hp=>List.mem_of_mem_eraseIdx hp);have c1:=hT.cell c0 hgN;have f1:w3.frozen? (Y N 1)=false:=(H.out.nt.head.turn hT hgN).free 1;have R:=Z hF;clear hF hO hT HD c0 hE hT2 hv2;go_wp2_with fail;go_ret;exact ⟨rfl,Lt g0 (os.length - 1) cap0,R.out.1,R.out.2,rfl⟩
end
section
variable {w:World} {N MB n:Nat} {ms:Nat->MaG} {v:Value} {xs:List Pe} {os:List (Nat×Nat×List Nat)}
theorem bg9 (h:NwG w N MB n ms v xs os) {z:Int} (hz:¬ (0<=z/\z<(os.length:Int))) (most:Int):Q 16 #[K N,I z,I most] w (Rw w (I 2)):=by
 have HS:=av1 h hz;clear h hz;go_enter Tryz.func16,Tryz.ntmps16;go_wp2_with fail;refine HS.mono ?_;rintro e w2 ⟨rfl,rfl⟩;go_wp2_with fail;go_ret;exact ⟨rfl,rfl⟩
def Comeg (w:World) (N MB n:Nat) (ms:Nat->MaG) (v:Value) (xs:List Pe) (os:List (Nat×Nat×List Nat)) (k:Nat) (F:List Nat) (i:Nat) (m:List Nat->MaG) (w':World):Prop:=
 ∃ F' v',NwG w' N MB n (putg ms i (m F')) v' (xs.eraseIdx k) (os.eraseIdx k)/\Turn (N::(v.ownBlock.toList++F)) w w'/\(∀ y,y∈F'->y∈F\/w.heap.size<=y)/\v'.ownBlock=v.ownBlock
theorem ng_deliverR (h:NwG w N MB n ms v xs os) (hlen:os.length<=256) {k:Nat} (hk:k<os.length) {fr i:Nat} {bs:List Nat} (ho:os[k]=(fr,i,bs)) (hi:i<n) {d R sp:Nat} {J:Jm} {M:Mr} {F:List Nat} {c:Nat->Int} {z:Dm} (hm:ms i=⟨d,some ⟨R,J,sp,M⟩,F,c,z⟩)
  {most:Int} {m:Nat} (hmm:min (max most 0) (bs.length:Int)=m) (h256:∀ c∈bs,c<256) (hbl:bs.length<=5000) {Pst:World->World->Prop} (hP:∀ u w',Pst u w'->Turn F u w')
  (HRec:∀ (u:World) (A:Option Addr) (cap:Nat),Gz F u R J sp M->T.Sl u A m cap (bs.take m)->Q 14 #[Pt R,I fr,.slice A m cap] u fun e w'=>e= .returned (.tuple #[])/\Pst u w'):
  Q 16 #[Pt N,I k,I most] w fun e w'=>e= .returned (I 0)/\∃ v' u,NwG u N MB n ms v' (xs.eraseIdx k) (os.eraseIdx k)/\Turn (N::v.ownBlock.toList) w u/\v'.ownBlock=v.ownBlock/\Pst u w':=by
 have hkx:k<xs.length:=by rw [h.wy.len]; exact hk
 obtain ⟨a1,a2,a3,a4,a5⟩:=h.wy.row k hkx hk;rw [ho] at a1 a2 a3 a4;simp only at a1 a2 a3 a4;obtain ⟨g,hg⟩:=ey (xs[k].g);obtain ⟨cap,hcap⟩:=ey (xs[k].cap);have hga:=h.apart g (.inr ⟨_,List.getElem_mem hkx,hg⟩);rw [hg] at a4 a5;rw [hcap] at a4;have HW:=as9 h hk;obtain ⟨g0,cap0,rfl,h1,h2,hc⟩:=h.wy.own.at_ elemW.len hkx;have hsm:os.length<=maxLen:=by have:=h.wy.len; omega
 unfold maxLen at hsm;have q0:w.cell? (Aa g0 (k*3))=some (I xs[k].frm):=hc 0 og;have q1:w.cell? (Aa g0 (k*3+1))=some (I xs[k].dst):=hc 1 og;have q2:w.cell? (Aa g0 (k*3+2))=some (.slice (some (Aa (xs[k].g) 0)) xs[k].n xs[k].cap):=hc 2 og;rw [a1] at q0;rw [a2] at q1;rw [a3,hg,hcap] at q2;have hln:=h.wy.len;rw [hln] at h a5 ⊢;have c0:w.cell? (Aa N 1)=Xp g0 os.length cap0:=h.nt.head.at_ 1;have hin:(k:Int)<(os.length:Int):=og;have hii:(i:Int)<(n:Int):=og;obtain ⟨L,hL⟩:=ey bs.length;rw [hL] at q2 hmm;have hmL:m<=L:=og;have hLm:(L:Int)<=5000:=og;have hcapL:L<=cap/\cap<=maxLen:=by obtain ⟨cur,-,-,b3,b4,-⟩:=a4; rw [hL] at b3; exact ⟨b3,b4⟩
 unfold maxLen at hcapL;obtain ⟨hb1,PB⟩:=nw w 53 #[I fr,I i,Lt g L cap];have h1':=h.held hb1;have HL:=ci7 h1' hk;have hlt0:g0<w.heap.size:=h.wy.lt (.inl rfl);have hNlt:=h.nt.head.lt;have hFlt:∀ y,y∈F->y<w.heap.size:=fun y hy=>(h.nt.mas.ok i hi).lt (by rw [hm]; exact hy)
 have hFN:∀ y,y∈F->y≠N/\y≠MB:=fun y hy=>⟨fun e=>h.nt.nF i hi (by rw [hm,<- e]; exact hy),fun e=>h.nt.mas.mb i hi (by rw [hm,<- e]; exact hy)⟩
 have hglt:=a4.lt;have a4':=a4.held hb1;have X:=H11 h hm hb1 a4' a5 hga hlt0 hNlt hFlt hFN hglt;have Y:=H4 h256 hbl hL hlen;clear h hm hb1 a4 a4' a5 hga hlt0 hNlt hFlt hFN hglt h256 hbl hL hlen h1 h2 hc a1 a2 a3 hg hcap hln h1';go_enter Tryz.func16,Tryz.ntmps16;go_wp2_with fail;refine HW.mono ?_;rintro e w2 ⟨rfl,rfl⟩;clear HW;go_wp2_with fail;generalize w2.alloc _=w1 at*;refine HL.mono ?_;rintro e w3 ⟨rfl,v',hN3,hT3,hv3⟩;clear HL q0 q1 q2 c0;have hpn:w2.heap.size∉N::(Value.slice (some (Aa g0 0)) os.length cap0).ownBlock.toList:=by
  have e1:=X.out.2.2.2.2.2.2.1;have e2:=X.out.2.2.2.2.2.2.2.1;simp only [List.mem_cons,Value.ownBlock,Option.toList_some,List.not_mem_nil,or_false,not_or];omega
 have p0:=hT3.cell (PB.at_ 0:w1.cell? (Aa w2.heap.size 0)=some (I fr)) hpn;have p1:=hT3.cell (PB.at_ 1:w1.cell? (Aa w2.heap.size 1)=some (I i)) hpn;have p2:=hT3.cell (PB.at_ 2:w1.cell? (Aa w2.heap.size 2)=Xp g L cap) hpn;have HR:=au6 hN3.nt hi;rw [X.out.2.1] at HR;replace HR:Q 44 #[Pt N,I i] w3 (Rw w3 (O true)):=HR
 have hOb:T.Ob w3 g cap bs:=X.out.2.2.2.1.turn hT3 (by
  have e1:=X.out.2.2.2.2.1;have e2:=X.out.2.2.2.2.2.1.1;simp only [List.mem_cons,Value.ownBlock,Option.toList_some,List.not_mem_nil,or_false,not_or];exact ⟨e2,fun e=>e1 (by simp [Value.ownBlock,e])⟩)
 have hSl:T.Sl w3.drew (some (Aa g 0)) m cap (bs.take m):=by
  have s1:=((⟨hOb.bytes Y.out.1 Y.out.2.1,by obtain ⟨cur,q1,q2,q3,q4,q5⟩:=hOb; exact q3,fun _=>⟨_,_,rfl⟩⟩:T.Sl w3 (some (Aa g 0)) bs.length cap bs).part 0 m (by rw [Y.out.2.2.1]; omega)).drew;simpa using s1
 have hz:=hN3.nt.mas.ok i hi;rw [X.out.2.1] at hz;have HC:=HRec _ _ _ ((hz.some rfl).held (Below.refl _ _).drew) hSl;have m0:w3.drew.cell? (Aa N 0)=Xp MB n n:=hN3.nt.head.at_ 0;have m1:w3.drew.cell? (Aa MB (i*10))=Np R:=hN3.nt.cell hi (j:=0) (by rw [X.out.2.1]; rfl);have p0':w3.drew.cell? (Aa w2.heap.size 0)=some (I fr):=p0;have p1':w3.drew.cell? (Aa w2.heap.size 1)=some (I i):=p1;have p2':w3.drew.cell? (Aa w2.heap.size 2)=Xp g L cap:=p2;have Z:=H4 hN3 hT3 hv3 hOb;clear hN3 hT3 hv3 hOb hSl hz PB hpn;go_wp2_with fail;refine HR.mono ?_;rintro e w4 ⟨rfl,rfl⟩;clear HR;go_wp2_with fail;clear p0 p1 p2;refine wp_region_held_drew (S:=fun u=>u.cell? (Aa N 0)=Xp MB n n/\u.cell? (Aa MB (i*10))=Np R/\u.cell? (Aa w2.heap.size 0)=some (I fr)/\u.cell? (Aa w2.heap.size 1)=some (I i)/\u.cell? (Aa w2.heap.size 2)=Xp g L cap) kr ⟨m0,m1,p0',p1',p2'⟩ (fun hHeld=>?_);refine tk 0 (Pt N) rfl hHeld ?_;go_frame;refine tk 1 (Pt N) rfl hHeld ?_;go_frame;refine tk 2 (Pt N) rfl hHeld ?_;go_frame;refine tk 3 (Lt MB n n) rfl hHeld ?_;go_frame;refine tk 4 (Qt w2.heap.size 1) rfl hHeld ?_;go_frame;refine tk 5 (I i) rfl hHeld ?_;go_frame;refine tk 6 (Qt MB (i*10)) rfl hHeld ?_;go_frame;refine tk 7 (Qt MB (i*10)) rfl hHeld ?_;go_frame;refine tk 8 (Pt R) rfl hHeld ?_;go_frame;refine tk 9 (Pt w2.heap.size) rfl hHeld ?_;go_frame;refine tk 10 (I fr) rfl hHeld ?_;go_frame;refine tk 11 (Qt w2.heap.size 2) rfl hHeld ?_;go_frame;refine tk 12 (Lt g L cap) rfl hHeld ?_;go_frame;refine tk 13 (I m) rfl hHeld ?_;go_frame;refine aa6 (i:=14) (v:= Lt g m cap) rfl kr kr kr (fun _ _ _ h=>h) (.inl ⟨rfl,?_⟩) hHeld ?_
 ·(intro w hSw; go_simp; intro h; exfalso; omega)
 go_frame;refine rl 15 rfl fun K hK=>?_
 go_simp;refine HC.mono ?_;rintro e w5 ⟨rfl,hG⟩;have t4:=hP _ _ hG;have hp4:w2.heap.size∉F:=fun hx=>by have:=X.out.2.2.2.2.2.2.2.2.1 _ hx; omega
 have hNF:N∉F:=fun hx=>(X.out.2.2.2.2.2.2.2.2.2.1 _ hx).1 rfl
 have hMF:MB∉F:=fun hx=>(X.out.2.2.2.2.2.2.2.2.2.1 _ hx).2 rfl
 refine hK.out _ _ ⟨t4.cell m0 hNF,t4.cell m1 hMF,t4.cell p0' hp4,t4.cell p1' hp4,t4.cell p2' hp4⟩ (fun hHeld=>?_);clear hK K HC m0 m1 p0' p1' p2';have hN4:NwG w4.drew N MB n ms v' (xs.eraseIdx k) (os.eraseIdx k):=Z.out.1.held (Below.refl _ _).drew;have G:=H2 hN4 hG;clear t4 hN4 hG;refine wpAnyH_done kr ?_ _;try go_frame
 clear hHeld;go_wp2_with fail;go_ret;exact ⟨rfl,v',_,G.out.1,((Turn.of_below _ X.out.2.2.1).trans Z.out.2.1).drew,Z.out.2.2.1,G.out.2⟩
theorem dd8 (h:NwG w N MB n ms v xs os) (hlen:os.length<=256) {k:Nat} (hk:k<os.length) {fr i:Nat} {bs:List Nat} (ho:os[k]=(fr,i,bs)) (hi:i<n) {d R sp:Nat} {J:Jm} {M:Mr} {F:List Nat} {c:Nat->Int} {z:Dm} (hm:ms i=⟨d,some ⟨R,J,sp+1100,M⟩,F,c,z⟩)
  {most:Int} {m:Nat} (hmm:min (max most 0) (bs.length:Int)=m) (h256:∀ c∈bs,c<256) (hbl:bs.length<=5000) (hdec:∀ us,T.Tm.decode (bs.take m)=some us->us.length<=1100):
  Q 16 #[K N,I k,I most] w fun e w'=>e= .returned (I 0)/\Comeg w N MB n ms v xs os k F i (fun F'=>⟨d,some ⟨R,J,sp,M.receive fr (bs.take m)⟩,F',c,z⟩) w':=by
 refine (ng_deliverR h hlen hk ho hi hm hmm h256 hbl (Pst:=fun u w'=>Goeg F u R J sp (M.receive fr (bs.take m)) w') (fun u w' hg=>by obtain ⟨_,_,t,_⟩:=hg; exact t) (fun u A cap hz hs=>de3 hdec hz hs fr)).mono ?_;rintro e w' ⟨rfl,v',u,hN,hT,hv,hG⟩;have hFi:(ms i).F=F:=by rw [hm]
 obtain ⟨F',g1,g2,g3⟩:=hN.nt.goes hi (m:=⟨d,none,[],c,z⟩) (x:=⟨R,J,sp+1100,M⟩) (F:=F) (by rw [hm]; rfl) hG (Mr.receive_kin _ _ _).2;exact ⟨rfl,F',v',hN.one hi g1 g2 (fun x hx=> .inr (by rw [hFi]; exact hx)) (fun y hy=>by rw [hFi]; exact g3 y hy),(hT.mono fun x hx=>by
  rcases List.mem_cons.1 hx with e|e
  ·exact List.mem_cons.2 (.inl e)
  ·exact List.mem_cons_of_mem _ (List.mem_append_left _ e)).trans (g2.mono fun x hx=>List.mem_cons_of_mem _ (List.mem_append_right _ hx)),fun y hy=>(g3 y hy).imp id (Nat.le_trans hT.size),hv⟩
theorem av5 (h:NwG w N MB n ms v xs os) {k:Nat} (hk:k<os.length) {fr i:Nat} {bs:List Nat} (ho:os[k]=(fr,i,bs)) (hi:i<n->(ms i).r=none) (most:Int):
  Q 16 #[K N,I k,I most] w fun e w'=>e= .returned (I 0)/\∃ v',NwG w' N MB n ms v' (xs.eraseIdx k) (os.eraseIdx k)/\Turn (N::v.ownBlock.toList) w w'/\v'.ownBlock=v.ownBlock:=by
 have hkx:k<xs.length:=by rw [h.wy.len]; exact hk
 obtain ⟨a1,a2,a3,a4,a5⟩:=h.wy.row k hkx hk;rw [ho] at a1 a2 a3;simp only at a1 a2 a3;have HW:=as9 h hk;obtain ⟨g0,cap0,rfl,h1,h2,hc⟩:=h.wy.own.at_ elemW.len hkx;have hsm:os.length<=maxLen:=by have:=h.wy.len; omega
 unfold maxLen at hsm;have q0:w.cell? (Y g0 (k*3))=some (I xs[k].frm):=hc 0 G;have q1:w.cell? (Y g0 (k*3+1))=some (I xs[k].dst):=hc 1 G;have q2:w.cell? (Y g0 (k*3+2))=some (.slice (some (Y (xs[k].g) 0)) xs[k].n xs[k].cap):=hc 2 G;rw [a1] at q0;rw [a2] at q1;obtain ⟨g,hg⟩:=ey (xs[k].g);obtain ⟨cap,hcap⟩:=ey (xs[k].cap);obtain ⟨L,hL⟩:=ey (xs[k].n);rw [hL,hg,hcap] at q2;have hln:=h.wy.len;rw [hln] at h ⊢;have c0:w.cell? (Y N 1)=Xp g0 os.length cap0:=h.nt.head.at_ 1;have hin:(k:Int)<(os.length:Int):=G
 obtain ⟨hb1,PB⟩:=nw w 53 #[I fr,I i,Lt g L cap];have h1':=h.held hb1;have HL:=ci7 h1' hk;have hlt0:g0<w.heap.size:=h.wy.lt (.inl rfl);have hNlt:=h.nt.head.lt;have X:=H4 hi hb1 hlt0 hNlt;clear h hb1 hlt0 hNlt h1 h2 hc a1 a2 a3 a4 a5 hg hcap hln h1' hi hL;go_enter Tryz.func16,Tryz.ntmps16;go_wp2_with fail;refine HW.mono ?_;rintro e w2 ⟨rfl,rfl⟩;clear HW;go_wp2_with fail;generalize w2.alloc _=w1 at*;refine HL.mono ?_;rintro e w3 ⟨rfl,v',hN3,hT3,hv3⟩;clear HL q0 q1 q2 c0;have hpn:w2.heap.size∉N::(Value.slice (some (Y g0 0)) os.length cap0).ownBlock.toList:=by
  have e1:=X.out.2.2.1;have e2:=X.out.2.2.2;simp only [List.mem_cons,Value.ownBlock,Option.toList_some,List.not_mem_nil,or_false,not_or];omega
 have p1:=hT3.cell (PB.at_ 1:w1.cell? (Y w2.heap.size 1)=some (I i)) hpn;have HR:Q 44 #[K N,I i] w3 (Rw w3 (O false)):=by
  by_cases hin2:i<n
  ·have:=au6 hN3.nt hin2
   rw [X.out.1 hin2] at this;exact this
  ·exact aw3 hN3.nt G
 have Z:=H3 hN3 ((Turn.of_below _ X.out.2.1).trans hT3) hv3;clear hN3 hT3 hv3 PB hpn;go_wp2_with fail;refine HR.mono ?_;rintro e w4 ⟨rfl,rfl⟩;clear HR;go_wp2_with fail;go_ret;exact ⟨rfl,v',Z.out.1,Z.out.2.1,Z.out.2.2⟩
end
end
end Go.Proofs.YtafkfnodcemefaaGreat
