import Derived.Test.YtafkfnodcemefaaGreatB34
set_option maxHeartbeats 8000000
set_option maxRecDepth 100000
namespace Go.Proofs.YtafkfnodcemefaaGreat
open _root_.Go.Proofs.Tryz (prog)
section
open Go.RowKit Go.Maps Rm
def Jm.jr (J:Jm) (d:Nat):Jr:=⟨d,J.first,J.size,J.gen,J.len,J.laid⟩
structure Gz (F:List Nat) (w:World) (R:Nat) (J:Jm) (sp:Nat) (M:Mr):Prop where
 ex:∃ o fl tb N n S Mp,F=[M.d,S,Mp]++rp R o fl tb/\Rr w R o fl tb (J.jr M.d) N n M/\Dq w M.d S Mp J.D/\(∀ x,x∈rp R o fl tb->x∉[M.d,S,Mp])/\J.Ok/\N<=J.len/\GoodSm M.sm/\n+sp<=100000000
def Goeg (F:List Nat) (w:World) (R:Nat) (J:Jm) (sp:Nat) (M':Mr) (w':World):Prop:=∃ F',Gz F' w' R J sp M'/\Turn F w w'/\∀ y,y∈F'->y∈F\/w.heap.size<=y
section
variable {F:List Nat} {w w':World} {R sp:Nat} {J:Jm} {M M':Mr}
theorem Gz.held (h:Gz F w R J sp M) (hb:Below w.heap.size w w'):Gz F w' R J sp M:=by
 obtain ⟨o,fl,tb,N,n,S,Mp,hF,hR,hD,hr⟩:=h.ex;exact ⟨o,fl,tb,N,n,S,Mp,hF,hR.held hb,hD.held hb,hr⟩
theorem Gz.turn {L:List Nat} (h:Gz F w R J sp M) (t:Turn L w w') (hL:∀ x,x∈F->x∉L):Gz F w' R J sp M:=by
 obtain ⟨o,fl,tb,N,n,S,Mp,hF,hR,hD,hr⟩:=h.ex;subst hF;exact ⟨o,fl,tb,N,n,S,Mp,rfl,hR.turn t (fun x hx=>hL x (List.mem_append_right _ hx)),hD.turn t (hL _ sn) (hL _ sn) (hL _ sn),hr⟩
theorem Gz.lt (h:Gz F w R J sp M) {x:Nat} (hx:x∈F):x<w.heap.size:=by
 obtain ⟨o,fl,tb,N,n,S,Mp,hF,hR,hD,hr⟩:=h.ex;subst hF;rcases List.mem_append.1 hx with h1|h1
 ·simp only [List.mem_cons,List.not_mem_nil,or_false] at h1
  rcases h1 with rfl|rfl|rfl
  ·exact (Dk.head hD).lt
  ·exact Dk.ltS hD
  ·exact (Dk.map hD).lt
 ·exact hR.lt h1
theorem Gz.fits (h:Gz F w R J sp M):M.Fits:=by
 obtain ⟨o,fl,tb,N,n,S,Mp,hF,hR,hD,hr⟩:=h.ex;exact hR.fits
theorem Gz.rr (h:Gz F w R J sp M):∃ o fl tb j N n,Rr w R o fl tb j N n M:=by
 obtain ⟨o,fl,tb,N,n,S,Mp,hF,hR,hD,hr⟩:=h.ex;exact ⟨o,fl,tb,J.jr M.d,N,n,hR⟩
theorem Goeg.stay (h:Gz F w R J sp M) (hb:Below w.heap.size w w'):Goeg F w R J sp M w':=⟨F,h.held hb,.of_below _ hb,fun _ h=> .inl h⟩
theorem Goeg.trans {F1:List Nat} {w1 w2:World} {r1:Jm} {s1:Nat} (t1:Turn F w w1) (h1:∀ y,y∈F1->y∈F\/w.heap.size<=y) (k:Goeg F1 w1 R r1 s1 M' w2):Goeg F w R r1 s1 M' w2:=by
 obtain ⟨F2,h2,t2,n2⟩:=k;refine ⟨F2,h2,t1.beyond t2 h1,fun y hy=>?_⟩;rcases n2 y hy with h|h
 ·exact h1 y h
 ·exact .inr (Nat.le_trans t1.size h)
theorem Goeg.before {w1 w2:World} {r1:Jm} {s1:Nat} (hb:Below w.heap.size w w1) (k:Goeg F w1 R r1 s1 M' w2):Goeg F w R r1 s1 M' w2:=Goeg.trans (.of_below _ hb) (fun _ h=> .inl h) k
theorem Gz.of_head (h:Gz F w R J sp M) {M':Mr} (hb:∀ o fl j tb,Blk 116 w R (M.C o fl j tb)->Blk 116 w' R (M'.C o fl j tb)) (hsm:M'.sm=M.sm) (hf:M'.f=M.f) (T:Turn [R] w w') (hF:M'.Fits) (_hid:M'.id=M.id:=by rfl) (hdd:M'.d=M.d:=by rfl):Goeg F w R J sp M' w':=by
 obtain ⟨o,fl,tb,N,n,S,Mp,hF',hR,hD,hd,hr⟩:=h.ex;rw [<- hsm] at hr;rw [<- hdd] at hF' hD hd hR;subst hF';have hRm:R∈rp R o fl tb:=ae6.2 (.inl rfl);have hRd:=hd R hRm;simp only [List.mem_cons,List.not_mem_nil,or_false,not_or] at hRd;refine ⟨_,⟨o,fl,tb,N,n,S,Mp,rfl,?_,hD.turn T (by simp; exact fun e=>hRd.1 e.symm) (by simp; exact fun e=>hRd.2.1 e.symm) (by simp; exact fun e=>hRd.2.2 e.symm),hd,hr⟩,T.mono (fun i hi=>by simp at hi; subst hi; exact List.mem_append_right _ hRm),fun _ h=> .inl h⟩;obtain ⟨cn,cm,hnm,hS⟩:=hR.nt;have ho:Mo pkE w' o cn (fun x=>(M.sm.own x).map ownV):=hS.owns.of_block fun b e=>T.block b (hS.owns.lt e) (by simp; exact Ne.symm (hR.ne (.inl e)))
 have hl:Mo kyE w' fl cm (fun x=>(M.sm.floor x).map dV):=hS.floors.of_block fun b e=>T.block b (hS.floors.lt e) (by simp; exact Ne.symm (hR.ne (.inr (.inl e))))
 refine ⟨⟨cn,cm,hnm,⟨hb _ _ _ _ hR.head,by rw [hsm]; exact ho,by rw [hsm]; exact hl,hS.apart,by rw [hsm]; exact hS.small,by rw [hsm]; exact hS.lease_lt,hS.counts⟩⟩,?_,hR.apart,hF⟩;rw [hf];exact hR.mp.of_block fun b e=>T.block b (hR.mp.lt e) (by simp; exact Ne.symm (hR.ne (.inr (.inr e))))
end
theorem Jm.more_sm (J:Jm) (T:Sm) (r:Rc):(J.more T r).2.2=T\/(J.more T r).2.2=app T r:=by
 unfold Jm.more;dsimp only;split
 ·exact .inl rfl
 ·exact .inr rfl
theorem Jm.append_sm (J:Jm) (id:Nat) (T:Sm) (r:Rc):(J.append id T r).2.2=T\/(J.append id T r).2.2=app T r:=by
 by_cases hf:J.size<=1+J.len
 ·by_cases h2:(J.compact id T.recs).1=0
  ·rw [Jm.append_on hf rfl h2]; exact Jm.more_sm _ _ _
  ·rw [Jm.append_no hf rfl h2]; exact .inl rfl
 ·rw [Jm.append_room hf]; exact Jm.more_sm _ _ _
theorem bg8 {F:List Nat} {w:World} {R sp:Nat} {J:Jm} {M:Mr} (h:Gz F w R J sp M) {k:Int} {g l rid a:Nat} {rn:Int} {on:Bool} {s m:Nat} (hf:(⟨k,g,l,rid,a,rn,on,s,m⟩:Rc).Fits) (hr:right ⟨k,g,l,rid,a,rn,on,s,m⟩=true) (hk:k≠1) {X:Int×Jm×Sm} (hX:J.append M.id M.sm ⟨k,g,l,rid,a,rn,on,s,m⟩=X):
  Q 82 #[K R,.agg #[I k,U g,U l,U rid,U a,I rn,O on,U s,V m]] w fun e w'=>e= .returned (I X.1)/\Goeg F w R X.2.1 sp { M with sm:=X.2.2 } w':=by
 obtain ⟨o,fl,tb,N,n,S,Mp,hF',hR,hD,hd,hJ,hNl,hgood,h5⟩:=h.ex;subst hF';have hX1:X.2.1.Ok:=by rw [<- hX]; exact Jm.append_ok hJ _ _ _
 have hX2:GoodSm X.2.2:=by
  rcases Jm.append_sm J M.id M.sm ⟨k,g,l,rid,a,rn,on,s,m⟩ with e|e
  ·rw [<- hX,e]; exact hgood
  ·rw [<- hX,e]; exact hgood.app (by rw [ai8]; exact hr) hf
 have hN:Notes 116 (lgX M.d J.first J.size J.gen J.len J.laid++rtX tb M.c M.now M.seq M.since) w R o fl M.id N M.sm:=hR.nt;refine (du7 hN hNl hD (fun x hx=>hd x (List.mem_append_left _ hx)) hgood hJ hR.fits.id.1 hR.fits.id.2 hf hr hk hX).mono ?_;rintro e w' ⟨rfl,hD',o',fl',N',hN',hNl',hT,hnew⟩;refine ⟨rfl,[M.d,S,Mp]++rp R o' fl' tb,⟨o',fl',tb,N',n,S,Mp,rfl,⟨hN',?_,?_,?_⟩,hD',?_,hX1,hNl',hX2,h5⟩,?_,?_⟩
 ·refine hR.mp.of_block fun b e=>hT.block b (hR.mp.lt e) fun hm=>?_
  rcases List.mem_append.1 hm with hm|hm
  ·exact hd b (ae6.2 (.inr (.inr (.inr e)))) hm
  ·rcases ab6.1 hm with e2|e2|e2
   ·exact hR.ne (.inr (.inr e)) e2.symm
   ·exact (hR.apart b e).1 e2
   ·exact (hR.apart b e).2 e2
 ·intro b e
  have key:∀ {x:Option Nat},(x=o'\/x=fl')->x≠some b:=fun {x} hx e2=>by
   have hm:b∈fp R o' fl':=ab6.2 (by rcases hx with rfl|rfl; exact .inr (.inl e2); exact .inr (.inr e2));rcases hnew b hm with h|h
   ·rcases ab6.1 h with e3|e3|e3
    ·exact hR.ne (.inr (.inr e)) e3.symm
    ·exact (hR.apart b e).1 e3
    ·exact (hR.apart b e).2 e3
   ·have:=hR.mp.lt e; omega
  exact ⟨key (.inl rfl),key (.inr rfl)⟩
 ·exact ⟨hR.fits.id,hR.fits.f,hR.fits.c,hR.fits.now,hR.fits.seq,hR.fits.since⟩
 ·intro x hx hm
  rcases List.mem_append.1 hx with hx|hx
  ·rcases hnew x hx with h'|h'
   ·exact hd x (List.mem_append_left _ h') hm
   ·have:x<w.heap.size:=h.lt (List.mem_append_left _ hm)
    omega
  ·exact hd x (List.mem_append_right _ hx) hm
 ·exact hT.mono fun i hi=>by
   rcases List.mem_append.1 hi with h'|h'
   ·exact List.mem_append_left _ h'
   ·exact List.mem_append_right _ (List.mem_append_left _ h')
 ·intro y hy
  rcases List.mem_append.1 hy with h'|h'
  ·exact .inl (List.mem_append_left _ h')
  ·rcases List.mem_append.1 h' with h'|h'
   ·exact (hnew y h').imp (fun h=>List.mem_append_right _ (List.mem_append_left _ h)) id
   ·exact .inl (List.mem_append_right _ (List.mem_append_right _ h'))
section
variable {F:List Nat} {w w':World} {R sp:Nat} {J:Jm} {M:Mr}
theorem Gz.tab (h:Gz F w R J sp M):∃ (o fl tb:Option Nat) (j:Jr) (n:Nat),Tb (M.C o fl j) w R tb n M.f/\n+sp<=100000000/\∀ (w':World) (tb':Option Nat) (n':Nat) (f':Ways) (sp':Nat),Tb (M.C o fl j) w' R tb' n' f'->Turn (R::tb.toList) w w'->(∀ b,tb'=some b->tb=some b\/w.heap.size<=b)->(∀ k r,f' k=some r->r.Fits)->n'+sp'<=100000000->Goeg F w R J sp' { M with f:=f' } w':=by
 obtain ⟨o,fl,tb,N,n,S,Mp,hF',hR,hD,hd,hJ,hNl,hgood,h5⟩:=h.ex;refine ⟨o,fl,tb,J.jr M.d,n,hR.tab,h5,fun w' tb' n' f' sp' ht T hnew hF hn=>?_⟩;subst hF';have hsub:∀ x,x∈R::tb.toList->x∈rp R o fl tb:=fun x hx=>by
  rcases List.mem_cons.1 hx with rfl|hx
  ·exact ae6.2 (.inl rfl)
  ·exact ae6.2 (.inr (.inr (.inr (by simpa using hx))))
 have haw:∀ y,y∈[M.d,S,Mp]->y∉R::tb.toList:=fun y hy hx=>hd y (hsub y hx) hy
 have hDl:∀ y,y∈[M.d,S,Mp]->y<w.heap.size:=fun y hy=>h.lt (List.mem_append_left _ hy)
 refine ⟨_,⟨o,fl,tb',N,n',S,Mp,rfl,hR.of_tab ht T hnew hF,hD.turn T (haw _ sn) (haw _ sn) (haw _ sn),fun x hx hm=>?_,hJ,hNl,hgood,hn⟩,T.mono fun i hi=>List.mem_append_right _ (hsub i hi),fun y hy=>?_⟩
 ·rcases ae6.1 hx with e|e|e|e
  ·exact hd x (ae6.2 (.inl e)) hm
  ·exact hd x (ae6.2 (.inr (.inl e))) hm
  ·exact hd x (ae6.2 (.inr (.inr (.inl e)))) hm
  ·rcases hnew x e with e2|e2
   ·exact hd x (ae6.2 (.inr (.inr (.inr e2)))) hm
   ·have:=hDl x hm; omega
 ·rcases List.mem_append.1 hy with hy|hy
  ·exact .inl (List.mem_append_left _ hy)
  ·rcases ae6.1 hy with e|e|e|e
   ·exact .inl (List.mem_append_right _ (ae6.2 (.inl e)))
   ·exact .inl (List.mem_append_right _ (ae6.2 (.inr (.inl e))))
   ·exact .inl (List.mem_append_right _ (ae6.2 (.inr (.inr (.inl e)))))
   ·rcases hnew y e with e2|e2
    ·exact .inl (List.mem_append_right _ (ae6.2 (.inr (.inr (.inr e2)))))
    ·exact .inr e2
theorem gz_set (h:Gz F w R J (sp+1) M) (a:Nat) (len:Int) (r:Rt) (hk:Rk.ok ⟨a,len,r.fr⟩) (hr:r.Fits):
  Q 75 #[Qt R 10,.agg #[U a,I len],rV r] w fun e w'=>e= .returned (.tuple #[])/\Goeg F w R J sp { M with f:=putR M.f ⟨a,len,r.fr⟩ r } w':=by
 obtain ⟨o,fl,tb,j,n,hT,hn,hG⟩:=h.tab;refine (rt_set hT G a len r hk).mono ?_;rintro e w' ⟨rfl,b,n',hT',hn',hTu,hob⟩;refine ⟨rfl,hG w' (some b) n' _ sp hT' hTu (fun b' e=>by cases e; exact hob) (fun k r' e=>?_) G⟩;unfold putR at e;split at e
 ·cases e; exact hr
 ·exact h.fits.f k r' e
theorem du5 (h:Gz F w R J sp M) (a:Nat) (len fr:Int) (hk:Rk.ok ⟨a,len,fr⟩):
  Q 73 #[Qt R 10,.agg #[U a,I len],I fr] w fun e w'=>e= .returned (O (M.f ⟨a,len,fr⟩).isSome)/\Goeg F w R J sp { M with f:=cutR M.f ⟨a,len,fr⟩ } w':=by
 obtain ⟨o,fl,tb,j,n,hT,hn,hG⟩:=h.tab;refine (da3 hT a len fr hk rfl).mono ?_;rintro e w' ⟨rfl,n',hT',hn',hTu⟩;refine ⟨rfl,hG w' tb n' _ sp hT' (hTu.mono fun i hi=>List.mem_cons_of_mem _ hi) (fun b' e=> .inl e) (fun k r' e=>?_) G⟩;unfold cutR at e;split at e
 ·cases e
 ·exact h.fits.f k r' e
theorem de4 (h:Gz F w R J sp M) (fr:Int):
  Q 109 #[Qt R 10,I fr] w fun e w'=>e= .returned (.tuple #[])/\Goeg F w R J sp { M with f:=lessF M.f fun z=>decide (z.fr=fr) } w':=by
 obtain ⟨o,fl,tb,j,n,hT,hn,hG⟩:=h.tab;refine (bw1 hT fr).mono ?_;rintro e w' ⟨rfl,n',hT',hTu⟩;have:=hT.fewer hT' fun k=>ay3
 exact ⟨rfl,hG w' tb n' _ sp hT' (hTu.mono fun i hi=>List.mem_cons_of_mem _ hi) (fun b' e=> .inl e) (fun k r' e=>h.fits.f k r' (bc7 e)) G⟩
theorem du4 (h:Gz F w R J sp M) (now:Int):
  Q 83 #[Qt R 10,I now] w fun e w'=>e= .returned (.tuple #[])/\Goeg F w R J sp { M with f:=lessF M.f (deadAt M.f now) } w':=by
 obtain ⟨o,fl,tb,j,n,hT,hn,hG⟩:=h.tab;refine (ce5 hT now).mono ?_;rintro e w' ⟨rfl,n',hT',hTu⟩;have:=hT.fewer hT' fun k=>ay3
 exact ⟨rfl,hG w' tb n' _ sp hT' (hTu.mono fun i hi=>List.mem_cons_of_mem _ hi) (fun b' e=> .inl e) (fun k r' e=>h.fits.f k r' (bc7 e)) G⟩
theorem de2 (h:Gz F w R J sp M) {k:Nat} (hk:k<8) {c:Int} (h0:0<=c) (h1:c<=1000):Goeg F w R J sp (M.setCost k c) (w.setCell (Y R (11+k)) (I c)):=by
 have hF:=h.fits;refine h.of_head (fun o fl j tb hb=>?_) rfl rfl (Turn.setCell _ sn _) ⟨hF.id,hF.f,fun i=>?_,hF.now,hF.seq,hF.since⟩
 ·have:=hb.store (11+k) (I c)
  rw [ba2 M k hk] at this;exact this
 ·show 0<=(if i=k then c else M.c i)/\(if i=k then c else M.c i)<=1000
  split
  ·exact ⟨h0,h1⟩
  ·exact hF.c i
theorem du3 (h:Gz F w R J sp M) {k:Nat} (hk:k<8) {c:Int} (h0:0<=c) (h1:c<=1000):
  Q 78 #[K R,I k,I c] w fun e w'=>e= .returned (I 0)/\Goeg F w R J sp (M.link k c) w':=by
 obtain ⟨o,fl,tb,j,N,n,hR⟩:=h.rr;have c0:=hR.cost_cell hk;have f0:=hR.head.free (11+k);have hG:=de2 h hk h0 h1;have d1:=df ((k:Int)<0);have d2:=df ((8:Int)<=(k:Int));have d3:=df (c<0);have d4:=df ((1000:Int)<c);have HG:=Zq hG;clear hG h hR;by_cases hc:c=0
 ·subst hc
  obtain ⟨F1,hz1,t1,n1⟩:=HG.out;have hDA:=de4 hz1 k;have Z:=H2 t1 n1;clear hz1 t1 n1 HG;go_enter Tryz.func78,Tryz.ntmps78;go_wp2_with fail;refine hDA.mono ?_;rintro e w2 ⟨rfl,hG2⟩;have hG3:=Goeg.trans Z.out.1 Z.out.2 hG2;clear hDA hG2 c0 f0;have HG3:=Zq hG3;clear hG3;go_wp2_with fail;go_ret;refine ⟨rfl,?_⟩;have:=HG3.out;unfold Mr.link;rw [if_pos rfl];exact this
 ·have d5:(c==0)=false:=beq_eq_false_iff_ne.2 hc
  have E:=Zq (show M.link k c=M.setCost k c by unfold Mr.link; rw [if_neg hc]);clear hc;go_enter Tryz.func78,Tryz.ntmps78;go_wp2_with fail;go_ret;exact ⟨rfl,by rw [E.out]; exact HG.out⟩
end
end
section
open Go.RowKit Go.Maps Rm
attribute [local go_sem] Oper.semAt_some
theorem ea1 {F:List Nat} {w:World} {R sp:Nat} {J:Jm} {M:Mr} (h:Gz F w R J (sp+1) M) {fr:Nat} (hfr:fr<8) {a:Nat} {len:Int} (hp:Pk.ok ⟨a,len⟩) {id seq met:Nat} (hi:id<4294967296) (hs:seq<4294967296) (hm:met<65536):
  Q 41 #[Pt R,I fr,.agg #[U a,I len,U id,U seq,Vv met]] w fun e w'=>e= .returned (.tuple #[])/\Goeg F w R J sp (M.hear fr a len id seq met) w':=by
 have hFi:=h.fits;obtain ⟨q1,hq1⟩:∃ q,M.owns ⟨a,len⟩=q:=⟨_,rfl⟩;obtain ⟨q2,hq2⟩:∃ q,((id:Int)==(M.id:Int))=q:=⟨_,rfl⟩;have e2:(id=M.id)↔q2=true:=by rw [<- hq2,beq_iff_eq]; omega
 obtain ⟨hb,UB⟩:=nw w 71 #[U a,I len,U id,U seq,Vv met];have h1:=h.held hb;have weaken:∀ {F:List Nat} {w:World} {M:Mr},Gz F w R J (sp+1) M->Gz F w R J sp M:=fun {F w M} h=>by
  obtain ⟨o,fl,tb,N,n,S,Mp,hF',hR,hD,hd,hJ,hNl,hgood,h5⟩:=h.ex;exact ⟨o,fl,tb,N,n,S,Mp,hF',hR,hD,hd,hJ,hNl,hgood,og⟩
 go_enter Tryz.func41,Tryz.ntmps41;go_upto_region 1 with fail;generalize w.alloc _=W at*;have hS:∀ (d:Nat) (os:Array Obj),Q 24 #[Pt R] (Sort.grow (redrawn W d) os) fun e w'=>e= .returned (Pt R)/\Below (Sort.grow (redrawn W d) os).heap.size (Sort.grow (redrawn W d) os) w':=fun d os=>by
  obtain ⟨o,fl,tb,j,N,n,hR⟩:=(h1.held (below_regrown W d os)).rr;exact ac4 hR
 have hO:∀ (d:Nat) (os:Array Obj),Q 60 #[Pt R,.agg #[U a,I len]] (Sort.grow (redrawn W d) os) fun e w'=>e= .returned (O q1)/\Below (Sort.grow (redrawn W d) os).heap.size (Sort.grow (redrawn W d) os) w':=fun d os=>by
  obtain ⟨o,fl,tb,j,N,n,hR⟩:=(h1.held (below_regrown W d os)).rr;rw [<- hq1];exact ba7 hR hp
 have hI:∀ (d:Nat) (os:Array Obj),Q 72 #[Pt R] (Sort.grow (redrawn W d) os) fun e w'=>e= .returned (U M.id)/\Below (Sort.grow (redrawn W d) os).heap.size (Sort.grow (redrawn W d) os) w':=fun d os=>by
  obtain ⟨o,fl,tb,j,N,n,hR⟩:=(h1.held (below_regrown W d os)).rr;obtain ⟨cn,cm,hnm,hS⟩:=hR.nt;exact (ci8 hS).mono fun e w' ⟨h1,h2⟩=>⟨h1,h2 ▸ .refl _ _⟩
 have u0:=cell_regrown (UB.at_ 0);have u1:=cell_regrown (UB.at_ 1);have u2:=cell_regrown (UB.at_ 2);have X:=H8 h hb UB h1 hq1 e2 hFi hp;clear h hb UB h1 hq1 e2 hFi hp
 cases q1 with
 |true=>
  refine wp_region_quiet_below kr kr ?_
  repeat (go_big_quiet_step (first|(go_at_call 60; exact Calls.regrown_of (hO _ _))|(go_at_call 24; exact Calls.regrown_of (hS _ _))|(go_at_call 72; exact Calls.regrown_of (hI _ _))))
  refine wpQuiet_nil ?_;intro _ hw';obtain ⟨⟨dq,osq⟩,hw''⟩:=hw';subst hw'';have hbz:=X.out.2.1.trans ((below_regrown W dq osq).mono X.out.2.1.size);clear hS hO hI u0 u1 u2;go_wp2_with fail;refine bodyPost_ret (results_none rfl _ _ _) rfl ⟨rfl,?_⟩;unfold Mr.hear;rw [if_pos (.inl X.out.2.2.2.2.1)];exact Goeg.stay (weaken X.out.1) hbz
 |false=>
  refine wp_region_quiet_below kr kr ?_
  repeat (go_big_quiet_step (first|(go_at_call 60; exact Calls.regrown_of (hO _ _))|(go_at_call 24; exact Calls.regrown_of (hS _ _))|(go_at_call 72; exact Calls.regrown_of (hI _ _))))
  refine wpQuiet_nil ?_;intro _ hw';obtain ⟨⟨dq,osq⟩,hw''⟩:=hw';subst hw'';have hbz:=X.out.2.1.trans ((below_regrown W dq osq).mono X.out.2.1.size);have hbr:=below_regrown W dq osq;clear hS hO hI u0 u1 u2
  cases q2 with
  |true=>
   clear hbr;go_wp2_with fail;refine bodyPost_ret (results_none rfl _ _ _) rfl ⟨rfl,?_⟩;unfold Mr.hear;rw [if_pos (.inr (X.out.2.2.2.2.2.1.2 (by trivial)))];exact Goeg.stay (weaken X.out.1) hbz
  |false=>
   have h2:=X.out.2.2.2.1.held hbr;have UB2:=X.out.2.2.1.held hbr;clear hbr;generalize Sort.grow (redrawn W dq) osq=W2 at*;have hne:¬ (M.owns ⟨a,len⟩=true\/id=M.id):=by
    rintro (h|h)
    ·rw [X.out.2.2.2.2.1] at h; cases h
    ·have:=X.out.2.2.2.2.2.1.1 h; cases this
   have u0:=UB2.at_ 0;have u1:=UB2.at_ 1;have u2:=UB2.at_ 2;have u3:=UB2.at_ 3;have u4:=UB2.at_ 4;obtain ⟨l,hl⟩:∃ l,((met:Int)==65535)=l:=⟨_,rfl⟩;have HL:=af6 (s:=seq) hl W2;have el:met=65535↔l=true:=by rw [<- hl,beq_iff_eq]; omega
   have Y:=H5 h2 UB2 hbz hne el;clear h2 UB2 hbz hne el hl;go_wp2_with fail;refine HL.mono ?_;rintro e w3 ⟨rfl,hb3⟩;have UB3:=Y.out.2.1.held hb3;have h3:=Y.out.1.held hb3;have hle:=X.out.2.1.size;have hle2:=Y.out.2.2.1.size;have hbz3:=Y.out.2.2.1.trans (hb3.mono hle2);clear HL u0 u1 u2 u3 u4 hb3;have u0:=UB3.at_ 0;have u1:=UB3.at_ 1;have u2:=UB3.at_ 2;have u3:=UB3.at_ 3;have u4:=UB3.at_ 4
   cases l with
   |true=>
    have E:=Zq (show M.hear fr a len id seq met={ M with f:=cutR M.f ⟨a,len,fr⟩ } by unfold Mr.hear; rw [if_neg Y.out.2.2.2.1,if_pos (Y.out.2.2.2.2.2 rfl)]);have hkk:Rk.ok ⟨a,len,fr⟩:=⟨X.out.2.2.2.2.2.2.2.1,X.out.2.2.2.2.2.2.2.2,by show -9223372036854775808<=(fr:Int); omega,by show (fr:Int)<=9223372036854775807; omega⟩;have HD:=du5 ((weaken h3).held (Below.refl _ _).drew) a len fr hkk;have Z:=Zq hbz3;have u0':w3.drew.cell? (Aa w.heap.size 0)=some (U a):=u0;have u1':w3.drew.cell? (Aa w.heap.size 1)=some (I len):=u1;clear UB3 h3 hbz3 hkk u2 u3 u4;go_upto_region 3 with fail;clear u0 u1;refine wp_region_held_drew (S:=fun u=>u.cell? (Aa w.heap.size 0)=some (U a)/\u.cell? (Aa w.heap.size 1)=some (I len)) kr ⟨u0',u1'⟩ (fun hHeld=>?_);refine tk 0 (Pt R) rfl hHeld ?_;go_frame;refine tk 1 (Pt R) rfl hHeld ?_;go_frame;refine tk 2 (Qt R 10) rfl hHeld ?_;go_frame;refine tk 3 (Pt w.heap.size) rfl hHeld ?_;go_frame;refine tk 4 (.agg #[U a,I len]) rfl hHeld ?_;go_frame;refine tk 5 (I fr) rfl hHeld ?_;go_frame;refine rl 6 rfl fun K hK=>?_
    go_simp;refine HD.mono ?_;rintro e w4 ⟨rfl,hG⟩;obtain ⟨F4,hz4,t4,n4⟩:=hG;have hbF:w.heap.size∉F:=fun hx=>by have:=X.out.1.lt hx; omega
    refine hK.out _ _ ⟨t4.cell u0' hbF,t4.cell u1' hbF⟩ (fun hHeld=>?_);clear hK K HD hHeld u0' u1';have hG3:Goeg F w R J sp _ w4:=Goeg.before Z.out.drew ⟨F4,hz4,t4,n4⟩;rw [<- E.out] at hG3;have G:=Zq hG3;clear hz4 t4 n4 hG3;refine wpAnyH_done kr ?_ _;try go_frame
    go_wp2_with fail;refine bodyPost_ret (results_none rfl _ _ _) rfl ⟨rfl,G.out⟩
   |false=>
    obtain ⟨o,fl,tb,j,N,n,hR⟩:=h3.rr;have n0:w3.cell? (Aa R 19)=some (I M.now):=hR.head.at_ 19;have hnw1:=X.out.2.2.2.2.2.2.1.now.1;have hnw2:=X.out.2.2.2.2.2.2.1.now.2;have hbn:=aa0 w3 (.cells #[I 0,U 0,U 0,Vv 0,I 0] 130);have n3:=held hbn n0;have v0:=held hbn u0;have v1:=held hbn u1;have v2:=held hbn u2;have v3:=held hbn u3;have v4:=held hbn u4;have Z:=H3 hbz3 h3 UB3;clear hbn hR h3 UB3 hbz3;go_upto_region 4 with fail;go_region;have hbn2:=(aa0 w3 (.cells #[I fr,U id,U seq,Vv met,I (M.now+3)] 130)).drew;have RB:=(Blk.new w3 130 #[I fr,U id,U seq,Vv met,I (M.now+3)]).drew;have h4:=Z.out.2.1.held hbn2;have UB4:=Z.out.2.2.held hbn2;have hbz4:=Z.out.1.trans (hbn2.mono Z.out.1.size);have hrb:=Z.out.1.size;clear n0 n3 v0 v1 v2 v3 v4 u0 u1 u2 u3 u4 hbn2;generalize (w3.alloc (.cells #[I fr,U id,U seq,Vv met,I (M.now+3)] 130)).drew=V at*;generalize w3.heap.size=rb at*;clear Z;obtain ⟨q3,hq3⟩:∃ q,M.fea a len ⟨fr,id,seq,met,M.now+3⟩=q:=⟨_,rfl⟩;obtain ⟨o4,fl4,tb4,j4,N4,nn4,hR4⟩:=h4.rr;have HF:=au3 hR4 X.out.2.2.2.2.2.2.2 hi hq3;have u0:=UB4.at_ 0;have u1:=UB4.at_ 1;have r0:=RB.at_ 0;have r1:=RB.at_ 1;have r2:=RB.at_ 2;have r3:=RB.at_ 3;have r4:=RB.at_ 4;have Z:=H5 h4 UB4 RB hbz4 hq3;clear h4 UB4 RB hbz4 hq3 hR4;go_wp2_with fail;refine HF.mono ?_;rintro e w5 ⟨rfl,hb5⟩;have h5:=(Z.out.1.held hb5).held (Below.refl _ _).drew;have UB5:=(Z.out.2.1.held hb5).drew;have RB5:=(Z.out.2.2.1.held hb5).drew;have hbz5:=(Z.out.2.2.2.1.trans (hb5.mono (Nat.le_trans hrb (Nat.le_of_lt Z.out.2.2.1.lt)))).drew;have hkk:Rk.ok ⟨a,len,fr⟩:=⟨X.out.2.2.2.2.2.2.2.1,X.out.2.2.2.2.2.2.2.2,by show -9223372036854775808<=(fr:Int); omega,by show (fr:Int)<=9223372036854775807; omega⟩;have hbF:w.heap.size∉F:=fun hx=>by have:=X.out.1.lt hx; omega
    have hrF:rb∉F:=fun hx=>by have:=X.out.1.lt hx; omega
    clear HF u0 u1 r0 r1 r2 r3 r4 hb5;have u0:=UB5.at_ 0;have u1:=UB5.at_ 1
    cases q3 with
    |true=>
     have hm1:¬ met=65535:=fun h=>by have:=Y.out.2.2.2.2.1 h; cases this
     have E:=Zq (show M.hear fr a len id seq met={ M with f:=putR M.f ⟨a,len,fr⟩ ⟨fr,id,seq,met,M.now+3⟩ } by unfold Mr.hear; rw [if_neg Y.out.2.2.2.1,if_neg hm1,if_pos Z.out.2.2.2.2]);have HS:Q 75 #[Qt R 10,.agg #[U a,I len],.agg #[I fr,U id,U seq,Vv met,I (M.now+3)]] w5.drew _:=gz_set h5 a len ⟨fr,id,seq,met,M.now+3⟩ hkk ⟨⟨hkk.2.2.1,hkk.2.2.2⟩,hi,hs,hm,by show -9223372036854775808<=M.now+3; omega,by show M.now+3<=9223372036854775807; omega⟩;have r0:w5.drew.cell? (Aa rb 0)=some (I fr):=RB5.at_ 0;have r1:w5.drew.cell? (Aa rb 1)=some (U id):=RB5.at_ 1;have r2:w5.drew.cell? (Aa rb 2)=some (U seq):=RB5.at_ 2;have r3:w5.drew.cell? (Aa rb 3)=some (Vv met):=RB5.at_ 3;have r4:w5.drew.cell? (Aa rb 4)=some (I (M.now+3)):=RB5.at_ 4;have B:=Zq hbz5;clear h5 UB5 RB5 hbz5 hkk hm1;go_upto_region 6 with fail;refine wp_region_held_drew (S:=fun u=>u.cell? (Aa w.heap.size 0)=some (U a)/\u.cell? (Aa w.heap.size 1)=some (I len)/\u.cell? (Aa rb 0)=some (I fr)/\u.cell? (Aa rb 1)=some (U id)/\u.cell? (Aa rb 2)=some (U seq)/\u.cell? (Aa rb 3)=some (Vv met)/\u.cell? (Aa rb 4)=some (I (M.now+3))) kr ⟨u0,u1,r0,r1,r2,r3,r4⟩ (fun hHeld=>?_);refine tk 0 (Pt R) rfl hHeld ?_;go_frame;refine tk 1 (Pt R) rfl hHeld ?_;go_frame;refine tk 2 (Qt R 10) rfl hHeld ?_;go_frame;refine tk 3 (Pt w.heap.size) rfl hHeld ?_;go_frame;refine tk 4 (.agg #[U a,I len]) rfl hHeld ?_;go_frame;refine tk 5 (.agg #[I fr,U id,U seq,Vv met,I (M.now+3)]) rfl hHeld ?_;go_frame;refine rl 6 rfl fun K hK=>?_
     go_simp;refine HS.mono ?_;rintro e w6 ⟨rfl,hG⟩;obtain ⟨F4,hz4,t4,n4⟩:=hG;refine hK.out _ _ ⟨t4.cell u0 hbF,t4.cell u1 hbF,t4.cell r0 hrF,t4.cell r1 hrF,t4.cell r2 hrF,t4.cell r3 hrF,t4.cell r4 hrF⟩ (fun hHeld=>?_);clear hK K HS hHeld u0 u1 r0 r1 r2 r3 r4;have hG3:Goeg F w R J sp _ w6:=Goeg.before B.out ⟨F4,hz4,t4,n4⟩;have hG4:Goeg F w R J sp (M.hear fr a len id seq met) w6:=by rw [E.out]; exact hG3
     have G:=Zq hG4;clear hz4 t4 n4 hG3 hG4;refine wpAnyH_done kr ?_ _;try go_frame
     go_wp2_with fail;refine bodyPost_ret (results_none rfl _ _ _) rfl ⟨rfl,G.out⟩
    |false=>
     have hm1:¬ met=65535:=fun h=>by have:=Y.out.2.2.2.2.1 h; cases this
     have hf1:¬ M.fea a len ⟨fr,id,seq,met,M.now+3⟩=true:=by rw [Z.out.2.2.2.2]; decide
     have E:M.hear fr a len id seq met=match M.f ⟨a,len,fr⟩ with
       |some old=>if old.id=id then M else { M with f:=cutR M.f ⟨a,len,fr⟩ }
       |none=>M:=by unfold Mr.hear; rw [if_neg Y.out.2.2.2.1,if_neg hm1,if_neg hf1]; rfl
     obtain ⟨o5,fl5,tb5,j5,n5,hT5,hn5,-⟩:=h5.tab;obtain ⟨ok,hok⟩:∃ ok,(M.f ⟨a,len,fr⟩).isSome=ok:=⟨_,rfl⟩;obtain ⟨⟨f1,i1,s1,m1,e1⟩,hr⟩:∃ r,(M.f ⟨a,len,fr⟩).getD Rt.zero=r:=⟨_,rfl⟩;have HGt:∀ u,Below w5.drew.heap.size w5.drew u->Q 76 #[Qt R 10,.agg #[U a,I len],I fr] u (Rr0 u (.tuple #[.agg #[I f1,U i1,U s1,Vv m1,I e1],O ok])):=fun u hb=>ce4 (hT5.held hb) a len fr hkk hr hok
     have hul:=UB5.lt;have B:=H7 h5 UB5 hbz5 hkk hok hr E;clear h5 UB5 RB5 hbz5 hkk hm1 hf1 hok hr E hT5 hn5;go_upto_region 7 with fail;refine wp_region_held_drew (S:=fun u=>u.cell? (Aa w.heap.size 0)=some (U a)/\u.cell? (Aa w.heap.size 1)=some (I len)) kr ⟨u0,u1⟩ (fun hHeld=>?_);refine tk 0 (Pt R) rfl hHeld ?_;go_frame;refine tk 1 (Pt R) rfl hHeld ?_;go_frame;refine tk 2 (Qt R 10) rfl hHeld ?_;go_frame;refine tk 3 (Pt w.heap.size) rfl hHeld ?_;go_frame;refine tk 4 (.agg #[U a,I len]) rfl hHeld ?_;go_frame;refine tk 5 (I fr) rfl hHeld ?_;go_frame;refine ad8 (i:=6) (i':=10) rfl rfl kr (fun K hK=>?br1) (fun K hK=>?br2)
     case' br1=>
      go_simp;refine (HGt _ (.refl _ _)).mono ?_;rintro e w6 ⟨rfl,hb6⟩;have s0:=held hb6 u0;have s1':=held hb6 u1;refine hK.out _ _ ⟨s0,s1'⟩ (fun hHeld=>?_);clear hK K;refine tk 7 (.tuple #[.agg #[I f1,U i1,U s1,Vv m1,I e1],O ok]) rfl hHeld ?_;go_frame;refine tk 8 (.agg #[I f1,U i1,U s1,Vv m1,I e1]) rfl hHeld ?_;go_frame;refine tk 9 (O ok) rfl hHeld ?_;go_frame;refine rl 10 rfl fun K hK=>?_
      go_simp;have hb7:=next hb6 (aa0 w6 (.cells #[I 0,U 0,U 0,Vv 0,I 0] 130));have t0:=held hb7 u0;have t1:=held hb7 u1;refine hK.out _ _ ⟨t0,t1⟩ (fun hHeld=>?_);clear hK K;have BZ:=Blk.new w6 130 #[I 0,U 0,U 0,Vv 0,I 0];have hq:w.heap.size<w6.heap.size:=Nat.lt_of_lt_of_le hul hb6.size;generalize w6.alloc _=w7 at*;generalize w6.heap.size=q at*;clear hb6 s0 s1'
     case' br2=>
      go_simp;have hb6:=aa0 w5.drew (.cells #[I 0,U 0,U 0,Vv 0,I 0] 130);have s0:=held hb6 u0;have s1':=held hb6 u1;refine hK.out _ _ ⟨s0,s1'⟩ (fun hHeld=>?_);clear hK K;have BZ0:=Blk.new w5.drew 130 #[I 0,U 0,U 0,Vv 0,I 0];refine rl 6 rfl fun K hK=>?_
      go_simp;refine (HGt _ hb6).mono ?_;rintro e w7 ⟨rfl,hb7'⟩;have hb7:=next hb6 hb7';have t0:=held hb7 u0;have t1:=held hb7 u1;have BZ:=BZ0.held hb7';refine hK.out _ _ ⟨t0,t1⟩ (fun hHeld=>?_);clear hK K s0 s1' BZ0 hb7' hb6;refine tk 7 (.tuple #[.agg #[I f1,U i1,U s1,Vv m1,I e1],O ok]) rfl hHeld ?_;go_frame;refine tk 8 (.agg #[I f1,U i1,U s1,Vv m1,I e1]) rfl hHeld ?_;go_frame;refine tk 9 (O ok) rfl hHeld ?_;go_frame;replace BZ:Blk 130 w7 w5.heap.size #[I 0,U 0,U 0,Vv 0,I 0]:=BZ;have hq:w.heap.size<w5.heap.size:=hul;obtain ⟨q,hqe⟩:=ey w5.heap.size;rw [hqe] at BZ hq;try rw [hqe]
      clear hqe
     all_goals
      have z0:=BZ.at_ 0;have z1:=BZ.at_ 1;have z2:=BZ.at_ 2;have z3:=BZ.at_ 3;have z4:=BZ.at_ 4;have y0:=BZ.free 0;have y1:=BZ.free 1;have y2:=BZ.free 2;have y3:=BZ.free 3;have y4:=BZ.free 4;refine rl 11 rfl fun K hK=>?_
      go_simp;have T8:Turn [q] w7 (((((w7.setCell (Aa q 0) (I f1)).setCell (Aa q 1) (U i1)).setCell (Aa q 2) (U s1)).setCell (Aa q 3) (Vv m1)).setCell (Aa q 4) (I e1)):=((((Turn.setCell _ sn _).trans (Turn.setCell _ sn _)).trans (Turn.setCell _ sn _)).trans (Turn.setCell _ sn _)).trans (Turn.setCell _ sn _);have x0:=T8.cell t0 (by simp; omega);have x1:=T8.cell t1 (by simp; omega);refine hK.out _ _ ⟨x0,x1⟩ (fun hHeld=>?_);clear hK K;have OB:Blk 130 (((((w7.setCell (Aa q 0) (I f1)).setCell (Aa q 1) (U i1)).setCell (Aa q 2) (U s1)).setCell (Aa q 3) (Vv m1)).setCell (Aa q 4) (I e1)) q #[I f1,U i1,U s1,Vv m1,I e1]:=((((BZ.store 0 (I f1)).store 1 (U i1)).store 2 (U s1)).store 3 (Vv m1)).store 4 (I e1);have UB8:=(B.out.2.1.held hb7).turn T8 (by simp; omega);have h8:=(B.out.1.held hb7).turn T8 (fun x hx=>by have:=X.out.1.lt hx; simp; omega);have hbz8:=(B.out.2.2.1.trans (hb7.mono (Nat.le_of_lt hul))).trans (T8.below (B:=w.heap.size) (fun i hi=>by simp at hi; omega) (Nat.le_trans (Nat.le_of_lt hul) hb7.size));clear z0 z1 z2 z3 z4 y0 y1 y2 y3 y4 T8 t0 t1 BZ hb7 u0 u1 HGt;generalize (((((w7.setCell (Aa q 0) (I f1)).setCell (Aa q 1) (U i1)).setCell (Aa q 2) (U s1)).setCell (Aa q 3) (Vv m1)).setCell (Aa q 4) (I e1))=w8 at*;refine rl 12 rfl fun K hK=>?_
      go_simp;refine hK.out _ _ ⟨x0,x1⟩ (fun hHeld=>?_);clear hK K;refine wpAnyH_done kr ?_ _;try go_frame
      clear x0 x1 hHeld;have C:=H3 UB8 h8 hbz8;clear UB8 h8 hbz8
      cases ok with
      |false=>
       have E:=B.out.2.2.2.2.2.2
       cases hfk:M.f ⟨a,len,fr⟩ with
       |some r=>have:=B.out.2.2.2.2.1; rw [hfk] at this; cases this
       |none=>
        rw [hfk] at E;have G:Hid (Goeg F w R J sp (M.hear fr a len id seq met) w8):=Zq (by rw [E]; exact Goeg.stay (weaken X.out.1) C.out.2.2);clear E hfk OB;go_wp2_with fail;refine bodyPost_end (v:= .tuple #[]) (results_none rfl _ _ _) rfl ⟨rfl,G.out⟩
      |true=>
       have E:=B.out.2.2.2.2.2.2
       cases hfk:M.f ⟨a,len,fr⟩ with
       |none=>have:=B.out.2.2.2.2.1; rw [hfk] at this; cases this
       |some r=>
        have e0:r=⟨f1,i1,s1,m1,e1⟩:=by have:=B.out.2.2.2.2.2.1; rw [hfk] at this; exact this
        subst e0;rw [hfk] at E;dsimp only at E;obtain ⟨q5,hq5⟩:∃ q,((i1:Int) !=(id:Int))=q:=⟨_,rfl⟩;have e5:i1=id↔q5=false:=by rw [<- hq5,bne_eq_false_iff_eq]; omega
        have EE:=H2 E e5;have o1:=OB.at_ 1;have v2:=C.out.1.at_ 2;clear E e5 hfk OB
        cases q5 with
        |false=>
         have G:Hid (Goeg F w R J sp (M.hear fr a len id seq met) w8):=Zq (by rw [EE.out.1,if_pos (EE.out.2.2 (by trivial))]; exact Goeg.stay (weaken X.out.1) C.out.2.2);go_wp2_with fail;refine bodyPost_end (v:= .tuple #[]) (results_none rfl _ _ _) rfl ⟨rfl,G.out⟩
        |true=>
         have E:=Zq (show M.hear fr a len id seq met={ M with f:=cutR M.f ⟨a,len,fr⟩ } by rw [EE.out.1,if_neg (fun h=>by have:=EE.out.2.1 h; cases this)]);have HD:=du5 ((weaken C.out.2.1).held (Below.refl _ _).drew) a len fr B.out.2.2.2.1;have u0':w8.drew.cell? (Aa w.heap.size 0)=some (U a):=C.out.1.at_ 0;have u1':w8.drew.cell? (Aa w.heap.size 1)=some (I len):=C.out.1.at_ 1;go_upto_region 9 with fail;clear o1 v2;refine wp_region_held_drew (S:=fun u=>u.cell? (Aa w.heap.size 0)=some (U a)/\u.cell? (Aa w.heap.size 1)=some (I len)) kr ⟨u0',u1'⟩ (fun hHeld=>?_);refine tk 0 (Pt R) rfl hHeld ?_;go_frame;refine tk 1 (Pt R) rfl hHeld ?_;go_frame;refine tk 2 (Qt R 10) rfl hHeld ?_;go_frame;refine tk 3 (Pt w.heap.size) rfl hHeld ?_;go_frame;refine tk 4 (.agg #[U a,I len]) rfl hHeld ?_;go_frame;refine tk 5 (I fr) rfl hHeld ?_;go_frame;refine rl 6 rfl fun K hK=>?_
         go_simp;refine HD.mono ?_;rintro e w9 ⟨rfl,hG⟩;obtain ⟨F4,hz4,t4,n4⟩:=hG;refine hK.out _ _ ⟨t4.cell u0' hbF,t4.cell u1' hbF⟩ (fun hHeld=>?_);clear hK K HD hHeld u0' u1';have hG3:Goeg F w R J sp _ w9:=Goeg.before C.out.2.2.drew ⟨F4,hz4,t4,n4⟩;rw [<- E.out] at hG3;have G:=Zq hG3;clear hz4 t4 n4 hG3;refine wpAnyH_done kr ?_ _;try go_frame
         go_wp2_with fail;refine bodyPost_end (v:= .tuple #[]) (results_none rfl _ _ _) rfl ⟨rfl,G.out⟩
end
section
open Go.RowKit Go.Maps Rm
theorem Gz.weaken {F:List Nat} {w:World} {R sp:Nat} {J:Jm} {M:Mr} (h:Gz F w R J sp M) {sp':Nat} (hs:sp'<=sp):Gz F w R J sp' M:=by
 obtain ⟨o,fl,tb,N,n,S,Mp,hF',hR,hD,hd,hJ,hNl,hgood,h5⟩:=h.ex;exact ⟨o,fl,tb,N,n,S,Mp,hF',hR,hD,hd,hJ,hNl,hgood,G⟩
structure Hg (F:List Nat) (w wr:World) (R:Nat) (J:Jm) (sp:Nat) (M':Mr) (B:Nat) (v:Value) (us:List T.Tm.Up):Prop where
 ex:∃ F',Gz F' wr R J sp M'/\Turn F w wr/\(∀ y,y∈F'->y∈F\/w.heap.size<=y)/\∀ b,v.ownBlock=some b->b∉F'
 lu:T.Lu B v us wr
theorem de3 {F:List Nat} {w:World} {R sp:Nat} {J:Jm} {M:Mr} {A:Option Addr} {n cap:Nat} {bs:List Nat} (hk:∀ us,T.Tm.decode bs=some us->us.length<=1100) (h:Gz F w R J (sp+1100) M) (hs:T.Sl w A n cap bs) (z:Int):
  Q 14 #[K R,I z,.slice A n cap] w fun e w'=>e= .returned (.tuple #[])/\Goeg F w R J sp (M.receive z bs) w':=by
 obtain ⟨o,fl,tb,j,N,nn,hR⟩:=h.rr;have HC:=bk9 hR z;obtain ⟨q,hq⟩:∃ q,(cAt M.c z==0)=q:=⟨_,rfl⟩;have X:=H4 h hs hk hq;clear h hs hk hR;go_enter Tryz.func14,Tryz.ntmps14;go_wp2_with fail;refine HC.mono ?_;rintro e w1 ⟨rfl,rfl⟩
 cases q with
 |true=>
  have d0:=X.out.2.2.2;clear HC;go_wp2_with fail;refine bodyPost_ret (results_none rfl _ _ _) rfl ⟨rfl,?_⟩;unfold Mr.receive;rw [if_pos (eq_of_beq X.out.2.2.2)];exact Goeg.stay (X.out.1.weaken og) (.refl _ _)
 |false=>
  have hne:cAt M.c z≠0:=fun h=>by have:=X.out.2.2.2; rw [h] at this; cases this
  obtain ⟨fr,rfl,hfr⟩:=cm8 hne;obtain ⟨D,hD⟩:=ey (T.Tm.decode bs);have E:=Zq (show M.receive fr bs=M.got fr D by unfold Mr.receive; rw [if_neg hne,hD]; rfl);have HD:=T.decode_any X.out.2.1 hD;have HK:=X.out.2.2.1;rw [hD] at HK;have HF:∀ us,D=some us->∀ u∈us,u.Fits:=fun us e u hu=>(T.Tm.decode_fine X.out.2.1.bytes.2.2.1 (by rw [hD]; exact e) u hu).2
  have Y:=H2 HK HF;have d0:=X.out.2.2.2;clear HC hne hD HK HF hq;go_wp2_with fail;refine HD.mono ?_;rintro e w2 ⟨hb2,⟨rfl,rfl⟩|⟨us,v,rfl,rfl,hL⟩⟩
  ·have G:Hid (Goeg F w R J sp (M.receive fr bs) w2):=Zq (by rw [E.out]; exact Goeg.stay (X.out.1.weaken og) hb2)
   clear HD hb2;go_wp2_with fail;go_loopw [21] (fun i wr=>i= I 0/\wr=w2) (fun _ _=>0)
   case atStart=>exact ⟨rfl,rfl⟩
   case round=>
    obtain ⟨rfl,rfl⟩:=hrel;go_wp2_with fail;refine bodyPost_end (v:= .tuple #[]) (results_none rfl _ _ _) rfl ⟨rfl,G.out⟩
  ·have hul:=Y.out.1 us rfl
   obtain ⟨A',cap',rfl,-⟩:=hL.ul (Y.out.2 us rfl) og;have hlt:us.length<=1100:=hul;have S0:Hg F w w2 R J (sp+1100) M w.heap.size (.slice A' us.length cap') us:=⟨⟨F,X.out.1.held hb2,.of_below _ hb2,fun _ h=> .inl h,fun b e hm=>by have:=X.out.1.lt hm; have:=(hL.lt e).2; omega⟩,hL⟩;have HS:=Zq S0;clear HD hb2 hL S0 hul;go_wp2_with fail;go_loopw [21] (fun i wr=>∃ k:Nat,i= I k/\k<=us.length/\Hid (Hg F w wr R J (sp+(1100 - k)) (M.hears fr (us.take k)) w.heap.size (.slice A' us.length cap') us)) (fun i _=>us.length - (intOf i).toNat)
   case atStart=>exact ⟨0,rfl,Nat.zero_le _,HS⟩
   case round=>
    clear HS;obtain ⟨k,rfl,hk,S⟩:=hrel;by_cases hkl:k<us.length
    ·have hkz:(k:Int)<(us.length:Int):=og
     obtain ⟨A2,cap2,e2,hU⟩:=S.out.lu.ul (Y.out.2 us rfl) og
     cases e2;obtain ⟨b,off,rfl⟩:=hU.plain og;obtain ⟨⟨ua,un,uid,useq,umet⟩,hu⟩:∃ u,us[k]=u:=⟨_,rfl⟩;have hc:=hU.at_ hkl hu;have hf:=hU.fits _ (List.getElem_mem hkl);rw [hu] at hf;have htk:us.take (k+1)=us.take k++[us[k]]:=by rw [List.take_add_one]; simp [hkl]
     rw [hu] at htk;obtain ⟨c0,c1,c2,c3,c4⟩:=hc;obtain ⟨F',hz,t1,n1,hv⟩:=S.out.ex;have hbn:=aa0 wr (.cells #[U ua,I un,U uid,U useq,V umet] 71);have HH:=ea1 (sp:=sp+(1100 - (k+1))) (by rw [show sp+(1100 - (k+1))+1=sp+(1100 - k) by omega]; exact hz.held hbn) hfr (a:=ua) (len:=un) ⟨hf.a,hf.n1,hf.n2⟩ (id:=uid) (seq:=useq) (met:=umet) hf.id hf.seq hf.met;rw [<- Mr.hears_snoc M fr (us.take k) ⟨ua,un,uid,useq,umet⟩,<- htk] at HH;have UB:=Blk.new wr 71 #[U ua,I un,U uid,U useq,V umet];have u0:=UB.at_ 0;have u1:=UB.at_ 1;have u2:=UB.at_ 2;have u3:=UB.at_ 3;have u4:=UB.at_ 4;have lu2:=S.out.lu.held hbn;have Z:=H6 (t1.and_below hbn) n1 hv lu2 hbn hz;clear hz t1 n1 hv hbn UB lu2 S hU hu hf htk;go_wp2_with fail;refine HH.mono ?_;rintro e w3 ⟨rfl,F2,hz2,t2,n2⟩;have hsz:=Z.out.2.2.2.2.1.size;have R2:Hg F w w3 R J (sp+(1100 - (k+1))) (M.hears fr (us.take (k+1))) w.heap.size (Mt b off us.length cap') us:=⟨⟨F2,hz2,Z.out.1.beyond t2 Z.out.2.1,fun y hy=>(n2 y hy).elim (Z.out.2.1 y) (fun h=> .inr (Nat.le_trans Z.out.1.size h)),fun b' e hm=>(n2 b' hm).elim (Z.out.2.2.1 b' e) (fun h=>by have:=(Z.out.2.2.2.1.lt e).1; omega)⟩,Z.out.2.2.2.1.turn t2 Z.out.2.2.1⟩;have HR:=Zq R2;clear R2 hz2 t2 n2 HH u0 u1 u2 u3 u4 c0 c1 c2 c3 c4 Z hsz;go_wp2_with fail;go_roundw
     case rel=>exact ⟨k+1,by go_num,og,HR⟩
     case measure=>simp [intOf]; omega
    ·obtain rfl:k=us.length:=og
     obtain ⟨F',hz,t1,n1,hv⟩:=S.out.ex;rw [List.take_length] at hz;have G:Hid (Goeg F w R J sp (M.receive fr bs) wr):=Zq (by rw [E.out]; exact ⟨F',hz.weaken og,t1,n1⟩);clear hz t1 n1 hv S;go_wp2_with fail;refine bodyPost_end (v:= .tuple #[]) (results_none rfl _ _ _) rfl ⟨rfl,G.out⟩
end
end Go.Proofs.YtafkfnodcemefaaGreat
