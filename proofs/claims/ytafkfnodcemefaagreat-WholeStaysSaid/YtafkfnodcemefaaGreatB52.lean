import Derived.Test.YtafkfnodcemefaaGreatB46
import Derived.Test.YtafkfnodcemefaaGreatB44
set_option maxHeartbeats 8000000
namespace Go.Proofs.YtafkfnodcemefaaGreat
section
open Go.RowKit Go.Maps Rm Fm Sb
def Dm.Still (D:Dm) (n:Nat):Prop:=D.well=-1/\D.n=n
theorem bd2 {D:Dm} {n:Nat} (h:D.Still n) (i:Nat) (bs:List UInt8):(D.write i bs).1=0/\(D.write i bs).2.Still n:=by
 have h2:dec (-1)=-1:=by decide
 unfold Dm.write;rw [if_neg (by have:=h.1; omega)];exact ⟨rfl,by show dec D.well=-1; rw [h.1,h2],h.2⟩
theorem bg2 {D:Dm} {n:Nat} (h:D.Still n):D.sync.1=0/\D.sync.2.Still n:=by
 have h2:dec (-1)=-1:=by decide
 unfold Dm.sync;rw [if_neg (by have:=h.1; omega)];exact ⟨rfl,by show dec D.well=-1; rw [h.1,h2],h.2⟩
theorem be1 {D:Dm} {n:Nat} (h:D.Still n) (i:Nat) (bs:List UInt8):(D.put i bs).1=0/\(D.put i bs).2.Still n:=by
 obtain ⟨h1,h2⟩:=bd2 h i bs;unfold Dm.put;rw [if_pos h1];exact bg2 h2
theorem bq2 (first gen:Nat) {n:Nat}:∀ (rs:List Rc) (p:Nat) {D:Dm},D.Still n->(Dm.lay first gen p rs D).1=0/\(Dm.lay first gen p rs D).2.Still n
 |[],_,_,h=>bg2 h
 |r::rs,p,D,h=>by
  obtain ⟨h1,h2⟩:=bd2 h (first+p) (u8s (Rm.bytes (inAt gen p r)));rw [Dm.lay,if_pos h1];exact bq2 first gen rs (p+1) h2
theorem bo5 {J:Jm} {n:Nat} (h:J.D.Still n) (id:Nat) (rs:List Rc):(J.compact id rs).2.D.Still n/\((J.compact id rs).1≠0->(J.compact id rs).2=J):=by
 unfold Jm.compact;split
 ·exact ⟨h,fun _=>rfl⟩
 ·dsimp only
  have hx:(if J.laid=true then (0,J.D) else Dm.lay (J.size - J.first) ((J.gen+1) % 4294967296) 1 rs J.D:Int×Dm).1=0/\(if J.laid=true then (0,J.D) else Dm.lay (J.size - J.first) ((J.gen+1) % 4294967296) 1 rs J.D:Int×Dm).2.Still n:=by
   split
   ·exact ⟨rfl,h⟩
   ·exact bq2 _ _ _ _ h
  generalize (if J.laid=true then (0,J.D) else Dm.lay (J.size - J.first) ((J.gen+1) % 4294967296) 1 rs J.D:Int×Dm)=y at*;rw [if_neg (by rw [hx.1]; simp)];obtain ⟨p1,p2⟩:=be1 hx.2 (J.size - J.first) (beginB ((J.gen+1) % 4294967296) id);rw [if_neg (by rw [p1]; simp)];exact ⟨p2,fun e=>absurd rfl e⟩
theorem bh8 {J:Jm} {n:Nat} (h:J.D.Still n) (T:Sm) (r:Rc):(J.more T r).1=0/\(J.more T r).2.1.D.Still n:=by
 obtain ⟨p1,p2⟩:=be1 h (J.first+(1+J.len)) (u8s (Rm.bytes (inAt J.gen (1+J.len) r)));unfold Jm.more;dsimp only;rw [if_neg (by rw [p1]; simp)];exact ⟨rfl,p2⟩
theorem ai5 {J:Jm} {n:Nat} (h:J.D.Still n) (id:Nat) (T:Sm) (r:Rc):(J.append id T r).2.1.D.Still n/\((J.append id T r).1≠0->(J.append id T r).2=(J,T)):=by
 by_cases hf:J.size<=1+J.len
 ·obtain ⟨c1,c2⟩:=bo5 h id T.recs
  by_cases hc:(J.compact id T.recs).1=0
  ·rw [Jm.append_on hf rfl hc]
   obtain ⟨m1,m2⟩:=bh8 c1 T r;exact ⟨m2,fun e=>absurd m1 e⟩
  ·rw [Jm.append_no hf rfl hc]
   exact ⟨c1,fun _=>by show ((J.compact id T.recs).2,T)=_; rw [c2 hc]⟩
 ·rw [Jm.append_room hf]
  obtain ⟨m1,m2⟩:=bh8 h T r;exact ⟨m2,fun e=>absurd m1 e⟩
section
variable {M:Mr} {J:Jm} {n:Nat}
theorem bo4 (h:J.D.Still n) (a:Nat) (len:Int) (id seq met:Nat):(M.coveredG J a len id seq met).2.1.D.Still n:=by
 unfold Mr.coveredG;split
 ·exact h
 ·exact (ai5 h _ _ _).1
theorem bc8 (h:J.D.Still n) (s:Nat):(M.leasedG J s).2.1.D.Still n:=by
 unfold Mr.leasedG;split
 ·exact h
 ·exact (ai5 h _ _ _).1
theorem bp1 (h:J.D.Still n):(M.advanceG J).1.D.Still n:=by
 unfold Mr.advanceG;split
 ·exact h
 ·split
  ·split
   ·exact bc8 h _
   ·exact bc8 h _
  ·exact h
theorem ca2 (h:J.D.Still n):(M.stepG J).1.D.Still n:=by
 unfold Mr.stepG;split
 ·exact bp1 h
 ·exact h
theorem bu8 (h:J.D.Still n) (e:En):(M.tell1G J e).2.1.D.Still n:=by
 unfold Mr.tell1G;split
 ·exact h
 ·cases M.pick e.a e.n with
  |none=>exact h
  |some r=>exact bo4 h _ _ _ _ _
end
theorem be0 {n:Nat}:∀ (l:List En) {M:Mr} {J:Jm},J.D.Still n->(M.tellSG J l).2.1.D.Still n
 |[],_,_,h=>h
 |e::r,M,_,h=>be0 r (bu8 (M:=M) h e)
theorem bz5 {M:Mr} {J:Jm} {n:Nat} (h:J.D.Still n):(M.tickG J).2.1.D.Still n:=be0 _ (ca2 h)
theorem cg5 {M:Mr} {J:Jm} {n:Nat} (h:J.D.Still n) (a:Nat) (len:Int) (on:Bool):(M.ownG J a len on).2.1.D.Still n/\((M.ownG J a len on).1≠0->(M.ownG J a len on).2=(J,M)):=by
 unfold Mr.ownG;split
 ·exact ⟨h,fun _=>rfl⟩
 ·split
  ·exact ⟨h,fun _=>rfl⟩
  ·split
   ·exact ⟨h,fun _=>rfl⟩
   ·split
    ·exact ⟨h,fun _=>rfl⟩
    ·obtain ⟨a1,a2⟩:=ai5 h M.id M.sm ⟨2,0,0,0,a,len,on,0,0⟩
     refine ⟨a1,fun e=>?_⟩;have e2:=a2 e;show ((J.append M.id M.sm ⟨2,0,0,0,a,len,on,0,0⟩).2.1,{ M with sm:=(J.append M.id M.sm ⟨2,0,0,0,a,len,on,0,0⟩).2.2 })=_;rw [e2]
theorem bp6 {D:Dm} {n:Nat} (h:D.Still n) (hn:4<=n) (id:Nat):∃ J T,D.opened id=(0,J.D,some (J,T))/\J.D.Still n:=by
 have h2:=h.2;unfold Dm.opened;rw [if_neg G]
 cases D.journal id with
 |some fg=>
  obtain ⟨f,g⟩:=fg;exact ⟨⟨D,f,D.n / 2,g,(D.recs f g).length,false⟩,_,rfl,h⟩
 |none=>
  obtain ⟨p1,p2⟩:=be1 h 0 (beginB ((D.greatest D.n+1) % 4294967296) id);dsimp only;rw [if_neg (by rw [p1]; simp)];exact ⟨⟨(D.put 0 (beginB ((D.greatest D.n+1) % 4294967296) id)).2,0,D.n / 2,(D.greatest D.n+1) % 4294967296,0,false⟩,_,rfl,p2⟩
def StillN (m n:Nat) (st:Nat->SvG):Prop:=∀ i,i<m->(st i).disk.Still n
theorem bj2 (st:Nat->SvG) (i:Nat):setg st i (st i)=st:=funext fun k=>ay6 st i k
section
variable {m n:Nat} {st:Nat->SvG}
theorem StillN.set (h:StillN m n st) {i:Nat} {s:SvG} (hs:s.disk.Still n):StillN m n (setg st i s):=fun k hk=>by
 by_cases e:k=i
 ·rw [e,ak8]; exact hs
 ·rw [aj4 e]; exact h k hk
theorem cc3 {s:SvG} (h:s.disk.Still n) (hn:4<=n) (i:Nat):(s.boot i).2.disk.Still n/\((s.boot i).1≠0->(s.boot i).2=s):=by
 cases hr:s.r with
 |some x=>
  rw [SvG.boot_runs hr];exact ⟨h,fun _=>rfl⟩
 |none=>
  have hz:s.z.Still n:=by
   unfold SvG.disk at h;rw [hr] at h;exact h
  obtain ⟨J,T,e,hJ⟩:=bp6 hz hn (i+1);rw [SvG.boot_on hr e];exact ⟨hJ,fun e=>absurd rfl e⟩
theorem bh9 {s:SvG} (h:s.disk.Still n) (k:Nat) (c:Int):(s.link k c).disk.Still n:=by
 obtain ⟨r,c0,z⟩:=s
 cases r<;>exact h
theorem bg4 {s:SvG} (h:s.disk.Still n) (a:Nat) (len:Int) (on:Bool):(s.own a len on).2.disk.Still n/\((s.own a len on).1≠0->(s.own a len on).2=s):=by
 obtain ⟨r,c,z⟩:=s
 cases r with
 |none=>exact ⟨h,fun _=>rfl⟩
 |some x=>
  obtain ⟨J,sp,M⟩:=x;obtain ⟨h1,h2⟩:=cg5 (M:=M) (J:=J) h a len on;refine ⟨h1,fun e=>?_⟩;have e2:=h2 e;show (⟨some ⟨(M.ownG J a len on).2.1,sp,(M.ownG J a len on).2.2⟩,c,z⟩:SvG)=_;rw [e2]
theorem bv9 {s:SvG} (h:s.disk.Still n) (ps:List Cr.Pk):(s.crash ps).disk.Still n:=⟨rfl,h.2⟩
theorem bd8 {s:SvG} (h:s.disk.Still n):s.tick.2.1.disk.Still n/\(s.tick.1≠0->s.tick.2=(s,[])):=by
 obtain ⟨r,c,z⟩:=s
 cases r with
 |none=>exact ⟨h,fun _=>rfl⟩
 |some x=>exact ⟨bz5 h,fun e=>absurd rfl e⟩
theorem ca4 {s:SvG} (h:s.disk.Still n) (fr:Nat) (bs:List Nat):(s.recv fr bs).disk.Still n:=by
 obtain ⟨r,c,z⟩:=s
 cases r with
 |none=>exact h
 |some x=>
  have h':x.J.D.Still n:=h;exact h'
theorem ba4 (h:StillN m n st) (g:Dg) (most:Int):StillN m n (recvAll m st g most):=by
 unfold recvAll;split
 ·rename_i hi
  exact h.set (ca4 (h _ hi) _ _)
 ·exact h
theorem be3:∀ (os:List Dg) {st:Nat->SvG},StillN m n st->StillN m n (drainG m os st)
 |[],_,h=>h
 |g::r,_,h=>be3 r (ba4 h g 1024)
theorem al9 {x:NsG} (h:StillN m n x.1):∀ {k:Nat},k<=m->StillN m n (ticksN k x).1
 |0,_=>h
 |k+1,hk=>(al9 h (k:=k) G).set (bd8 (al9 h (k:=k) G k G)).1
theorem be2 {x:NsG} {e:Sc.Ev} (h:StillN m n x.1) (hn:4<=n) (he:e.kind≠2):StillN m n (nStep m e x).2.1/\((nStep m e x).1≠0->(nStep m e x).2=x):=by
 have key:∀ r:Int×NsG,(StillN m n r.2.1/\(r.1≠0->r.2=x))->StillN m n r.2.1/\(r.1≠0->r.2=x):=fun r h=>h
 unfold nStep;split
 ·rename_i hr
  have hk:=cv4 hr;have hi:∀ {z:Int},0<=z/\z<(m:Int)->z.toNat<m:=G
  rcases hk with hk|hk|hk|hk|hk|hk|hk|hk|hk|hk|hk
  ·rw [hk]
   refine key (ite _ _ _) ?_;split
   ·rename_i hz
    obtain ⟨b1,b2⟩:=cc3 (h _ (hi hz)) hn e.i.toNat;refine ⟨h.set b1,fun q=>?_⟩;show (setg x.1 e.i.toNat ((x.1 e.i.toNat).boot e.i.toNat).2,x.2)=x;rw [b2 q,bj2]
   ·exact ⟨h,fun _=>rfl⟩
  ·rw [hk]
   refine key (ite _ _ _) ?_;split
   ·rename_i hz
    exact ⟨h.set (bv9 (h _ (hi hz)) _),fun q=>absurd rfl q⟩
   ·exact ⟨h,fun _=>rfl⟩
  ·exact absurd hk he
  ·rw [hk]
   refine key (ite _ _ _) ?_;split
   ·rename_i hz
    refine ⟨(h.set (bh9 (h _ (hi hz.1)) _ _)).set (bh9 (h _ (hi hz.2.1)) _ _),fun q=>absurd rfl q⟩
   ·exact ⟨h,fun _=>rfl⟩
  ·rw [hk]
   refine key (ite _ _ _) ?_;split
   ·rename_i hz
    obtain ⟨b1,b2⟩:=bg4 (h _ (hi hz)) e.a e.len true;refine ⟨h.set b1,fun q=>?_⟩;show (setg x.1 e.i.toNat ((x.1 e.i.toNat).own e.a e.len true).2,x.2)=x;rw [b2 q,bj2]
   ·exact ⟨h,fun _=>rfl⟩
  ·rw [hk]
   refine key (ite _ _ _) ?_;split
   ·rename_i hz
    obtain ⟨b1,b2⟩:=bg4 (h _ (hi hz)) e.a e.len false;refine ⟨h.set b1,fun q=>?_⟩;show (setg x.1 e.i.toNat ((x.1 e.i.toNat).own e.a e.len false).2,x.2)=x;rw [b2 q,bj2]
   ·exact ⟨h,fun _=>rfl⟩
  ·rw [hk]
   refine key (ite _ _ _) ?_;split
   ·rename_i hz
    obtain ⟨b1,b2⟩:=bd8 (h _ (hi hz));refine ⟨h.set b1,fun q=>?_⟩;show (setg x.1 e.i.toNat (x.1 e.i.toNat).tick.2.1,sendAll e.i.toNat x.2 (x.1 e.i.toNat).tick.2.2)=x;rw [b2 q,bj2];rfl
   ·exact ⟨h,fun _=>rfl⟩
  ·rw [hk]
   refine key (ite _ _ _) ?_;split
   ·exact ⟨ba4 h _ _,fun q=>absurd rfl q⟩
   ·exact ⟨h,fun _=>rfl⟩
  ·rw [hk]
   refine key (ite _ _ _) ?_;split
   ·exact ⟨h,fun q=>absurd rfl q⟩
   ·exact ⟨h,fun _=>rfl⟩
  ·rw [hk]
   refine key (ite _ _ _) ?_;split
   ·exact ⟨h,fun q=>absurd rfl q⟩
   ·exact ⟨h,fun _=>rfl⟩
  ·rw [hk]
   exact ⟨be3 _ (al9 h (Nat.le_refl _)),fun q=>absurd rfl q⟩
 ·exact ⟨h,fun _=>rfl⟩
end
noncomputable def nFold (m:Nat) (l:List Sc.Ev) (x:NsG):NsG:=l.foldl (fun y e=>(nStep m e y).2) x
theorem bh2 (m:Nat) (l:List Sc.Ev) (e:Sc.Ev) (x:NsG):nFold m (l++[e]) x=(nStep m e (nFold m l x)).2:=by
 unfold nFold;rw [List.foldl_append];rfl
theorem bn0 {m:Nat} {es:List Sc.Ev} {x:NsG}:∀ {k:Nat},k<=es.length->nAt m (evOf es) x k=nFold m (es.take k) x
 |0,_=>rfl
 |k+1,hk=>by
  rw [List.take_succ_eq_append_getElem G,bh2,<- bn0 (k:=k) G];show (nStep m (evOf es k) _).2=_;rw [show evOf es k=es[k] from getD_in G]
theorem bi0 {m n:Nat} (hn:4<=n):∀ (l:List Sc.Ev) {x:NsG},(∀ e∈l,e.kind≠2)->StillN m n x.1->StillN m n (nFold m l x).1
 |[],_,_,h=>h
 |e::r,_,hk,h=>bi0 hn r (fun y hy=>hk y (List.mem_cons_of_mem _ hy)) (be2 h hn (hk e List.mem_cons_self)).1
noncomputable def nLess (m:Nat) (es:List Sc.Ev) (x:NsG):Nat->List Sc.Ev
 |0=>[]
 |k+1=>if nZ m (evOf es) x k=0 then nLess m es x k++[evOf es k] else nLess m es x k
theorem ba9 {m n:Nat} {es:List Sc.Ev} {x:NsG} (hn:4<=n) (hk:∀ e∈es,e.kind≠2) (h:StillN m n x.1):∀ {k:Nat},k<=es.length->nFold m (nLess m es x k) x=nAt m (evOf es) x k
 |0,_=>rfl
 |k+1,hle=>by
  have ih:=ba9 hn hk h (k:=k) G;have hs:StillN m n (nAt m (evOf es) x k).1:=by
   rw [bn0 G];exact bi0 hn _ (fun e he=>hk e (List.mem_of_mem_take he)) h
  have hev:evOf es k=es[k]:=getD_in G;have hst:=be2 (e:=evOf es k) hs hn (by rw [hev]; exact hk _ (List.getElem_mem _));rw [nLess];split
  ·rw [bh2,ih]
   rfl
  ·rename_i hz
   rw [ih];exact (hst.2 hz).symm
theorem bq0 {m n:Nat} {es:List Sc.Ev} {x:NsG} (hn:4<=n) (hk:∀ e∈es,e.kind≠2) (h:StillN m n x.1):∀ {k:Nat} (_:k<=es.length) {j:Nat} (_:j<(nLess m es x k).length),nZ m (evOf (nLess m es x k)) x j=0
 |0,_,j,hj=>by cases hj
 |k+1,hle,j,hj=>by
  have ih:=fun j hj=>bq0 hn hk h (k:=k) G (j:=j) hj
  rw [nLess] at hj ⊢;split at hj
  ·rename_i hz
   rw [if_pos hz];have hpre:∀ q,q<(nLess m es x k).length->evOf (nLess m es x k++[evOf es k]) q=evOf (nLess m es x k) q:=fun q hq=>by
    unfold evOf;simp only [List.getD_eq_getElem?_getD];rw [List.getElem?_append_left hq]
   by_cases hjk:j<(nLess m es x k).length
   ·rw [dz4 (ev':=evOf (nLess m es x k)) (fun q hq=>hpre q G)]
    exact ih j hjk
   ·have e:j=(nLess m es x k).length:=by simp at hj; omega
    subst e;unfold nZ;have e1:evOf (nLess m es x k++[evOf es k]) (nLess m es x k).length=evOf es k:=by
     have:(nLess m es x k++[evOf es k]).getD (nLess m es x k).length ⟨0,0,0,0,0,0,[]⟩=evOf es k:=by
      rw [List.getD_eq_getElem?_getD,List.getElem?_append_right (Nat.le_refl _),Nat.sub_self];rfl
     exact this
    have e2:nAt m (evOf (nLess m es x k++[evOf es k])) x (nLess m es x k).length=nAt m (evOf es) x k:=by
     rw [bn4 (ev':=evOf (nLess m es x k)) (fun q hq=>hpre q hq),bn0 (Nat.le_refl _),List.take_length,ba9 hn hk h G]
    rw [e1,e2];exact hz
  ·rename_i hz
   rw [if_neg hz];exact ih j hj
theorem ch3 (m n:Nat):StillN m n (nNew n).1:=fun _ _=>⟨rfl,rfl⟩
end
end Go.Proofs.YtafkfnodcemefaaGreat
