import Derived.Test.YtafkfnodcemefaaGreatB27
set_option maxHeartbeats 8000000
set_option maxRecDepth 100000
namespace Go.Proofs.YtafkfnodcemefaaGreat
open _root_.Go.Proofs.Tryz (prog)
section
open Go.RowKit Rm
structure GoodSm (S:Sm):Prop where
 lease:S.lease<=1073741824
 own:∀ p b,S.own p=some b->p.ok/\Am.right p.a p.n=true
 floor:∀ k f,S.floor k=some f->k.ok/\Am.right k.a k.n=true/\0<k.id/\f.1<=1073741824/\f.2<65535
theorem good0:GoodSm sm0:=⟨by decide,fun _ _ h=>(by cases h),fun _ _ h=>(by cases h)⟩
theorem cx8 {r:Rc} (h:right2 r=true):r.seq<=1073741824/\r.met≠65535:=by
 unfold right2 at h;split at h
 ·cases h
 ·rename_i h1
  simp only [Bool.or_eq_true,not_or,decide_eq_true_eq,beq_iff_eq] at h1;exact ⟨by omega,h1.2⟩
theorem cc8 {r:Rc} (h:right2 r=true):Am.right r.a r.len=true:=by
 unfold right2 at h;split at h
 ·cases h
 ·rename_i h1
  simp only [Bool.or_eq_true,Bool.not_eq_true',not_or,Bool.not_eq_false] at h1;exact h1.1.1
theorem di7 {r:Rc} (h:right2 r=true) (hk:r.kind=4):0<r.id:=by
 unfold right2 at h;split at h
 ·cases h
 ·simp [hk] at h
  exact h.1
theorem GoodSm.app {S:Sm} (h:GoodSm S) {r:Rc} (hr:right2 r=true) (hf:r.Fits):GoodSm (app S r):=by
 have ha:=cc8 hr;have hid:=di7 hr;obtain ⟨hs,hm⟩:=cx8 hr;have hm2:=hf.met;unfold Go.Proofs.YtafkfnodcemefaaGreat.app;split
 ·refine ⟨h.lease,fun p b hp=>?_,h.floor⟩
  have hp:(if p=⟨r.a,r.len⟩ then some r.on else S.own p)=some b:=hp;split at hp
  ·rename_i e
   subst e;exact ⟨⟨hf.a,hf.n1,hf.n2⟩,ha⟩
  ·exact h.own p b hp
 ·split
  ·exact ⟨Nat.max_le.2 ⟨h.lease,hs⟩,h.own,h.floor⟩
  ·split
   ·rename_i h4
    split
    ·refine ⟨h.lease,h.own,fun k f hk=>?_⟩
     have hk:(if k=⟨r.a,r.len,r.id⟩ then some (r.seq,r.met) else S.floor k)=some f:=hk;by_cases e:k=⟨r.a,r.len,r.id⟩
     ·rw [if_pos e] at hk
      cases hk;rw [e];exact ⟨⟨hf.a,⟨hf.n1,hf.n2⟩,hf.id⟩,ha,hid h4,hs,by show r.met<65535; omega⟩
     ·rw [if_neg e] at hk
      exact h.floor k f hk
    ·exact h
   ·exact h
def recsOf (S:Sm) (es:List (ElP S.own)) (fs:List (ElK S.floor)):List Rc:=es.map rO++rL S.lease++fs.map rF
section
variable {S:Sm} {es:List (ElP S.own)} {fs:List (ElK S.floor)} {xs:List Pk} {ys:List Ky}
theorem dx0 {r:Rc}:r∈recsOf S es fs↔(∃ e∈es,rO e=r)\/(S.lease≠0/\r=⟨3,0,0,0,0,0,false,S.lease,0⟩)\/∃ e∈fs,rF e=r:=by
 unfold recsOf rL;by_cases hz:S.lease=0
 ·simp [hz]
 ·simp [hz]
theorem cy8 (h:GoodSm S):∀ r∈recsOf S es fs,right2 r=true/\r.Fits/\r.gen=0/\r.lsn=0:=fun r hr=>by
 rcases dx0.1 hr with ⟨e,-,rfl⟩|⟨hz,rfl⟩|⟨e,-,rfl⟩
 ·obtain ⟨hk,hr⟩:=h.own _ _ e.has
  refine ⟨?_,⟨by show (-9223372036854775808:Int)<=2; omega,by show (2:Int)<=9223372036854775807; omega,by show 0<4294967296; omega,by show 0<4294967296; omega,by show 0<4294967296; omega,hk.1,hk.2.1,hk.2.2,by show 0<4294967296; omega,by show 0<65536; omega⟩,rfl,rfl⟩;unfold right2 rO;simp [hr]
 ·have hl:=h.lease
  refine ⟨?_,⟨by show (-9223372036854775808:Int)<=3; omega,by show (3:Int)<=9223372036854775807; omega,by show 0<4294967296; omega,by show 0<4294967296; omega,by show 0<4294967296; omega,by show 0<4294967296; omega,by show (-9223372036854775808:Int)<=0; omega,by show (0:Int)<=9223372036854775807; omega,by show S.lease<4294967296; omega,by show 0<65536; omega⟩,rfl,rfl⟩;unfold right2;simp [show Am.right 0 0=true by decide,show ¬ 1073741824<S.lease by omega]
 ·obtain ⟨hk,hr,hid,hs,hm⟩:=h.floor _ _ e.has
  refine ⟨?_,⟨by show (-9223372036854775808:Int)<=4; omega,by show (4:Int)<=9223372036854775807; omega,by show 0<4294967296; omega,by show 0<4294967296; omega,hk.2.2,hk.1,hk.2.1.1,hk.2.1.2,by show e.val.1<4294967296; omega,by show e.val.2<65536; omega⟩,rfl,rfl⟩;unfold right2 rF;simp [hr,show ¬ 1073741824<e.val.1 by omega,show ¬ e.val.2=65535 by omega,hid]
end
def inAt (gen place:Nat) (r:Rc):Rc:=⟨r.kind,gen,place,r.id,r.a,r.len,r.on,r.seq,r.met⟩
theorem de1 {gen place:Nat} {r:Rc} (h:right2 r=true):right (inAt gen place r)=true:=by
 rw [<- ai8];unfold right2 inAt at*;exact h
theorem du1 {gen place:Nat} {r:Rc} (h:r.Fits) (hg:gen<4294967296) (hp:place<4294967296):(inAt gen place r).Fits:=⟨h.k1,h.k2,hg,hp,h.id,h.a,h.n1,h.n2,h.seq,h.met⟩
theorem dy8 {w:World} {n₀ k:Nat} {xs:List Value} {b off len cap:Nat} (h:w.ownsRow n₀ 160 9 (Mt b off len cap) k xs):n₀<=b/\b<w.heap.size:=by
 rcases h.2 with ⟨hv,-⟩|⟨g,c,cur,hv,hb,hg,-⟩
 ·cases hv
 ·cases hv
  exact ⟨hb,(Array.getElem?_eq_some_iff.1 hg).1⟩
theorem as1 (r:Rc):(rcells r).length=9:=rfl
theorem cp3:∀ (L:List Rc) (i:Nat) (h:i<L.length) (j:Nat),j<9->(L.flatMap rcells)[9*i+j]?=(rcl L[i])[j]?
 |r::L,0,_,j,hj=>by
  rw [List.flatMap_cons,List.getElem?_append_left (by rw [as1]; omega)];show (rcl r).toList[9*0+j]?=(rcl r)[j]?;rw [show 9*0+j=j by omega];simp
 |r::L,i+1,h,j,hj=>by
  rw [List.flatMap_cons,List.getElem?_append_right (by rw [as1]; omega),as1,show 9*(i+1)+j - 9=9*i+j by omega];exact cp3 L i (by simpa using h) j hj
theorem dw3 {w:World} {n₀:Nat} {v:Value} {L:List Rc} (h:w.ownsRow n₀ 160 9 v L.length (L.flatMap rcells)):
  ∃ a cap,v= .slice a L.length cap/\L.length<=maxLen/\L.length<=cap/\(0<L.length->∃ b off,a=some ⟨b,off,none⟩)/\∀ b off,a=some ⟨b,off,none⟩->Recs w b off L:=by
 rcases h.2 with ⟨hv,hn⟩|⟨g,cap,cur,hv,hb,hg,hle,hm,-,-⟩
 ·exact ⟨none,0,by rw [hv,hn],G,G,G,fun _ _ h=>by cases h⟩
 ·refine ⟨some (Y g 0),cap,hv,Nat.le_trans hle hm,hle,fun _=>⟨g,0,rfl⟩,?_⟩
  intro b off e
  cases e;intro i hi j hj;have hadd:∀ j,(Y g 0:Addr).add j=⟨g,0+j,none⟩:=fun j=>by unfold Addr.add; split<;>simp_all
  have hj':j<(rcl L[i]).size:=hj;have h1:=cp3 L i hi j hj;rw [Array.getElem?_eq_getElem hj'] at h1 ⊢;have:=h.cells (g:=g) (by rw [hv]; rfl) _ _ h1;rw [hadd] at this;exact this
theorem ar8 {α:Type} {lt:α->α->Prop} (hs:∀ x y,lt x y->¬ lt y x):∀ (xs ys:List α),xs.Pairwise lt->ys.Pairwise lt->(∀ z,z∈xs↔z∈ys)->xs=ys
 |[],[],_,_,_=>rfl
 |[],y::ys,_,_,h=>by have:=(h y).2 sn; simp at this
 |x::xs,[],_,_,h=>by have:=(h x).1 sn; simp at this
 |x::xs,y::ys,hx,hy,h=>by
  rw [List.pairwise_cons] at hx hy;have hxi:∀ z,lt z z->False:=fun z hz=>hs z z hz hz
  have e:x=y:=by
   rcases List.mem_cons.1 ((h x).1 sn) with e|e
   ·exact e
   ·rcases List.mem_cons.1 ((h y).2 sn) with e2|e2
    ·exact e2.symm
    ·exact absurd (hx.1 y e2) (hs y x (hy.1 x e))
  subst e;have:=ar8 hs xs ys hx.2 hy.2 (fun z=>by
   constructor
   ·intro hz
    rcases List.mem_cons.1 ((h z).1 (List.mem_cons_of_mem _ hz)) with e|e
    ·subst e; exact absurd (hx.1 z hz) (hxi z)
    ·exact e
   ·intro hz
    rcases List.mem_cons.1 ((h z).2 (List.mem_cons_of_mem _ hz)) with e|e
    ·subst e; exact absurd (hy.1 z hz) (hxi z)
    ·exact e)
  rw [this]
theorem bg3 (x y:Pk) (h:ltP x y):¬ ltP y x:=by unfold ltP at*; omega
theorem bu0 (x y:Ky) (h:ltK x y):¬ ltK y x:=by unfold ltK ltP at*; simp only at*; omega
theorem cv6 {f:Pk->Option Bool}:∀ (es es':List (ElP f)),es.map (·.key)=es'.map (·.key)->es=es'
 |[],[],_=>rfl
 |[],_::_,h=>by simp at h
 |_::_,[],h=>by simp at h
 |⟨k,v,a,b,c⟩::r,⟨k',v',a',b',c'⟩::r',h=>by
  simp only [List.map_cons,List.cons.injEq] at h;obtain ⟨rfl,h⟩:=h;have:=c.symm.trans c'
  cases this;rw [cv6 r r' h]
theorem cw5 {f:Ky->Option (Nat×Nat)}:∀ (es es':List (ElK f)),es.map (·.key)=es'.map (·.key)->es=es'
 |[],[],_=>rfl
 |[],_::_,h=>by simp at h
 |_::_,[],h=>by simp at h
 |⟨k,v,a,b,c⟩::r,⟨k',v',a',b',c'⟩::r',h=>by
  simp only [List.map_cons,List.cons.injEq] at h;obtain ⟨rfl,h⟩:=h;have:=c.symm.trans c'
  cases this;rw [cw5 r r' h]
theorem di8 {T:Sm} {xs xs':List Pk} {ys ys':List Ky} {es es':List (ElP T.own)} {fs fs':List (ElK T.floor)}
  (a1:EsP T.own xs es) (a2:xs.Pairwise ltP) (a3:∀ x,x∈xs↔x.ok/\(T.own x).isSome=true) (a4:EsK T.floor ys fs) (a5:ys.Pairwise ltK) (a6:∀ x,x∈ys↔x.ok/\(T.floor x).isSome=true)
  (b1:EsP T.own xs' es') (b2:xs'.Pairwise ltP) (b3:∀ x,x∈xs'↔x.ok/\(T.own x).isSome=true) (b4:EsK T.floor ys' fs') (b5:ys'.Pairwise ltK) (b6:∀ x,x∈ys'↔x.ok/\(T.floor x).isSome=true):
  recsOf T es fs=recsOf T es' fs':=by
 have e1:xs=xs':=ar8 bg3 _ _ a2 b2 (fun z=>(a3 z).trans (b3 z).symm);have e2:ys=ys':=ar8 bu0 _ _ a5 b5 (fun z=>(a6 z).trans (b6 z).symm);rw [cv6 es es' (by rw [show es.map (·.key)=xs from a1,show es'.map (·.key)=xs' from b1,e1]),cw5 fs fs' (by rw [show fs.map (·.key)=ys from a4,show fs'.map (·.key)=ys' from b4,e2])]
structure Dm where
 n:Nat
 safe:Nat->List UInt8
 wn:Int->Option (List UInt8)
 well:Int
def Dq (w:World) (d S M:Nat) (D:Dm):Prop:=Dk w d S M D.n D.safe D.wn D.well
def Dm.write (D:Dm) (i:Nat) (bs:List UInt8):Int×Dm:=if D.well=0 then (4,{ D with well:=-1 }) else (0,{ D with wn:=updD D.wn i bs,well:=dec D.well })
def Dm.sync (D:Dm):Int×Dm:=if D.well=0 then (4,{ D with well:=-1 }) else (0,{ D with safe:=synced D.safe D.wn,wn:=fun _=>none,well:=dec D.well })
def Dm.put (D:Dm) (i:Nat) (bs:List UInt8):Int×Dm:=if (D.write i bs).1=0 then (D.write i bs).2.sync else D.write i bs
def Dm.lay (first gen:Nat):Nat->List Rc->Dm->Int×Dm
 |_,[],D=>D.sync
 |p,r::rs,D=>if (D.write (first+p) (u8s (Rm.bytes (inAt gen p r)))).1=0 then Dm.lay first gen (p+1) rs (D.write (first+p) (u8s (Rm.bytes (inAt gen p r)))).2 else D.write (first+p) (u8s (Rm.bytes (inAt gen p r)))
theorem Dm.write_n (D:Dm) (i:Nat) (bs:List UInt8):(D.write i bs).2.n=D.n:=by unfold Dm.write; split<;>rfl
theorem Dm.sync_n (D:Dm):D.sync.2.n=D.n:=by unfold Dm.sync; split<;>rfl
theorem Dm.put_n (D:Dm) (i:Nat) (bs:List UInt8):(D.put i bs).2.n=D.n:=by
 unfold Dm.put;split
 ·rw [Dm.sync_n,Dm.write_n]
 ·rw [Dm.write_n]
theorem Dm.lay_n (first gen:Nat):∀ (rs:List Rc) (p:Nat) (D:Dm),(Dm.lay first gen p rs D).2.n=D.n
 |[],p,D=>D.sync_n
 |r::rs,p,D=>by
  rw [Dm.lay];split
  ·rw [Dm.lay_n first gen rs,Dm.write_n]
  ·rw [Dm.write_n]
theorem Dm.write_err (D:Dm) (i:Nat) (bs:List UInt8):(D.write i bs).1=0\/(D.write i bs).1=4:=by unfold Dm.write; split<;>simp
theorem Dm.sync_err (D:Dm):D.sync.1=0\/D.sync.1=4:=by unfold Dm.sync; split<;>simp
theorem Dm.put_err (D:Dm) (i:Nat) (bs:List UInt8):(D.put i bs).1=0\/(D.put i bs).1=4:=by
 unfold Dm.put;split
 ·exact Dm.sync_err _
 ·exact Dm.write_err _ _ _
theorem Dm.lay_err (first gen:Nat):∀ (rs:List Rc) (p:Nat) (D:Dm),(Dm.lay first gen p rs D).1=0\/(Dm.lay first gen p rs D).1=4
 |[],p,D=>D.sync_err
 |r::rs,p,D=>by
  rw [Dm.lay];split
  ·exact Dm.lay_err first gen rs _ _
  ·exact Dm.write_err _ _ _
def RecsIs (T:Sm) (rs:List Rc):Prop:=∃ (xs:List Pk) (ys:List Ky) (es:List (ElP T.own)) (fs:List (ElK T.floor)),(EsP T.own xs es/\xs.Pairwise ltP/\(∀ x,x∈xs↔x.ok/\(T.own x).isSome=true)/\EsK T.floor ys fs/\ys.Pairwise ltK/\(∀ x,x∈ys↔x.ok/\(T.floor x).isSome=true))/\rs=recsOf T es fs
theorem RecsIs.unique {T:Sm} {rs rs':List Rc} (h:RecsIs T rs) (h':RecsIs T rs'):rs=rs':=by
 obtain ⟨xs,ys,es,fs,⟨a1,a2,a3,a4,a5,a6⟩,rfl⟩:=h;obtain ⟨xs',ys',es',fs',⟨b1,b2,b3,b4,b5,b6⟩,rfl⟩:=h';exact di8 a1 a2 a3 a4 a5 a6 b1 b2 b3 b4 b5 b6
open Classical in
noncomputable def Sm.recs (T:Sm):List Rc:=if h:∃ rs,RecsIs T rs then h.choose else []
theorem RecsIs.recs {T:Sm} {rs:List Rc} (h:RecsIs T rs):T.recs=rs:=by
 have hx:∃ rs,RecsIs T rs:=⟨rs,h⟩;unfold Sm.recs;rw [dif_pos hx];exact hx.choose_spec.unique h
structure Jm where
 D:Dm
 first:Nat
 size:Nat
 gen:Nat
 len:Nat
 laid:Bool
def beginB (gen id:Nat):List UInt8:=u8s (Rm.bytes ⟨1,gen,0,id,0,0,false,0,0⟩)
def Jm.compact (J:Jm) (id:Nat) (rs:List Rc):Int×Jm:=
 if J.size<rs.length+2 then (5,J)
 else
  let x:Int×Dm:=if J.laid=true then (0,J.D) else Dm.lay (J.size - J.first) ((J.gen+1) % 4294967296) 1 rs J.D
  if x.1≠0 then (x.1,{ J with D:=x.2 })
  else
   let y:=x.2.put (J.size - J.first) (beginB ((J.gen+1) % 4294967296) id)
   if y.1≠0 then (y.1,{ J with D:=y.2,laid:=true })
   else (0,⟨y.2,J.size - J.first,J.size,(J.gen+1) % 4294967296,rs.length,false⟩)
noncomputable def Jm.append (J:Jm) (id:Nat) (T:Sm) (r:Rc):Int×Jm×Sm:=
 let c:Int×Jm:=if J.size<=1+J.len then J.compact id T.recs else (0,J)
 if c.1≠0 then (c.1,c.2,T)
 else
  let y:=c.2.D.put (c.2.first+(1+c.2.len)) (u8s (Rm.bytes (inAt c.2.gen (1+c.2.len) r)))
  if y.1≠0 then (y.1,{ c.2 with D:=y.2 },T) else (0,{ c.2 with D:=y.2,len:=c.2.len+1 },app T r)
structure Jm.Ok (J:Jm):Prop where
 fit:J.first+J.size<=J.D.n
 fit2:J.size - J.first+J.size<=J.D.n
 le:J.first<=J.size
 len:J.len<J.size
 big:2<=J.size
 gen:J.gen<4294967296
 n:J.D.n<=512
theorem Jm.compact_ok {J:Jm} (h:J.Ok) (id:Nat) (rs:List Rc):(J.compact id rs).2.Ok:=by
 unfold Jm.compact;split
 ·exact h
 ·dsimp only
  have h1:=h.fit;have h2:=h.fit2;have h3:=h.le;have hx:((if J.laid=true then (0,J.D) else Dm.lay (J.size - J.first) ((J.gen+1) % 4294967296) 1 rs J.D:Int×Dm)).2.n=J.D.n:=by
   split
   ·rfl
   ·exact Dm.lay_n _ _ _ _ _
  generalize (if J.laid=true then (0,J.D) else Dm.lay (J.size - J.first) ((J.gen+1) % 4294967296) 1 rs J.D:Int×Dm)=x at*;split
  ·exact ⟨by rw [hx]; exact h1,by rw [hx]; exact h2,h.le,h.len,h.big,h.gen,by rw [hx]; exact h.n⟩
  ·have hy:=Dm.put_n x.2 (J.size - J.first) (beginB ((J.gen+1) % 4294967296) id)
   generalize x.2.put (J.size - J.first) (beginB ((J.gen+1) % 4294967296) id)=y at*;split
   ·exact ⟨by show _<=y.2.n; rw [hy,hx]; exact h1,by show _<=y.2.n; rw [hy,hx]; exact h2,h.le,h.len,h.big,h.gen,by show y.2.n<=_; rw [hy,hx]; exact h.n⟩
   ·refine ⟨by show _<=y.2.n; rw [hy,hx]; show J.size - J.first+J.size<=_; omega,by show _<=y.2.n; rw [hy,hx]; show J.size - (J.size - J.first)+J.size<=_; omega,Nat.sub_le _ _,by show rs.length<J.size; omega,h.big,Nat.mod_lt _ (by decide),by show y.2.n<=_; rw [hy,hx]; exact h.n⟩
theorem Dm.write_no {D:Dm} (h:D.well=0) (i:Nat) (bs:List UInt8):D.write i bs=(4,{ D with well:=-1 }):=if_pos h
theorem Dm.write_go {D:Dm} (h:D.well≠0) (i:Nat) (bs:List UInt8):D.write i bs=(0,{ D with wn:=updD D.wn i bs,well:=dec D.well }):=if_neg h
theorem Dm.sync_no {D:Dm} (h:D.well=0):D.sync=(4,{ D with well:=-1 }):=if_pos h
theorem Dm.sync_go {D:Dm} (h:D.well≠0):D.sync=(0,{ D with safe:=synced D.safe D.wn,wn:=fun _=>none,well:=dec D.well }):=if_neg h
theorem Dm.put_no {D:Dm} (h:D.well=0) (i:Nat) (bs:List UInt8):D.put i bs=(4,{ D with well:=-1 }):=by
 unfold Dm.put;rw [Dm.write_no h,if_neg (show ¬ (4:Int)=0 by decide)]
theorem Dm.put_one {D:Dm} (h:D.well=1) (i:Nat) (bs:List UInt8):D.put i bs=(4,{ D with wn:=updD D.wn i bs,well:=-1 }):=by
 unfold Dm.put;rw [Dm.write_go G,if_pos rfl,Dm.sync_no (by show dec D.well=0; rw [h]; decide)]
theorem Dm.put_go {D:Dm} (h:D.well≠0) (h1:dec D.well≠0) (i:Nat) (bs:List UInt8):D.put i bs=(0,{ D with safe:=synced D.safe (updD D.wn i bs),wn:=fun _=>none,well:=dec (dec D.well) }):=by
 unfold Dm.put;rw [Dm.write_go h,if_pos rfl,Dm.sync_go h1]
theorem cw6 {z:Int} (h0:z≠0) (h1:z≠1):dec z≠0:=by unfold dec; split<;>omega
section
variable {w w':World} {d S M:Nat} {D:Dm}
theorem Dq.same {n:Nat} {safe:Nat->List UInt8} {wn:Int->Option (List UInt8)} {well:Int} (h:Dk w d S M n safe wn well) {D:Dm} (e:D=⟨n,safe,wn,well⟩):Dq w d S M D:=by subst e; exact h
theorem Dq.held (h:Dq w d S M D) (hb:Below w.heap.size w w'):Dq w' d S M D:=Dk.held h hb
theorem Dq.turn {L:List Nat} (h:Dq w d S M D) (t:Turn L w w') (h1:d∉L) (h2:S∉L) (h3:M∉L):Dq w' d S M D:=Dk.turn h t h1 h2 h3
theorem Dq.at {z:Int} (h:Dq w d S M D) (e:D.well=z):Dk w d S M D.n D.safe D.wn z:=by subst e; exact h
theorem dx4 (h:Dq w d S M D) {first size gen place:Nat} {z:Int} (hz:z=(place:Int)) (hi:first+place<D.n) {k:Int} {g l id a:Nat} {len:Int} {on:Bool} {s m:Nat} (hf:(⟨k,gen,place,id,a,len,on,s,m⟩:Rc).Fits) (hr:right ⟨k,gen,place,id,a,len,on,s,m⟩=true) {X:Int×Dm} (hX:D.write (first+place) (u8s (Rm.bytes ⟨k,gen,place,id,a,len,on,s,m⟩))=X):
  Q 147 #[.agg #[K d,I first,I size,U gen],I z,.agg #[I k,U g,U l,U id,U a,I len,O on,U s,V m]] w fun e w'=>e= .returned (I X.1)/\Dq w' d S M X.2/\Turn [d,M] w w':=by
 subst hz hX;by_cases h0:D.well=0
 ·rw [Dm.write_no h0]
  exact dm0 (h.at h0) hi hf hr
 ·rw [Dm.write_go h0,Int.natCast_add]
  exact bu4 h h0 hi hf hr
theorem ea2 (h:Dq w d S M D) {X:Int×Dm} (hX:D.sync=X):
  Q 148 #[K d] w fun e w'=>e= .returned (I X.1)/\Dq w' d S M X.2/\Turn [d,S,M] w w':=by
 subst hX;by_cases h0:D.well=0
 ·rw [Dm.sync_no h0]
  exact dm4 (h.at h0)
 ·rw [Dm.sync_go h0]
  exact cz3 h h0
theorem dy4 (h:Dq w d S M D) {first size gen place:Nat} {z:Int} (hz:z=(place:Int)) (hi:first+place<D.n) {k:Int} {g l id a:Nat} {len:Int} {on:Bool} {s m:Nat} (hf:(⟨k,gen,place,id,a,len,on,s,m⟩:Rc).Fits) (hr:right ⟨k,gen,place,id,a,len,on,s,m⟩=true) {X:Int×Dm} (hX:D.put (first+place) (u8s (Rm.bytes ⟨k,gen,place,id,a,len,on,s,m⟩))=X):
  Q 114 #[.agg #[K d,I first,I size,U gen],I z,.agg #[I k,U g,U l,U id,U a,I len,O on,U s,V m]] w fun e w'=>e= .returned (I X.1)/\Dq w' d S M X.2/\Turn [d,S,M] w w':=by
 subst hz hX;by_cases h0:D.well=0
 ·rw [Dm.put_no h0]
  exact dn9 (h.at h0) hi hf hr
 ·by_cases h1:D.well=1
  ·rw [Dm.put_one h1,Int.natCast_add]
   exact dn8 (h.at h1) hi hf hr
  ·rw [Dm.put_go h0 (cw6 h0 h1),Int.natCast_add]
   exact bq8 h h0 (cw6 h0 h1) hi hf hr
theorem bn6 {tS:TypeId} {XS:List Value} {lb:Nat} {o fl:Option Nat} {id lease cn cm:Nat} {own:Pk->Option Bool} {floor:Ky->Option (Nat×Nat)} (hS:St tS XS w lb o fl id lease cn cm own floor) (h:Dq w d S M D) {first size gen:Nat} (hi:first<D.n) (hg:gen<4294967296) (h0:0<id) (h1:id<4294967296) {X:Int×Dm} (hX:D.put first (beginB gen id)=X):
  Q 141 #[K lb,.agg #[K d,I first,I size,U gen]] w fun e w'=>e= .returned (I X.1)/\Dq w' d S M X.2/\Turn [d,S,M] w w':=by
 subst hX;have e:((first:Nat):Int)=(first:Int)+(0:Nat):=G
 by_cases q0:D.well=0
 ·rw [Dm.put_no q0]
  exact dl5 hS (h.at q0) hi hg h0 h1
 ·by_cases q1:D.well=1
  ·rw [Dm.put_one q1]
   refine (dl4 hS (h.at q1) hi hg h0 h1).mono fun e w' ⟨h1,h2,h3⟩=>⟨h1,?_,h3⟩
   refine Dq.same h2 ?_;rw [show ((first:Int)+(0:Nat))=((first:Nat):Int) by omega];rfl
  ·rw [Dm.put_go q0 (cw6 q0 q1)]
   refine (ca3 hS h q0 (cw6 q0 q1) hi hg h0 h1).mono fun e w' ⟨h1,h2,h3⟩=>⟨h1,?_,h3⟩
   refine Dq.same h2 ?_;rw [show ((first:Int)+(0:Nat))=((first:Nat):Int) by omega];rfl
theorem gj_lay (h:Dq w d S M D) {first size gen len cap:Nat} {a:Option Addr} {rs:List Rc} (hl:rs.length=len) (hlc:len<=cap) (hA:0<len->∃ b off,a=some ⟨b,off,none⟩) (hR:∀ b off,a=some ⟨b,off,none⟩->Recs w b off rs/\b<w.heap.size/\b∉[d,M])
  (hF:∀ r∈rs,right2 r=true/\r.Fits) (hi:first+len<D.n) (hn:D.n<=512) (hg:gen<4294967296) {X:Int×Dm} (hX:Dm.lay first gen 1 rs D=X):
  Q 146 #[.agg #[K d,I first,I size,U gen],.slice a len cap] w fun e w'=>e= .returned (I X.1)/\Dq w' d S M X.2/\Turn [d,S,M] w w':=by
 have hlt:=Dk.head h|>.lt
 have hltM:=Dk.map h|>.lt
 obtain ⟨hb,hP⟩:=nw w 109 #[K d,I first,I size,U gen];go_enter Tryz.func146,Tryz.ntmps146;have hD0:=h.held hb;have hRw:∀ b off,a=some ⟨b,off,none⟩->Recs (w.alloc (.cells #[K d,I first,I size,U gen] 109)) b off rs/\b<w.heap.size/\b∉[d,M]:=fun b off e=>⟨(hR b off e).1.held hb,(hR b off e).2⟩
 have HB:=Z hb;have HX:=Z hX;clear h hR hb hX;go_wp2_with fail;generalize w.alloc _=W at*;have hwW:w.heap.size<W.heap.size:=hP.lt;go_loopw [10] (fun i wr=>∃ (k:Nat) (Dz:Dm),k<=len/\i= I k/\Dq wr d S M Dz/\Turn [d,M] W wr/\Hid (Dm.lay first gen (1+k) (rs.drop k) Dz=X/\Dz.n=D.n)) (fun i _=>len - (intOf i).toNat)
 case atStart=>exact ⟨0,D,G,rfl,hD0,Turn.refl _ _,Z ⟨HX.out,rfl⟩⟩
 case round=>
  obtain ⟨k,Dz,hk,rfl,hD,hT,HZ⟩:=hrel;have hP2:=hP.turn hT (by simp; omega);have c0:=hP2.at_ 0;have c1:=hP2.at_ 1;have c2:=hP2.at_ 2;have c3:=hP2.at_ 3;by_cases hlt2:k<len
  ·obtain ⟨b,off,rfl⟩:=hA G
   obtain ⟨hRk0,hbl,hbn⟩:=hRw b off rfl;have hk':k<rs.length:=G
   have hRk:=hRk0.of_block (hT.block b G hbn);obtain ⟨hr2,hfit⟩:=hF rs[k] (List.getElem_mem hk');have hzn:=HZ.out.2;have hstep:=HZ.out.1;rw [List.drop_eq_getElem_cons hk',Dm.lay] at hstep;generalize hrk:rs[k]=r at*;have hfi:=du1 (gen:=gen) (place:=1+k) hfit hg G;have hri:=de1 (gen:=gen) (place:=1+k) hr2;obtain ⟨kd,g,l,rid,ra,rn,on,s,m⟩:=r;obtain ⟨Y,hY⟩:=ey (Dz.write (first+(1+k)) (u8s (Rm.bytes (inAt gen (1+k) ⟨kd,g,l,rid,ra,rn,on,s,m⟩))));have hYn:Y.2.n=D.n:=by rw [<- hY,Dm.write_n,hzn]
   rw [hY] at hstep;obtain ⟨e0,e1,e2,e3,e4,e5,e6,e7,e8⟩:=hRk.cells hk' hrk;have hbb:=aa0 wr (.cells #[I kd,U g,U l,U rid,U ra,I rn,O on,U s,V m] 160);have HWr:=dx4 (hD.held hbb) (first:=first) (size:=size) (gen:=gen) (place:=1+k) (z:=1+(k:Int)) (by push_cast; rfl) G (g:=g) (l:=l) hfi hri hY;have hP3:=hP2.held hbb;have p0:=hP3.at_ 0;have p1:=hP3.at_ 1;have p2:=hP3.at_ 2;have p3:=hP3.at_ 3;have herr:Y.1=0\/Y.1=4:=by rw [<- hY]; exact Dm.write_err _ _ _
   obtain ⟨yc,yD⟩:=Y;simp only at herr hYn;rcases herr with rfl|rfl
   ·rw [if_pos rfl] at hstep
    have HH:=H4 hT hbb hstep hYn;clear hD hT hP2 hP3 c0 c1 c2 c3 hRk hRk0 hr2 hfit hrk hfi hri hbb hF hRw hA hD0 hY hzn hstep hYn;go_wp2_with fail;refine HWr.mono ?_;rintro e x1 ⟨rfl,hD1,hT1⟩;have hT2:=(HH.out.1.and_below HH.out.2.1).trans hT1;have HZ2:Hid (Dm.lay first gen (1+(k+1)) (rs.drop (k+1)) yD=X/\yD.n=D.n):=Z ⟨by rw [show 1+(k+1)=1+k+1 by omega]; exact HH.out.2.2.1,HH.out.2.2.2⟩;clear HWr hT1 HH e0 e1 e2 e3 e4 e5 e6 e7 e8 p0 p1 p2 p3 HZ;go_wp2_with fail;go_roundw
    case rel=>exact ⟨k+1,yD,G,by go_num,hD1,hT2,HZ2⟩
    case measure=>simp [intOf]; omega
   ·rw [if_neg (show ¬ (4:Int)=0 by decide)] at hstep
    subst hstep;have HH:=H3 hT hbb hYn;clear hD hT hP2 hP3 c0 c1 c2 c3 hRk hRk0 hr2 hfit hrk hfi hri hbb hF hRw hA hD0 hY hzn hYn;go_wp2_with fail;refine HWr.mono ?_;rintro e x1 ⟨rfl,hD1,hT1⟩;have hT2:=(Turn.of_below [d,S,M] HB.out).trans (((HH.out.1.and_below HH.out.2.1).trans hT1).mono sn);clear HWr hT1 HH e0 e1 e2 e3 e4 e5 e6 e7 e8 p0 p1 p2 p3 HZ;go_wp2_with fail;go_ret;exact ⟨rfl,hD1,hT2⟩
  ·obtain rfl:k=len:=G
   have hstep:=HZ.out.1;rw [List.drop_eq_nil_of_le G,Dm.lay] at hstep;have hS:=ea2 hD hstep;have hTT:=(Turn.of_below [d,S,M] HB.out).trans (hT.mono sn);clear hRw hA hF hD0 hD hT hP2 hstep;go_wp2_with fail;refine hS.mono ?_;rintro e x1 ⟨rfl,hD1,hT1⟩;have hTT2:=hTT.trans hT1;go_wp2_with fail;go_ret;exact ⟨rfl,hD1,hTT2⟩
end
variable {tL:TypeId} {YS:List Value}
theorem cf0 {d first size gen:Nat} (h1:first<=size) (h2:size<=1000) (_:gen<4294967296) (w:World):
  Q 145 #[.agg #[K d,I first,I size,U gen]] w (Rr0 w (.agg #[K d,I ((size - first:Nat):Int),I size,U (((gen+1) % 4294967296:Nat):Int)])):=by
 have hws:IntKind.i64.wrap ((size:Int) - (first:Int))=((size - first:Nat):Int):=by simp only [IntKind.wrap,IntKind.bits,IntKind.signed]; simp; omega
 have hwg:IntKind.u32.wrap ((gen:Int)+1)=(((gen+1) % 4294967296:Nat):Int):=by simp only [IntKind.wrap,IntKind.bits,IntKind.signed]; simp
 go_enter Tryz.func145,Tryz.ntmps145;generalize size - first=sf at*;generalize (gen+1) % 4294967296=g1 at*;go_wp2_with fail;refine bodyPost_ret (v:= .agg #[K d,I sf,I size,U g1]) ?_ rfl ⟨rfl,next (aa0 _ _) (aa0 _ _)⟩;simp [results,Tryz.results145,go_sem]
theorem cy9 {T:Sm} {w:World} {o fl:Option Nat} {cn cm:Nat} {xs:List Pk} {ys:List Ky} {es:List (ElP T.own)} {fs:List (ElK T.floor)} (ho:Mo pkE w o cn (fun x=>(T.own x).map ownV)) (hf:Mo kyE w fl cm (fun x=>(T.floor x).map dV))
  (hE:EsP T.own xs es) (hxs:xs.Pairwise ltP) (hx:∀ x,x∈xs↔x.ok/\(T.own x).isSome=true) (hE2:EsK T.floor ys fs) (hys:ys.Pairwise ltK) (hy:∀ x,x∈ys↔x.ok/\(T.floor x).isSome=true):cn+cm<=(recsOf T es fs).length/\(recsOf T es fs).length<=cn+cm+1:=by
 have nd1:xs.Nodup:=hxs.imp fun {a b} h e=>by subst e; exact bg3 _ _ h h
 have nd2:ys.Nodup:=hys.imp fun {a b} h e=>by subst e; exact bu0 _ _ h h
 have l1:es.length=xs.length:=by rw [<- show es.map (·.key)=xs from hE,List.length_map]
 have l2:fs.length=ys.length:=by rw [<- show fs.map (·.key)=ys from hE2,List.length_map]
 have k1:cn=xs.length:=by
  cases o with
  |none=>
   have h0:=ho.1;have:xs=[]:=List.eq_nil_iff_forall_not_mem.2 fun k hk=>by have h1:=((hx k).1 hk).2; have h2:(T.own k).map ownV=none:=ho.2 k; rw [<- Option.isSome_map (f:=ownV),h2] at h1; cases h1
   rw [this,h0]; rfl
  |some b=>exact (Mk.card ho nd1 fun k=>(hx k).trans (by rw [Option.isSome_map]; exact Iff.rfl)).symm
 have k2:cm=ys.length:=by
  cases fl with
  |none=>
   have h0:=hf.1;have:ys=[]:=List.eq_nil_iff_forall_not_mem.2 fun k hk=>by have h1:=((hy k).1 hk).2; have h2:(T.floor k).map dV=none:=hf.2 k; rw [<- Option.isSome_map (f:=dV),h2] at h1; cases h1
   rw [this,h0]; rfl
  |some b=>exact (Mk.card hf nd2 fun k=>(hy k).trans (by rw [Option.isSome_map]; exact Iff.rfl)).symm
 have k3:(rL T.lease).length<=1:=by unfold rL; split<;>simp
 unfold recsOf;simp only [List.length_append,List.length_map];omega
section
variable {w w':World} {d S M:Nat} {D:Dm}
theorem dg7 {lb first size gen len:Nat} {laid:Bool} {o fl:Option Nat} {id N:Nat} {T:Sm} (hN:Notes tL (lgX d first size gen len laid++YS) w lb o fl id N T) (h:Dq w d S M D) (hdis:∀ x,x∈fp lb o fl->x∉[d,S,M])
  (hgood:GoodSm T) (hJ:Jm.Ok ⟨D,first,size,gen,len,laid⟩) (h0:0<id) (h1:id<4294967296) {X:Int×Jm} (hX:Jm.compact ⟨D,first,size,gen,len,laid⟩ id T.recs=X):
  Q 113 #[K lb] w fun e w'=>e= .returned (I X.1)/\Dq w' d S M X.2.D/\∃ N',Notes tL (lgX d X.2.first X.2.size X.2.gen X.2.len X.2.laid++YS) w' lb o fl id N' T/\(N<=len->N'<=X.2.len)/\Turn [d,S,M,lb] w w':=by
 have HRec:=ds7 hN;obtain ⟨cn,cm,hnm,hS⟩:=hN;obtain ⟨hfit,hfit2,hsf,hlen,hbig,hg,hn512⟩:=hJ;simp only at hfit hfit2 hsf hlen hbig hg hn512;have hsz:size<=1000:=G
 have id_le:N<=len->N<=len:=fun h=>h
 have HH:=H4 h hS hdis hgood;clear h hS hdis hgood;go_enter Tryz.func113,Tryz.ntmps113;go_wp2_with fail;refine HRec.mono ?_;rintro e w1 ⟨v,xs,ys,es,fs,rfl,hE,hxs,hx,hE2,hys,hy,hrow,-,hb1⟩;obtain ⟨h,hS,hdis,hgood⟩:=HH.out;have hrr:=cy8 (es:=es) (fs:=fs) hgood;have hcnt:=cy9 hS.owns hS.floors hE hxs hx hE2 hys hy;have hrec:T.recs=recsOf T es fs:=RecsIs.recs ⟨xs,ys,es,fs,⟨hE,hxs,hx,hE2,hys,hy⟩,rfl⟩;obtain ⟨a2,cap2,rfl,hm2,hc2,hA2,hR2⟩:=dw3 (L:=recsOf T es fs) hrow;have hblk:∀ b off,a2=some ⟨b,off,none⟩->w.heap.size<=b/\b<w1.heap.size:=fun b off e=>by subst e; exact dy8 hrow
 obtain ⟨L,hL⟩:=eX (recsOf T es fs);rw [<- hL] at hrr hm2 hc2 hA2 hR2 hcnt hrec;rw [hrec] at hX;have hbd:=h.held hb1;have hSw1:=hS.held hb1;have HL1:=aj2 hSw1;rw [<- hL];obtain ⟨n3,hn3⟩:=eX L.length;rw [<- hn3] at hm2 hc2 hA2 hcnt ⊢;have hm3:n3<=1000000001:=by have:=hS.counts; omega
 have hw3:IntKind.i64.wrap ((n3:Int)+2)=(n3:Int)+2:=by simp only [IntKind.wrap,IntKind.bits,IntKind.signed]; simp; omega
 have l4:w1.cell? (Aa lb 4)=Np d:=HL1.at_ 4;have l5:w1.cell? (Aa lb 5)=some (I first):=HL1.at_ 5;have l6:w1.cell? (Aa lb 6)=some (I size):=HL1.at_ 6;have l7:w1.cell? (Aa lb 7)=some (U gen):=HL1.at_ 7;have l9:w1.cell? (Aa lb 9)=some (O laid):=HL1.at_ 9;have hbl:=hb1.size;have hltb:=hS.head.lt;unfold Jm.compact at hX;simp only at hX;rw [<- hn3] at hX;have HN3:=Zq hn3;have CNT:=Zq hcnt.1;by_cases hfull:size<n3+2
 ·rw [if_pos hfull] at hX
  subst hX;have hgt:=dT ((size:Int)<(n3:Int)+2);have HB:=Zq (And.intro hb1 (And.intro hbd hSw1));clear hS h hdis hgood hE hxs hx hE2 hys hy hrow hR2 hblk hrr hSw1 HL1 hL hb1 HRec hn3 hA2 hbd hrec hcnt;go_wp2_with fail;go_ret;exact ⟨rfl,HB.out.2.1,N,⟨cn,cm,hnm,HB.out.2.2⟩,id_le,.of_below _ HB.out.1⟩
 have hgt:=df ((size:Int)<(n3:Int)+2);rw [if_neg hfull] at hX;have HO:=cf0 (d:=d) hsf hsz hg w1;obtain ⟨f2,hf2⟩:=eX (size - first);obtain ⟨g2,hg2⟩:∃ g2,g2=(gen+1) % 4294967296:=⟨_,rfl⟩;have hg2b:g2<4294967296:=by rw [hg2]; exact Nat.mod_lt _ (by decide)
 rw [<- hf2,<- hg2] at HO hX;rw [<- hf2] at hfit2;have H1:=H6 hb1 hbd hSw1 hR2 hblk hrr;clear h hS hdis hgood hE hxs hx hE2 hys hy hrow hR2 hblk hrr hbd hSw1 HL1 hL hb1 HRec hf2 hg2 hn3 hrec hcnt;go_wp2_with fail;refine HO.mono ?_;rintro e w2 ⟨rfl,hb2⟩;obtain ⟨hb1,hbd,hSw1,hR2,hblk,hrr⟩:=H1.out;have hb3:=next hb2 (aa0 w2 (.cells #[K d,I f2,I size,U g2] 109));have P3:=Blk.new w2 109 #[K d,I f2,I size,U g2];have hlt:=(Dk.head HH.out.1).lt;have hltM:=(Dk.map HH.out.1).lt;have hltS:=Dk.ltS HH.out.1;have hz2:=hb2.size;have hS3:=hSw1.held hb3;have hD3:=hbd.held hb3;have hdis:=HH.out.2.2.1;have hl1:=hdis lb (ab6.2 (.inl rfl));simp only [List.mem_cons,List.not_mem_nil,or_false,not_or] at hl1;obtain ⟨hl1,hl2,hl3⟩:=hl1;have hbb3:=next hb1 hb3;have HL3:=aj2 hS3;clear l4 l5 l6 l7 l9 HO hblk hSw1 hbd hb1;have l9:(w2.alloc (.cells #[K d,I f2,I size,U g2] 109)).cell? (Aa lb 9)=some (O laid):=HL3.at_ 9;have hblk:=H1.out.2.2.2.2.1
 cases laid with
 |true=>
  simp only [if_true] at hX;rw [if_neg (show ¬ ((0:Int)≠0) by decide)] at hX;have hT5:=Turn.of_below [d,S,M,lb] hbb3;obtain ⟨E,hE⟩:=ey D;have hEn:E.n=D.n:=by rw [hE]
  rw [hE] at hX hD3;clear hE hb3 hbb3 hb2 hR2 hrr hblk H1 HL3 hA2;have hS5:=hS3;have P5:=P3;have hD5:=hD3;clear hS3 P3 hD3;obtain ⟨Z,hZ⟩:=ey (E.put f2 (beginB g2 id));have hZn:Z.2.n=D.n:=by rw [<- hZ,Dm.put_n,hEn]
  rw [hZ] at hX;have HBG:=bn6 hS5 hD5 (size:=size) G hg2b h0 h1 hZ;have herr:Z.1=0\/Z.1=4:=by rw [<- hZ]; exact Dm.put_err _ _ _
  have HL4:=aj2 hS5;have p0:=P5.at_ 0;have p1:=P5.at_ 1;have p2:=P5.at_ 2;have p3:=P5.at_ 3;have H5:=Zq (And.intro hS5 (And.intro P5 hT5));clear hS5 P5 hT5 hD5 hZ hEn;obtain ⟨zc,zD⟩:=Z;simp only at herr hZn hX;rcases herr with rfl|rfl
  ·rw [if_neg (show ¬ ((0:Int)≠0) by decide)] at hX
   subst hX;clear HL4;go_wp2_with fail;refine HBG.mono ?_;rintro e w6 ⟨rfl,hD6,hT6⟩;obtain ⟨hS5,P5,hT5⟩:=H5.out;have hS6:=hS5.turn hT6 hdis;have HL6:=aj2 hS6;have hz5:=hT5.size;have P6:=P5.turn hT6 (by simp; omega);clear p0 p1 p2 p3 HBG;have l4:w6.cell? (Aa lb 4)=Np d:=HL6.at_ 4;have f4:=HL6.free 4;have l5:w6.cell? (Aa lb 5)=some (I first):=HL6.at_ 5;have f5:=HL6.free 5;have l6:w6.cell? (Aa lb 6)=some (I size):=HL6.at_ 6;have f6:=HL6.free 6;have l7:w6.cell? (Aa lb 7)=some (U gen):=HL6.at_ 7;have f7:=HL6.free 7;have l8:w6.cell? (Aa lb 8)=some (I len):=HL6.at_ 8;have f8:=HL6.free 8;have l9:w6.cell? (Aa lb 9)=some (O true):=HL6.at_ 9;have f9:=HL6.free 9;have p0:=P6.at_ 0;have p1:=P6.at_ 1;have p2:=P6.at_ 2;have p3:=P6.at_ 3;have far:∀ b,b≠lb->((((((w6.setCell (Aa lb 4) (K d)).setCell (Aa lb 5) (I f2)).setCell (Aa lb 6) (I size)).setCell (Aa lb 7) (U g2)).setCell (Aa lb 8) (I n3)).setCell (Aa lb 9) (O false)).heap[b]?=w6.heap[b]?:=fun b hb=>by
    rw [Below.heap_setCell _ _ _ _ hb,Below.heap_setCell _ _ _ _ hb,Below.heap_setCell _ _ _ _ hb,Below.heap_setCell _ _ _ _ hb,Below.heap_setCell _ _ _ _ hb,Below.heap_setCell _ _ _ _ hb]
   have hS7:St tL (lgX d f2 size g2 n3 false++YS) ((((((w6.setCell (Aa lb 4) (K d)).setCell (Aa lb 5) (I f2)).setCell (Aa lb 6) (I size)).setCell (Aa lb 7) (U g2)).setCell (Aa lb 8) (I n3)).setCell (Aa lb 9) (O false)) lb o fl id T.lease cn cm T.own T.floor:=
    ⟨((((((HL6.store 4 (K d)).store 5 (I f2)).store 6 (I size)).store 7 (U g2)).store 8 (I n3)).store 9 (O false)),hS6.owns.of_block (fun b hb=>far b (Ne.symm (hS6.head_ne (.inl hb)))),hS6.floors.of_block (fun b hb=>far b (Ne.symm (hS6.head_ne (.inr hb)))),hS6.apart,hS6.small,hS6.lease_lt,hS6.counts⟩
   have hD7:Dq ((((((w6.setCell (Aa lb 4) (K d)).setCell (Aa lb 5) (I f2)).setCell (Aa lb 6) (I size)).setCell (Aa lb 7) (U g2)).setCell (Aa lb 8) (I n3)).setCell (Aa lb 9) (O false)) d S M zD:=Dk.of_blocks hD6 (far d G) (far S G) (far M G);have hT7:Turn [d,S,M,lb] w ((((((w6.setCell (Aa lb 4) (K d)).setCell (Aa lb 5) (I f2)).setCell (Aa lb 6) (I size)).setCell (Aa lb 7) (U g2)).setCell (Aa lb 8) (I n3)).setCell (Aa lb 9) (O false)):=(((((((hT5.trans (hT6.mono sn)).trans (Turn.setCell _ (p:=⟨lb,4,none⟩) sn _)).trans (Turn.setCell _ (p:=⟨lb,5,none⟩) sn _)).trans (Turn.setCell _ (p:=⟨lb,6,none⟩) sn _)).trans (Turn.setCell _ (p:=⟨lb,7,none⟩) sn _)).trans (Turn.setCell _ (p:=⟨lb,8,none⟩) sn _)).trans (Turn.setCell _ (p:=⟨lb,9,none⟩) sn _));have H7:=Zq (And.intro hS7 (And.intro hD7 hT7));clear hS5 P5 hT5 hS6 HL6 P6 far hS7 hD7 hT7 hD6 hT6 H5;go_wp2_with fail;go_ret;obtain ⟨hS7,hD7,hT7⟩:=H7.out;refine ⟨rfl,hD7,n3,?_,fun _=>?_,hT7⟩
   ·exact ⟨cn,cm,CNT.out,hS7⟩
   ·exact Nat.le_refl _
  ·rw [if_pos (show (4:Int)≠0 by decide)] at hX
   subst hX;clear HL4;go_wp2_with fail;refine HBG.mono ?_;rintro e w6 ⟨rfl,hD6,hT6⟩;obtain ⟨hS5,P5,hT5⟩:=H5.out;have hS6:=hS5.turn hT6 hdis;have hT7:Turn [d,S,M,lb] w w6:=hT5.trans (hT6.mono sn);have H7:=Zq (And.intro hS6 (And.intro hD6 hT7));clear hS5 P5 hT5 hS6 hT7 hD6 hT6 H5 HBG p0 p1 p2 p3;go_wp2_with fail;go_ret;obtain ⟨hS7,hD7,hT7⟩:=H7.out;exact ⟨rfl,hD7,N,⟨cn,cm,hnm,hS7⟩,id_le,hT7⟩
 |false=>
  simp only [Bool.false_eq_true,if_false] at hX;obtain ⟨Y,hY⟩:=ey (Dm.lay f2 g2 1 L D);have hYn:Y.2.n=D.n:=by rw [<- hY]; exact Dm.lay_n _ _ _ _ _
  rw [hY] at hX;have HLay:=gj_lay hD3 (first:=f2) (size:=size) (gen:=g2) (len:=n3) (cap:=cap2) (a:=a2) (rs:=L) HN3.out.symm hc2 hA2 (fun b off e=>⟨(hR2 b off e).held hb3,by have:=(hblk b off e).2; have:=hb3.size; omega,by have:=(hblk b off e).1; simp; omega⟩) (fun r hr=>⟨(hrr r hr).1,(hrr r hr).2.1⟩) G hn512 hg2b hY;have herr:Y.1=0\/Y.1=4:=by rw [<- hY]; exact Dm.lay_err _ _ _ _ _
  have p0:=P3.at_ 0;have p1:=P3.at_ 1;have p2:=P3.at_ 2;have p3:=P3.at_ 3;have H3:=Zq (And.intro hS3 (And.intro P3 hbb3));clear hS3 P3 HL3 hb2 hb3 hbb3 hrr hblk hR2 hA2 H1 hY hD3;obtain ⟨yc,E⟩:=Y;simp only at herr hYn hX;rcases herr with rfl|rfl
  ·rw [if_neg (show ¬ ((0:Int)≠0) by decide)] at hX
   go_wp2_with fail;generalize w2.alloc _=w3 at*;refine HLay.mono ?_;rintro e w4 ⟨rfl,hD4,hT4⟩;obtain ⟨hS3,P3,hb3⟩:=H3.out;have hS4:=hS3.turn hT4 hdis;have HL4:=aj2 hS4;have P4:=P3.turn hT4 (by simp; omega);have hS5:St tL (lgX d first size gen len true++YS) (w4.setCell (Aa lb 9) (O true)) lb o fl id T.lease cn cm T.own T.floor:=
    ⟨HL4.store 9 (O true),hS4.owns.of_block (fun b hb=>Below.heap_setCell _ _ _ _ (Ne.symm (hS4.head_ne (.inl hb)))),hS4.floors.of_block (fun b hb=>Below.heap_setCell _ _ _ _ (Ne.symm (hS4.head_ne (.inr hb)))),hS4.apart,hS4.small,hS4.lease_lt,hS4.counts⟩
   have P5:Blk 109 (w4.setCell (Aa lb 9) (O true)) w2.heap.size #[K d,I f2,I size,U g2]:=(Below.heap_setCell _ _ _ _ (by show w2.heap.size≠lb; omega)).trans P4;have hD5:Dq (w4.setCell (Aa lb 9) (O true)) d S M E:=Dk.of_blocks hD4 (Below.heap_setCell _ _ _ _ (by show d≠lb; omega)) (Below.heap_setCell _ _ _ _ (by show S≠lb; omega)) (Below.heap_setCell _ _ _ _ (by show M≠lb; omega));have hT5:Turn [d,S,M,lb] w (w4.setCell (Aa lb 9) (O true)):=((Turn.of_below _ hb3).trans (hT4.mono sn)).trans (Turn.setCell _ (p:=⟨lb,9,none⟩) sn _);have hEn:E.n=D.n:=hYn;clear l9 p0 p1 p2 p3 HLay;have l9:w4.cell? (Aa lb 9)=some (O false):=HL4.at_ 9;have f9:=HL4.free 9;clear hS3 hS4 P3 P4 hT4 hD4 H3 HL4 hYn;obtain ⟨Z,hZ⟩:=ey (E.put f2 (beginB g2 id));have hZn:Z.2.n=D.n:=by rw [<- hZ,Dm.put_n,hEn]
   rw [hZ] at hX;have HBG:=bn6 hS5 hD5 (size:=size) G hg2b h0 h1 hZ;have herr:Z.1=0\/Z.1=4:=by rw [<- hZ]; exact Dm.put_err _ _ _
   have HL4:=aj2 hS5;have p0:=P5.at_ 0;have p1:=P5.at_ 1;have p2:=P5.at_ 2;have p3:=P5.at_ 3;have H5:=Zq (And.intro hS5 (And.intro P5 hT5));clear hS5 P5 hT5 hD5 hZ hEn;obtain ⟨zc,zD⟩:=Z;simp only at herr hZn hX;rcases herr with rfl|rfl
   ·rw [if_neg (show ¬ ((0:Int)≠0) by decide)] at hX
    subst hX;clear HL4;go_wp2_with fail;refine HBG.mono ?_;rintro e w6 ⟨rfl,hD6,hT6⟩;obtain ⟨hS5,P5,hT5⟩:=H5.out;have hS6:=hS5.turn hT6 hdis;have HL6:=aj2 hS6;have hz5:=hT5.size;have P6:=P5.turn hT6 (by simp; omega);clear p0 p1 p2 p3 HBG;have l4:w6.cell? (Aa lb 4)=Np d:=HL6.at_ 4;have f4:=HL6.free 4;have l5:w6.cell? (Aa lb 5)=some (I first):=HL6.at_ 5;have f5:=HL6.free 5;have l6:w6.cell? (Aa lb 6)=some (I size):=HL6.at_ 6;have f6:=HL6.free 6;have l7:w6.cell? (Aa lb 7)=some (U gen):=HL6.at_ 7;have f7:=HL6.free 7;have l8:w6.cell? (Aa lb 8)=some (I len):=HL6.at_ 8;have f8:=HL6.free 8;have l9:w6.cell? (Aa lb 9)=some (O true):=HL6.at_ 9;have f9:=HL6.free 9;have p0:=P6.at_ 0;have p1:=P6.at_ 1;have p2:=P6.at_ 2;have p3:=P6.at_ 3;have far:∀ b,b≠lb->((((((w6.setCell (Aa lb 4) (K d)).setCell (Aa lb 5) (I f2)).setCell (Aa lb 6) (I size)).setCell (Aa lb 7) (U g2)).setCell (Aa lb 8) (I n3)).setCell (Aa lb 9) (O false)).heap[b]?=w6.heap[b]?:=fun b hb=>by
     rw [Below.heap_setCell _ _ _ _ hb,Below.heap_setCell _ _ _ _ hb,Below.heap_setCell _ _ _ _ hb,Below.heap_setCell _ _ _ _ hb,Below.heap_setCell _ _ _ _ hb,Below.heap_setCell _ _ _ _ hb]
    have hS7:St tL (lgX d f2 size g2 n3 false++YS) ((((((w6.setCell (Aa lb 4) (K d)).setCell (Aa lb 5) (I f2)).setCell (Aa lb 6) (I size)).setCell (Aa lb 7) (U g2)).setCell (Aa lb 8) (I n3)).setCell (Aa lb 9) (O false)) lb o fl id T.lease cn cm T.own T.floor:=
     ⟨((((((HL6.store 4 (K d)).store 5 (I f2)).store 6 (I size)).store 7 (U g2)).store 8 (I n3)).store 9 (O false)),hS6.owns.of_block (fun b hb=>far b (Ne.symm (hS6.head_ne (.inl hb)))),hS6.floors.of_block (fun b hb=>far b (Ne.symm (hS6.head_ne (.inr hb)))),hS6.apart,hS6.small,hS6.lease_lt,hS6.counts⟩
    have hD7:Dq ((((((w6.setCell (Aa lb 4) (K d)).setCell (Aa lb 5) (I f2)).setCell (Aa lb 6) (I size)).setCell (Aa lb 7) (U g2)).setCell (Aa lb 8) (I n3)).setCell (Aa lb 9) (O false)) d S M zD:=Dk.of_blocks hD6 (far d G) (far S G) (far M G);have hT7:Turn [d,S,M,lb] w ((((((w6.setCell (Aa lb 4) (K d)).setCell (Aa lb 5) (I f2)).setCell (Aa lb 6) (I size)).setCell (Aa lb 7) (U g2)).setCell (Aa lb 8) (I n3)).setCell (Aa lb 9) (O false)):=(((((((hT5.trans (hT6.mono sn)).trans (Turn.setCell _ (p:=⟨lb,4,none⟩) sn _)).trans (Turn.setCell _ (p:=⟨lb,5,none⟩) sn _)).trans (Turn.setCell _ (p:=⟨lb,6,none⟩) sn _)).trans (Turn.setCell _ (p:=⟨lb,7,none⟩) sn _)).trans (Turn.setCell _ (p:=⟨lb,8,none⟩) sn _)).trans (Turn.setCell _ (p:=⟨lb,9,none⟩) sn _));have H7:=Zq (And.intro hS7 (And.intro hD7 hT7));clear hS5 P5 hT5 hS6 HL6 P6 far hS7 hD7 hT7 hD6 hT6 H5;go_wp2_with fail;go_ret;obtain ⟨hS7,hD7,hT7⟩:=H7.out;refine ⟨rfl,hD7,n3,?_,fun _=>?_,hT7⟩
    ·exact ⟨cn,cm,CNT.out,hS7⟩
    ·exact Nat.le_refl _
   ·rw [if_pos (show (4:Int)≠0 by decide)] at hX
    subst hX;clear HL4;go_wp2_with fail;refine HBG.mono ?_;rintro e w6 ⟨rfl,hD6,hT6⟩;obtain ⟨hS5,P5,hT5⟩:=H5.out;have hS6:=hS5.turn hT6 hdis;have hT7:Turn [d,S,M,lb] w w6:=hT5.trans (hT6.mono sn);have H7:=Zq (And.intro hS6 (And.intro hD6 hT7));clear hS5 P5 hT5 hS6 hT7 hD6 hT6 H5 HBG p0 p1 p2 p3;go_wp2_with fail;go_ret;obtain ⟨hS7,hD7,hT7⟩:=H7.out;exact ⟨rfl,hD7,N,⟨cn,cm,hnm,hS7⟩,id_le,hT7⟩
  ·rw [if_pos (show (4:Int)≠0 by decide)] at hX
   subst hX;go_wp2_with fail;generalize w2.alloc _=w3 at*;refine HLay.mono ?_;rintro e w4 ⟨rfl,hD4,hT4⟩;obtain ⟨hS3,P3,hb3⟩:=H3.out;have hS4:=hS3.turn hT4 hdis;have hT5:Turn [d,S,M,lb] w w4:=(Turn.of_below _ hb3).trans (hT4.mono sn);have H7:=Zq (And.intro hS4 (And.intro hD4 hT5));clear hS3 hS4 P3 hT4 hD4 H3 hT5 HLay p0 p1 p2 p3 l9 hb3;go_wp2_with fail;go_ret;exact ⟨rfl,H7.out.2.1,N,⟨cn,cm,hnm,H7.out.1⟩,id_le,H7.out.2.2⟩
end
variable {tL:TypeId} {YS:List Value}
theorem Jm.compact_err (J:Jm) (id:Nat) (rs:List Rc):(J.compact id rs).1=0\/(J.compact id rs).1=4\/(J.compact id rs).1=5:=by
 unfold Jm.compact;split
 ·exact .inr (.inr rfl)
 ·dsimp only
  have hx:((if J.laid=true then (0,J.D) else Dm.lay (J.size - J.first) ((J.gen+1) % 4294967296) 1 rs J.D:Int×Dm)).1=0\/((if J.laid=true then (0,J.D) else Dm.lay (J.size - J.first) ((J.gen+1) % 4294967296) 1 rs J.D:Int×Dm)).1=4:=by
   split
   ·exact .inl rfl
   ·exact Dm.lay_err _ _ _ _ _
  generalize (if J.laid=true then (0,J.D) else Dm.lay (J.size - J.first) ((J.gen+1) % 4294967296) 1 rs J.D:Int×Dm)=x at*;split
  ·rcases hx with h|h
   ·contradiction
   ·exact .inr (.inl h)
  ·have hy:=Dm.put_err x.2 (J.size - J.first) (beginB ((J.gen+1) % 4294967296) id)
   generalize x.2.put (J.size - J.first) (beginB ((J.gen+1) % 4294967296) id)=y at*;split
   ·rcases hy with h|h
    ·contradiction
    ·exact .inr (.inl h)
   ·exact .inl rfl
theorem Jm.compact_room {J:Jm} {id:Nat} {rs:List Rc} {X:Int×Jm} (hX:J.compact id rs=X) (h:X.1=0):X.2.len+1<X.2.size:=by
 subst hX;unfold Jm.compact at h ⊢;by_cases hf:J.size<rs.length+2
 ·rw [if_pos hf] at h
  cases h
 ·rw [if_neg hf] at h ⊢
  dsimp only at h ⊢;generalize (if J.laid=true then (0,J.D) else Dm.lay (J.size - J.first) ((J.gen+1) % 4294967296) 1 rs J.D:Int×Dm)=x at*;by_cases h2:x.1≠0
  ·rw [if_pos h2] at h
   exact absurd h h2
  ·rw [if_neg h2] at h ⊢
   generalize x.2.put (J.size - J.first) (beginB ((J.gen+1) % 4294967296) id)=y at*;by_cases h3:y.1≠0
   ·rw [if_pos h3] at h
    exact absurd h h3
   ·rw [if_neg h3]
    show rs.length+1<J.size;omega
noncomputable def Jm.more (J:Jm) (T:Sm) (r:Rc):Int×Jm×Sm:=
 let y:=J.D.put (J.first+(1+J.len)) (u8s (Rm.bytes (inAt J.gen (1+J.len) r)))
 if y.1≠0 then (y.1,{ J with D:=y.2 },T) else (0,{ J with D:=y.2,len:=J.len+1 },app T r)
theorem Jm.append_room {J:Jm} {id:Nat} {T:Sm} {r:Rc} (h:¬ J.size<=1+J.len):J.append id T r=J.more T r:=by
 unfold Jm.append;rw [if_neg h];rfl
theorem Jm.append_no {J:Jm} {id:Nat} {T:Sm} {r:Rc} (h:J.size<=1+J.len) {X:Int×Jm} (hX:J.compact id T.recs=X) (h2:X.1≠0):J.append id T r=(X.1,X.2,T):=by
 unfold Jm.append;rw [if_pos h,hX];dsimp only;rw [if_pos h2]
theorem Jm.append_on {J:Jm} {id:Nat} {T:Sm} {r:Rc} (h:J.size<=1+J.len) {X:Int×Jm} (hX:J.compact id T.recs=X) (h2:X.1=0):J.append id T r=X.2.more T r:=by
 unfold Jm.append;rw [if_pos h,hX];dsimp only;rw [if_neg (by rw [h2]; decide)];rfl
theorem Jm.Ok.withD {J:Jm} (h:J.Ok) {D:Dm} (e:D.n=J.D.n):Jm.Ok { J with D:=D }:=⟨by show _<=D.n; rw [e]; exact h.fit,by show _<=D.n; rw [e]; exact h.fit2,h.le,h.len,h.big,h.gen,by show D.n<=_; rw [e]; exact h.n⟩
theorem Jm.more_ok {J:Jm} (h:J.Ok) (hr:J.len+1<J.size) (T:Sm) (r:Rc):(J.more T r).2.1.Ok:=by
 unfold Jm.more;dsimp only;have hy:=Dm.put_n J.D (J.first+(1+J.len)) (u8s (Rm.bytes (inAt J.gen (1+J.len) r)));generalize J.D.put (J.first+(1+J.len)) (u8s (Rm.bytes (inAt J.gen (1+J.len) r)))=y at*;split
 ·exact h.withD hy
 ·exact ⟨by show _<=y.2.n; rw [hy]; exact h.fit,by show _<=y.2.n; rw [hy]; exact h.fit2,h.le,hr,h.big,h.gen,by show y.2.n<=_; rw [hy]; exact h.n⟩
theorem Jm.append_ok {J:Jm} (h:J.Ok) (id:Nat) (T:Sm) (r:Rc):(J.append id T r).2.1.Ok:=by
 by_cases hf:J.size<=1+J.len
 ·have h1:=Jm.compact_ok h id T.recs
  by_cases h2:(J.compact id T.recs).1=0
  ·rw [Jm.append_on hf rfl h2]
   exact Jm.more_ok h1 (Jm.compact_room rfl h2) T r
  ·rw [Jm.append_no hf rfl h2]
   exact h1
 ·rw [Jm.append_room hf]
  exact Jm.more_ok h G T r
section
variable {w w':World} {d S M:Nat} {D:Dm}
theorem du7 {lb first size gen len:Nat} {laid:Bool} {o fl:Option Nat} {id N:Nat} {T:Sm} (hN:Notes tL (lgX d first size gen len laid++YS) w lb o fl id N T) (hNl:N<=len) (h:Dq w d S M D) (hdis:∀ x,x∈fp lb o fl->x∉[d,S,M])
  (hgood:GoodSm T) (hJ:Jm.Ok ⟨D,first,size,gen,len,laid⟩) (h0:0<id) (h1:id<4294967296) {k:Int} {g l rid a:Nat} {rn:Int} {on:Bool} {s m:Nat} (hf:(⟨k,g,l,rid,a,rn,on,s,m⟩:Rc).Fits) (hr:right ⟨k,g,l,rid,a,rn,on,s,m⟩=true) (hk:k≠1)
  {X:Int×Jm×Sm} (hX:Jm.append ⟨D,first,size,gen,len,laid⟩ id T ⟨k,g,l,rid,a,rn,on,s,m⟩=X):
  Q 82 #[K lb,.agg #[I k,U g,U l,U rid,U a,I rn,O on,U s,V m]] w fun e w'=>e= .returned (I X.1)/\Dq w' d S M X.2.1.D/\
   ∃ o' fl' N',Notes tL (lgX d X.2.1.first X.2.1.size X.2.1.gen X.2.1.len X.2.1.laid++YS) w' lb o' fl' id N' X.2.2/\N'<=X.2.1.len/\Turn ([d,S,M]++fp lb o fl) w w'/\∀ y,y∈fp lb o' fl'->y∈fp lb o fl\/w.heap.size<=y:=by
 obtain ⟨cn,cm,hnm,hS⟩:=hN;have hk1:(k==1)=false:=beq_eq_false_iff_ne.2 hk;obtain ⟨hb,RB⟩:=nw w 160 #[I k,U g,U l,U rid,U a,I rn,O on,U s,V m];go_enter Tryz.func82,Tryz.ntmps82;have HH:=H6 h hS hf hr RB hb;have HRT:=bw7 hf.a hr (w.alloc (.cells #[I k,U g,U l,U rid,U a,I rn,O on,U s,V m] 160));have HDIS:=Zq hdis;have HJ:=Zq (And.intro hJ (And.intro hX (And.intro hgood hnm)));have hlen:len<=1000000000:=by have:=hJ.len; have:=hJ.fit; have:=hJ.n; simp only at*; omega
 have hfl:∀ x,x∈fp lb o fl->x<w.heap.size:=fun x hx=>hS.lt hx
 have hlb:=hS.head.lt;have hlt:=(Dk.head h).lt;have hltM:=(Dk.map h).lt;have hltS:=Dk.ltS h;have hl1:=hdis lb (ab6.2 (.inl rfl));simp only [List.mem_cons,List.not_mem_nil,or_false,not_or] at hl1;obtain ⟨hl1,hl2,hl3⟩:=hl1;have HFL:=Zq hfl;clear h hS hf hr RB hb hdis hk hJ hX hgood hnm hfl;go_wp2_with fail;generalize w.alloc _=W at*;refine HRT.mono ?_;rintro e x1 ⟨rfl,hb1⟩;obtain ⟨h,hS,hf,hr,RB,hb⟩:=HH.out;have hbb:=next hb hb1;have RB1:=RB.held hb1;have hS1:=hS.held hbb;obtain ⟨q,hq⟩:=ey (decide ((size:Int)<=1+(len:Int)));have HF:=cu4 hS1 hlen (q:=q) hq;have r0:=RB1.at_ 0;have H1:=Zq (And.intro hbb (And.intro RB1 hS1));have HQ:=Zq hq;clear h hS hf hr RB hb hbb RB1 hS1 HRT hb1 hq;go_wp2_with fail;refine HF.mono ?_;rintro e x2 ⟨rfl,hb2⟩;obtain ⟨h,hS,hf,hr,RB,hb⟩:=HH.out;obtain ⟨hbb,RB1,hS1⟩:=H1.out;have hbb2:=next hbb hb2;have RB2:=RB1.held hb2;have hN2:Notes tL (lgX d first size gen len laid++YS) x2 lb o fl id N T:=⟨cn,cm,HJ.out.2.2.2,hS1.held hb2⟩;have hD2:=h.held hbb2;have hT2:=Turn.of_below [d,S,M,lb] hbb2;clear h hS RB hb hbb RB1 hS1 r0 hbb2 hb2 HF H1;have H2:Hid (Dq x2 d S M D/\Notes tL (lgX d first size gen len laid++YS) x2 lb o fl id N T/\N<=len/\Jm.Ok ⟨D,first,size,gen,len,laid⟩/\Turn [d,S,M,lb] w x2/\Blk 160 x2 w.heap.size #[I k,U g,U l,U rid,U a,I rn,O on,U s,V m]):=Zq ⟨hD2,hN2,hNl,HJ.out.1,hT2,RB2⟩;clear hD2 hN2 hT2 RB2
 cases q with
 |true=>
  have hsz:size<=1+len:=by have:=of_decide_eq_true HQ.out; omega
  obtain ⟨Z,hZ⟩:=ey (Jm.compact ⟨D,first,size,gen,len,laid⟩ id T.recs);have HC:=dg7 H2.out.2.1 H2.out.1 HDIS.out HJ.out.2.2.1 H2.out.2.2.2.1 h0 h1 hZ;have herr:=Jm.compact_err ⟨D,first,size,gen,len,laid⟩ id T.recs;rw [hZ] at herr;have HNO:=Zq (fun h2:Z.1≠0=>(Jm.append_no (r:=⟨k,g,l,rid,a,rn,on,s,m⟩) hsz hZ h2).symm.trans HJ.out.2.1);have HON:=Zq (fun h2:Z.1=0=>(Jm.append_on (r:=⟨k,g,l,rid,a,rn,on,s,m⟩) hsz hZ h2).symm.trans HJ.out.2.1);have HRM:=Zq (fun h2:Z.1=0=>Jm.compact_room hZ h2);have HOK:=Zq (show Z.2.Ok by rw [<- hZ]; exact Jm.compact_ok H2.out.2.2.2.1 id T.recs);have HNL:=Zq hNl;clear hZ hf hr hsz hNl;go_wp2_with fail;refine HC.mono ?_;rintro e x2 ⟨rfl,hD3,N3,hN3,hNl3,hT3⟩;have hRB3:=H2.out.2.2.2.2.2.turn hT3 (by simp; omega);have hTT3:=H2.out.2.2.2.2.1.trans hT3;obtain ⟨zc,⟨D,first,size,gen,len,laid⟩⟩:=Z;simp only at herr hD3 hN3 hNl3;have H3:Hid (Dq x2 d S M D/\Notes tL (lgX d first size gen len laid++YS) x2 lb o fl id N3 T/\N3<=len/\Jm.Ok ⟨D,first,size,gen,len,laid⟩/\Turn [d,S,M,lb] w x2/\Blk 160 x2 w.heap.size #[I k,U g,U l,U rid,U a,I rn,O on,U s,V m]):=Zq ⟨hD3,hN3,hNl3 HNL.out,HOK.out,hTT3,hRB3⟩;clear hD3 hN3 hNl3 hT3 hTT3 hRB3 HC H2;by_cases hz0:zc=0
  case neg=>
   have hX:=HNO.out hz0;subst hX;have hz4:zc=4\/zc=5:=by rcases herr with h|h|h; exact absurd h hz0; exact .inl h; exact .inr h
   clear HNO HON HRM HOK HNL HQ HJ hz0 herr;rcases hz4 with rfl|rfl
   all_goals
    go_wp2_with fail;go_ret;refine ⟨rfl,H3.out.1,o,fl,N3,H3.out.2.1,H3.out.2.2.1,H3.out.2.2.2.2.1.mono ?_,fun _ h=> .inl h⟩;intro i hi;simp only [List.mem_cons,List.not_mem_nil,or_false] at hi;rcases hi with rfl|rfl|rfl|rfl
    ·simp
    ·simp
    ·simp
    ·exact List.mem_append_right [d,S,M] (ab6.2 (.inl rfl))
  subst hz0;have HX:=Zq (HON.out rfl);have HR:Hid (len+1<size):=Zq (HRM.out rfl);clear HNO HON HRM HOK HNL herr HQ HJ;go_wp2_with fail;obtain ⟨hD2,⟨cn2,cm2,hnm2,hS2⟩,hNl2,hJ2,hT2,RB2⟩:=H3.out;have hroom:=HR.out;have hjf:=hJ2.fit;have hjn:=hJ2.n;have hjg:=hJ2.gen;have hjf2:=hJ2.le;simp only at hjf hjn hjg hjf2;have hf2:(⟨k,gen,1+len,rid,a,rn,on,s,m⟩:Rc).Fits:=⟨HH.out.2.2.1.k1,HH.out.2.2.1.k2,hjg,by show 1+len<4294967296; omega,HH.out.2.2.1.id,HH.out.2.2.1.a,HH.out.2.2.1.n1,HH.out.2.2.1.n2,HH.out.2.2.1.seq,HH.out.2.2.1.met⟩;have hr2:right ⟨k,gen,1+len,rid,a,rn,on,s,m⟩=true:=by have hr:=HH.out.2.2.2.1; rw [<- ai8] at hr ⊢; unfold right2 at hr ⊢; exact hr
  obtain ⟨Y,hY⟩:=ey (D.put (first+(1+len)) (u8s (Rm.bytes ⟨k,gen,1+len,rid,a,rn,on,s,m⟩)));have hYn:Y.2.n=D.n:=by rw [<- hY]; exact Dm.put_n _ _ _
  have herr:Y.1=0\/Y.1=4:=by rw [<- hY]; exact Dm.put_err _ _ _
  have hX:(if Y.1≠0 then (Y.1,(⟨Y.2,first,size,gen,len,laid⟩:Jm),T) else (0,(⟨Y.2,first,size,gen,len+1,laid⟩:Jm),app T ⟨k,g,l,rid,a,rn,on,s,m⟩))=X:=by rw [<- HX.out,<- hY]; rfl
  have HPUT:=dy4 (show Dq x2.drew d S M D from Dk.drew hD2) (first:=first) (size:=size) (gen:=gen) (z:=1+(len:Int)) (place:=1+len) (by push_cast; rfl) G (g:=g) (l:=l) hf2 hr2 hY;have HNX:=br8 hS2.drew (show len<=1000000000 by omega);have HL:=aj2 hS2.drew;have RB3:=RB2.drew;have l4:x2.drew.cell? (Aa lb 4)=Np d:=HL.at_ 4;have l5:x2.drew.cell? (Aa lb 5)=some (I first):=HL.at_ 5;have l6:x2.drew.cell? (Aa lb 6)=some (I size):=HL.at_ 6;have l7:x2.drew.cell? (Aa lb 7)=some (U gen):=HL.at_ 7;have r0:x2.drew.cell? (Aa w.heap.size 0)=some (I k):=RB3.at_ 0;have r1:x2.drew.cell? (Aa w.heap.size 1)=some (U g):=RB3.at_ 1;have r2:x2.drew.cell? (Aa w.heap.size 2)=some (U l):=RB3.at_ 2;have r3:x2.drew.cell? (Aa w.heap.size 3)=some (U rid):=RB3.at_ 3;have r4:x2.drew.cell? (Aa w.heap.size 4)=some (U a):=RB3.at_ 4;have r5:x2.drew.cell? (Aa w.heap.size 5)=some (I rn):=RB3.at_ 5;have r6:x2.drew.cell? (Aa w.heap.size 6)=some (O on):=RB3.at_ 6;have r7:x2.drew.cell? (Aa w.heap.size 7)=some (U s):=RB3.at_ 7;have r8:x2.drew.cell? (Aa w.heap.size 8)=some (V m):=RB3.at_ 8;obtain ⟨yc,Dy⟩:=Y;simp only at herr hYn hX;have HXX:=Zq (And.intro hX (And.intro hroom hnm2));have hlen2:len<=512:=G
  have H4:=Zq hS2;clear hX HX HR hroom hD2 hS2 hNl2 hJ2 hT2 RB2 RB3 HL hf2 hr2 hY hYn hjf hjn hjg hjf2 hnm2;go_region_held3 (fun w'=>w'.cell? (Aa lb 4)=Np d/\w'.cell? (Aa lb 5)=some (I first)/\w'.cell? (Aa lb 6)=some (I size)/\w'.cell? (Aa lb 7)=some (U gen)/\w'.cell? (Aa w.heap.size 0)=some (I k)/\w'.cell? (Aa w.heap.size 1)=some (U g)/\w'.cell? (Aa w.heap.size 2)=some (U l)/\w'.cell? (Aa w.heap.size 3)=some (U rid)/\w'.cell? (Aa w.heap.size 4)=some (U a)/\w'.cell? (Aa w.heap.size 5)=some (I rn)/\w'.cell? (Aa w.heap.size 6)=some (O on)/\w'.cell? (Aa w.heap.size 7)=some (U s)/\w'.cell? (Aa w.heap.size 8)=some (V m))
   (first|exact ⟨l4,l5,l6,l7,r0,r1,r2,r3,r4,r5,r6,r7,r8⟩|exact ⟨hT3.cell l4 (by simp; omega),hT3.cell l5 (by simp; omega),hT3.cell l6 (by simp; omega),hT3.cell l7 (by simp; omega),hT3.cell r0 (by simp; omega),hT3.cell r1 (by simp; omega),hT3.cell r2 (by simp; omega),hT3.cell r3 (by simp; omega),hT3.cell r4 (by simp; omega),hT3.cell r5 (by simp; omega),hT3.cell r6 (by simp; omega),hT3.cell r7 (by simp; omega),hT3.cell r8 (by simp; omega)⟩|go_keep)
   (first|(go_at_call 115; refine HNX.mono ?_; rintro e w' ⟨rfl,rfl⟩)|(go_at_call 114; refine HPUT.mono ?_; rintro e x3 ⟨rfl,hD3,hT3⟩))
  have hS3:=H4.out.drew.turn hT3 HDIS.out;have hwl:w.heap.size∉[d,S,M]:=by simp; omega
  have RB3:=H3.out.2.2.2.2.2.drew.turn hT3 hwl;have hTT:Turn ([d,S,M]++fp lb o fl) w x3:=(H3.out.2.2.2.2.1.drew.mono (fun i hi=>by
   simp only [List.mem_cons,List.not_mem_nil,or_false] at hi;rcases hi with rfl|rfl|rfl|rfl
   ·simp
   ·simp
   ·simp
   ·exact List.mem_append_right _ (ab6.2 (.inl rfl)))).trans (hT3.mono sn)
  clear l4 l5 l6 l7 r0 r1 r2 r3 r4 r5 r6 r7 r8 HNX HPUT;rcases herr with rfl|rfl
  ·have hX:=HXX.out.1
   rw [if_neg (by decide)] at hX;subst hX;have HL3:=aj2 hS3;have hS4:St tL (lgX d first size gen (len+1) laid++YS) (x3.setCell (Aa lb 8) (I ((len:Int)+1))) lb o fl id T.lease cn2 cm2 T.own T.floor:=
    ⟨HL3.store 8 (I ((len:Int)+1)),hS3.owns.of_block (fun b hb=>Below.heap_setCell _ _ _ _ (Ne.symm (hS3.head_ne (.inl hb)))),hS3.floors.of_block (fun b hb=>Below.heap_setCell _ _ _ _ (Ne.symm (hS3.head_ne (.inr hb)))),hS3.apart,hS3.small,hS3.lease_lt,hS3.counts⟩
   have RB4:Blk 160 (x3.setCell (Aa lb 8) (I ((len:Int)+1))) w.heap.size _:=(Below.heap_setCell _ _ _ _ (by show w.heap.size≠lb; omega)).trans RB3;have hD4:Dq (x3.setCell (Aa lb 8) (I ((len:Int)+1))) d S M Dy:=Dk.of_blocks hD3 (Below.heap_setCell _ _ _ _ (by show d≠lb; omega)) (Below.heap_setCell _ _ _ _ (by show S≠lb; omega)) (Below.heap_setCell _ _ _ _ (by show M≠lb; omega));have l8:x3.cell? (Aa lb 8)=some (I len):=HL3.at_ 8;have f8:=HL3.free 8;have hT4:Turn ([d,S,M]++fp lb o fl) w (x3.setCell (Aa lb 8) (I ((len:Int)+1))):=hTT.trans (Turn.setCell _ (p:=⟨lb,8,none⟩) (List.mem_append_right _ (ab6.2 (.inl rfl))) _);have hw8:IntKind.i64.wrap ((len:Int)+1)=(len:Int)+1:=by simp only [IntKind.wrap,IntKind.bits,IntKind.signed]; simp; omega
   have HA:=bj4 (S:=T) (N:=N3) ⟨cn2,cm2,HXX.out.2.2,hS4.drew⟩ (by have:=H3.out.2.2.1; omega) ⟨k,g,l,rid,a,rn,on,s,m⟩ HH.out.2.2.1;have H5:=Zq (And.intro RB4 (And.intro hT4 (And.intro hD4 hS4)));clear hS3 RB3 HL3 hS4 RB4 hT4 hD4 hT3 hD3 H4 hTT;go_wp2_with fail;obtain ⟨RB4,hT4,hD4,hS4⟩:=H5.out;have hsz4:=hT4.size;have r0:(x3.setCell (Aa lb 8) (I ((len:Int)+1))).drew.cell? (Aa w.heap.size 0)=some (I k):=RB4.drew.at_ 0;have r1:(x3.setCell (Aa lb 8) (I ((len:Int)+1))).drew.cell? (Aa w.heap.size 1)=some (U g):=RB4.drew.at_ 1;have r2:(x3.setCell (Aa lb 8) (I ((len:Int)+1))).drew.cell? (Aa w.heap.size 2)=some (U l):=RB4.drew.at_ 2;have r3:(x3.setCell (Aa lb 8) (I ((len:Int)+1))).drew.cell? (Aa w.heap.size 3)=some (U rid):=RB4.drew.at_ 3;have r4:(x3.setCell (Aa lb 8) (I ((len:Int)+1))).drew.cell? (Aa w.heap.size 4)=some (U a):=RB4.drew.at_ 4;have r5:(x3.setCell (Aa lb 8) (I ((len:Int)+1))).drew.cell? (Aa w.heap.size 5)=some (I rn):=RB4.drew.at_ 5;have r6:(x3.setCell (Aa lb 8) (I ((len:Int)+1))).drew.cell? (Aa w.heap.size 6)=some (O on):=RB4.drew.at_ 6;have r7:(x3.setCell (Aa lb 8) (I ((len:Int)+1))).drew.cell? (Aa w.heap.size 7)=some (U s):=RB4.drew.at_ 7;have r8:(x3.setCell (Aa lb 8) (I ((len:Int)+1))).drew.cell? (Aa w.heap.size 8)=some (V m):=RB4.drew.at_ 8;have hnf:w.heap.size∉fp lb o fl:=fun hx=>by have:=HFL.out _ hx; omega
   clear RB4 hT4 hD4 hS4 l8 f8;generalize (x3.setCell (Aa lb 8) (I ((len:Int)+1)))=x4 at*;go_region_held3 (fun w'=>w'.cell? (Aa w.heap.size 0)=some (I k)/\w'.cell? (Aa w.heap.size 1)=some (U g)/\w'.cell? (Aa w.heap.size 2)=some (U l)/\w'.cell? (Aa w.heap.size 3)=some (U rid)/\w'.cell? (Aa w.heap.size 4)=some (U a)/\w'.cell? (Aa w.heap.size 5)=some (I rn)/\w'.cell? (Aa w.heap.size 6)=some (O on)/\w'.cell? (Aa w.heap.size 7)=some (U s)/\w'.cell? (Aa w.heap.size 8)=some (V m))
    (first|exact ⟨r0,r1,r2,r3,r4,r5,r6,r7,r8⟩|exact ⟨hT5.cell r0 hnf,hT5.cell r1 hnf,hT5.cell r2 hnf,hT5.cell r3 hnf,hT5.cell r4 hnf,hT5.cell r5 hnf,hT5.cell r6 hnf,hT5.cell r7 hnf,hT5.cell r8 hnf⟩|go_keep)
    (first|(go_at_call 116; refine HA.mono ?_; rintro e x5 ⟨rfl,o',fl',hN5,hT5,hfp5⟩))
   obtain ⟨-,hT4,hD4,-⟩:=H5.out;have hD4':Dk x4.drew d S M Dy.n Dy.safe Dy.wn Dy.well:=Dk.drew hD4;have hD5:Dq x5 d S M Dy:=Dk.of_blocks hD4' (hT5.block _ hD4'.head.lt (fun hx=>HDIS.out d hx sn)) (hT5.block _ hD4'.ltS (fun hx=>HDIS.out S hx sn)) (hT5.block _ hD4'.map.lt (fun hx=>HDIS.out M hx sn));have hTT:=hT4.drew.trans (hT5.mono (fun i hi=>List.mem_append_right _ hi));have hfp6:∀ y,y∈fp lb o' fl'->y∈fp lb o fl\/w.heap.size<=y:=fun y hy=>(hfp5 y hy).imp_right fun h=>Nat.le_trans hsz4 h
   clear r0 r1 r2 r3 r4 r5 r6 r7 r8 HA;go_wp2_with fail;go_ret;exact ⟨rfl,hD5,o',fl',N3+1,hN5,Nat.succ_le_succ H3.out.2.2.1,hTT,hfp6⟩
  ·have hX:=HXX.out.1
   rw [if_pos (by decide)] at hX;subst hX;have H5:=Zq (And.intro hD3 (And.intro hS3 hTT));clear hS3 RB3 hT3 hD3 H4 hTT;go_wp2_with fail;go_ret;exact ⟨rfl,H5.out.1,o,fl,N3,⟨cn2,cm2,HXX.out.2.2,H5.out.2.1⟩,H3.out.2.2.1,H5.out.2.2,fun _ h=> .inl h⟩
 |false=>
  have HX:=Zq ((Jm.append_room (J:=⟨D,first,size,gen,len,laid⟩) (id:=id) (T:=T) (r:=⟨k,g,l,rid,a,rn,on,s,m⟩) (by have:=of_decide_eq_false HQ.out; simp only; omega)).symm.trans HJ.out.2.1);have HR:Hid (len+1<size):=Zq (by have:=of_decide_eq_false HQ.out; omega);have H3:=H2;clear H2 HQ HJ hf hr hNl;go_wp2_with fail;obtain ⟨hD2,⟨cn2,cm2,hnm2,hS2⟩,hNl2,hJ2,hT2,RB2⟩:=H3.out;have hroom:=HR.out;have hjf:=hJ2.fit;have hjn:=hJ2.n;have hjg:=hJ2.gen;have hjf2:=hJ2.le;simp only at hjf hjn hjg hjf2;have hf2:(⟨k,gen,1+len,rid,a,rn,on,s,m⟩:Rc).Fits:=⟨HH.out.2.2.1.k1,HH.out.2.2.1.k2,hjg,by show 1+len<4294967296; omega,HH.out.2.2.1.id,HH.out.2.2.1.a,HH.out.2.2.1.n1,HH.out.2.2.1.n2,HH.out.2.2.1.seq,HH.out.2.2.1.met⟩;have hr2:right ⟨k,gen,1+len,rid,a,rn,on,s,m⟩=true:=by have hr:=HH.out.2.2.2.1; rw [<- ai8] at hr ⊢; unfold right2 at hr ⊢; exact hr
  obtain ⟨Y,hY⟩:=ey (D.put (first+(1+len)) (u8s (Rm.bytes ⟨k,gen,1+len,rid,a,rn,on,s,m⟩)));have hYn:Y.2.n=D.n:=by rw [<- hY]; exact Dm.put_n _ _ _
  have herr:Y.1=0\/Y.1=4:=by rw [<- hY]; exact Dm.put_err _ _ _
  have hX:(if Y.1≠0 then (Y.1,(⟨Y.2,first,size,gen,len,laid⟩:Jm),T) else (0,(⟨Y.2,first,size,gen,len+1,laid⟩:Jm),app T ⟨k,g,l,rid,a,rn,on,s,m⟩))=X:=by rw [<- HX.out,<- hY]; rfl
  have HPUT:=dy4 (show Dq x2.drew d S M D from Dk.drew hD2) (first:=first) (size:=size) (gen:=gen) (z:=1+(len:Int)) (place:=1+len) (by push_cast; rfl) G (g:=g) (l:=l) hf2 hr2 hY;have HNX:=br8 hS2.drew (show len<=1000000000 by omega);have HL:=aj2 hS2.drew;have RB3:=RB2.drew;have l4:x2.drew.cell? (Aa lb 4)=Np d:=HL.at_ 4;have l5:x2.drew.cell? (Aa lb 5)=some (I first):=HL.at_ 5;have l6:x2.drew.cell? (Aa lb 6)=some (I size):=HL.at_ 6;have l7:x2.drew.cell? (Aa lb 7)=some (U gen):=HL.at_ 7;have r0:x2.drew.cell? (Aa w.heap.size 0)=some (I k):=RB3.at_ 0;have r1:x2.drew.cell? (Aa w.heap.size 1)=some (U g):=RB3.at_ 1;have r2:x2.drew.cell? (Aa w.heap.size 2)=some (U l):=RB3.at_ 2;have r3:x2.drew.cell? (Aa w.heap.size 3)=some (U rid):=RB3.at_ 3;have r4:x2.drew.cell? (Aa w.heap.size 4)=some (U a):=RB3.at_ 4;have r5:x2.drew.cell? (Aa w.heap.size 5)=some (I rn):=RB3.at_ 5;have r6:x2.drew.cell? (Aa w.heap.size 6)=some (O on):=RB3.at_ 6;have r7:x2.drew.cell? (Aa w.heap.size 7)=some (U s):=RB3.at_ 7;have r8:x2.drew.cell? (Aa w.heap.size 8)=some (V m):=RB3.at_ 8;obtain ⟨yc,Dy⟩:=Y;simp only at herr hYn hX;have HXX:=Zq (And.intro hX (And.intro hroom hnm2));have hlen2:len<=512:=G
  have H4:=Zq hS2;clear hX HX HR hroom hD2 hS2 hNl2 hJ2 hT2 RB2 RB3 HL hf2 hr2 hY hYn hjf hjn hjg hjf2 hnm2;go_region_held3 (fun w'=>w'.cell? (Aa lb 4)=Np d/\w'.cell? (Aa lb 5)=some (I first)/\w'.cell? (Aa lb 6)=some (I size)/\w'.cell? (Aa lb 7)=some (U gen)/\w'.cell? (Aa w.heap.size 0)=some (I k)/\w'.cell? (Aa w.heap.size 1)=some (U g)/\w'.cell? (Aa w.heap.size 2)=some (U l)/\w'.cell? (Aa w.heap.size 3)=some (U rid)/\w'.cell? (Aa w.heap.size 4)=some (U a)/\w'.cell? (Aa w.heap.size 5)=some (I rn)/\w'.cell? (Aa w.heap.size 6)=some (O on)/\w'.cell? (Aa w.heap.size 7)=some (U s)/\w'.cell? (Aa w.heap.size 8)=some (V m))
   (first|exact ⟨l4,l5,l6,l7,r0,r1,r2,r3,r4,r5,r6,r7,r8⟩|exact ⟨hT3.cell l4 (by simp; omega),hT3.cell l5 (by simp; omega),hT3.cell l6 (by simp; omega),hT3.cell l7 (by simp; omega),hT3.cell r0 (by simp; omega),hT3.cell r1 (by simp; omega),hT3.cell r2 (by simp; omega),hT3.cell r3 (by simp; omega),hT3.cell r4 (by simp; omega),hT3.cell r5 (by simp; omega),hT3.cell r6 (by simp; omega),hT3.cell r7 (by simp; omega),hT3.cell r8 (by simp; omega)⟩|go_keep)
   (first|(go_at_call 115; refine HNX.mono ?_; rintro e w' ⟨rfl,rfl⟩)|(go_at_call 114; refine HPUT.mono ?_; rintro e x3 ⟨rfl,hD3,hT3⟩))
  have hS3:=H4.out.drew.turn hT3 HDIS.out;have hwl:w.heap.size∉[d,S,M]:=by simp; omega
  have RB3:=H3.out.2.2.2.2.2.drew.turn hT3 hwl;have hTT:Turn ([d,S,M]++fp lb o fl) w x3:=(H3.out.2.2.2.2.1.drew.mono (fun i hi=>by
   simp only [List.mem_cons,List.not_mem_nil,or_false] at hi;rcases hi with rfl|rfl|rfl|rfl
   ·simp
   ·simp
   ·simp
   ·exact List.mem_append_right _ (ab6.2 (.inl rfl)))).trans (hT3.mono sn)
  clear l4 l5 l6 l7 r0 r1 r2 r3 r4 r5 r6 r7 r8 HNX HPUT;rcases herr with rfl|rfl
  ·have hX:=HXX.out.1
   rw [if_neg (by decide)] at hX;subst hX;have HL3:=aj2 hS3;have hS4:St tL (lgX d first size gen (len+1) laid++YS) (x3.setCell (Aa lb 8) (I ((len:Int)+1))) lb o fl id T.lease cn2 cm2 T.own T.floor:=
    ⟨HL3.store 8 (I ((len:Int)+1)),hS3.owns.of_block (fun b hb=>Below.heap_setCell _ _ _ _ (Ne.symm (hS3.head_ne (.inl hb)))),hS3.floors.of_block (fun b hb=>Below.heap_setCell _ _ _ _ (Ne.symm (hS3.head_ne (.inr hb)))),hS3.apart,hS3.small,hS3.lease_lt,hS3.counts⟩
   have RB4:Blk 160 (x3.setCell (Aa lb 8) (I ((len:Int)+1))) w.heap.size _:=(Below.heap_setCell _ _ _ _ (by show w.heap.size≠lb; omega)).trans RB3;have hD4:Dq (x3.setCell (Aa lb 8) (I ((len:Int)+1))) d S M Dy:=Dk.of_blocks hD3 (Below.heap_setCell _ _ _ _ (by show d≠lb; omega)) (Below.heap_setCell _ _ _ _ (by show S≠lb; omega)) (Below.heap_setCell _ _ _ _ (by show M≠lb; omega));have l8:x3.cell? (Aa lb 8)=some (I len):=HL3.at_ 8;have f8:=HL3.free 8;have hT4:Turn ([d,S,M]++fp lb o fl) w (x3.setCell (Aa lb 8) (I ((len:Int)+1))):=hTT.trans (Turn.setCell _ (p:=⟨lb,8,none⟩) (List.mem_append_right _ (ab6.2 (.inl rfl))) _);have hw8:IntKind.i64.wrap ((len:Int)+1)=(len:Int)+1:=by simp only [IntKind.wrap,IntKind.bits,IntKind.signed]; simp; omega
   have HA:=bj4 (S:=T) (N:=N) ⟨cn2,cm2,HXX.out.2.2,hS4.drew⟩ (by have:=H3.out.2.2.1; omega) ⟨k,g,l,rid,a,rn,on,s,m⟩ HH.out.2.2.1;have H5:=Zq (And.intro RB4 (And.intro hT4 (And.intro hD4 hS4)));clear hS3 RB3 HL3 hS4 RB4 hT4 hD4 hT3 hD3 H4 hTT;go_wp2_with fail;obtain ⟨RB4,hT4,hD4,hS4⟩:=H5.out;have hsz4:=hT4.size;have r0:(x3.setCell (Aa lb 8) (I ((len:Int)+1))).drew.cell? (Aa w.heap.size 0)=some (I k):=RB4.drew.at_ 0;have r1:(x3.setCell (Aa lb 8) (I ((len:Int)+1))).drew.cell? (Aa w.heap.size 1)=some (U g):=RB4.drew.at_ 1;have r2:(x3.setCell (Aa lb 8) (I ((len:Int)+1))).drew.cell? (Aa w.heap.size 2)=some (U l):=RB4.drew.at_ 2;have r3:(x3.setCell (Aa lb 8) (I ((len:Int)+1))).drew.cell? (Aa w.heap.size 3)=some (U rid):=RB4.drew.at_ 3;have r4:(x3.setCell (Aa lb 8) (I ((len:Int)+1))).drew.cell? (Aa w.heap.size 4)=some (U a):=RB4.drew.at_ 4;have r5:(x3.setCell (Aa lb 8) (I ((len:Int)+1))).drew.cell? (Aa w.heap.size 5)=some (I rn):=RB4.drew.at_ 5;have r6:(x3.setCell (Aa lb 8) (I ((len:Int)+1))).drew.cell? (Aa w.heap.size 6)=some (O on):=RB4.drew.at_ 6;have r7:(x3.setCell (Aa lb 8) (I ((len:Int)+1))).drew.cell? (Aa w.heap.size 7)=some (U s):=RB4.drew.at_ 7;have r8:(x3.setCell (Aa lb 8) (I ((len:Int)+1))).drew.cell? (Aa w.heap.size 8)=some (V m):=RB4.drew.at_ 8;have hnf:w.heap.size∉fp lb o fl:=fun hx=>by have:=HFL.out _ hx; omega
   clear RB4 hT4 hD4 hS4 l8 f8;generalize (x3.setCell (Aa lb 8) (I ((len:Int)+1)))=x4 at*;go_region_held3 (fun w'=>w'.cell? (Aa w.heap.size 0)=some (I k)/\w'.cell? (Aa w.heap.size 1)=some (U g)/\w'.cell? (Aa w.heap.size 2)=some (U l)/\w'.cell? (Aa w.heap.size 3)=some (U rid)/\w'.cell? (Aa w.heap.size 4)=some (U a)/\w'.cell? (Aa w.heap.size 5)=some (I rn)/\w'.cell? (Aa w.heap.size 6)=some (O on)/\w'.cell? (Aa w.heap.size 7)=some (U s)/\w'.cell? (Aa w.heap.size 8)=some (V m))
    (first|exact ⟨r0,r1,r2,r3,r4,r5,r6,r7,r8⟩|exact ⟨hT5.cell r0 hnf,hT5.cell r1 hnf,hT5.cell r2 hnf,hT5.cell r3 hnf,hT5.cell r4 hnf,hT5.cell r5 hnf,hT5.cell r6 hnf,hT5.cell r7 hnf,hT5.cell r8 hnf⟩|go_keep)
    (first|(go_at_call 116; refine HA.mono ?_; rintro e x5 ⟨rfl,o',fl',hN5,hT5,hfp5⟩))
   obtain ⟨-,hT4,hD4,-⟩:=H5.out;have hD4':Dk x4.drew d S M Dy.n Dy.safe Dy.wn Dy.well:=Dk.drew hD4;have hD5:Dq x5 d S M Dy:=Dk.of_blocks hD4' (hT5.block _ hD4'.head.lt (fun hx=>HDIS.out d hx sn)) (hT5.block _ hD4'.ltS (fun hx=>HDIS.out S hx sn)) (hT5.block _ hD4'.map.lt (fun hx=>HDIS.out M hx sn));have hTT:=hT4.drew.trans (hT5.mono (fun i hi=>List.mem_append_right _ hi));have hfp6:∀ y,y∈fp lb o' fl'->y∈fp lb o fl\/w.heap.size<=y:=fun y hy=>(hfp5 y hy).imp_right fun h=>Nat.le_trans hsz4 h
   clear r0 r1 r2 r3 r4 r5 r6 r7 r8 HA;go_wp2_with fail;go_ret;exact ⟨rfl,hD5,o',fl',N+1,hN5,Nat.succ_le_succ H3.out.2.2.1,hTT,hfp6⟩
  ·have hX:=HXX.out.1
   rw [if_pos (by decide)] at hX;subst hX;have H5:=Zq (And.intro hD3 (And.intro hS3 hTT));clear hS3 RB3 hT3 hD3 H4 hTT;go_wp2_with fail;go_ret;exact ⟨rfl,H5.out.1,o,fl,N,⟨cn2,cm2,HXX.out.2.2,H5.out.2.1⟩,H3.out.2.2.1,H5.out.2.2,fun _ h=> .inl h⟩
end
def Dm.rcd (D:Dm) (i:Nat):Option Rc:=recAt (synced D.safe D.wn i)
theorem az0 {s:List UInt8} {r:Rc} (h:recAt s=some r):right r=true/\r.Fits:=by
 unfold recAt Rm.of at h;split at h
 ·rename_i hc
  injection h with h;subst h;exact ⟨hc.2.1,ak5 (bl7 s)⟩
 ·cases h
def Dm.begunAt (D:Dm) (f id:Nat):Option Nat:=match D.rcd f with
 |some r=>if r.lsn=0/\r.kind=1/\r.id=id then some r.gen else none
 |none=>none
def Dm.greatest (D:Dm):Nat->Nat
 |0=>0
 |k+1=>match D.rcd k with
  |some r=>max (D.greatest k) r.gen
  |none=>D.greatest k
def Dm.journal (D:Dm) (id:Nat):Option (Nat×Nat):=match D.begunAt (D.n / 2) id with
 |some gb=>match D.begunAt 0 id with
  |some ga=>if ga<gb then some (D.n / 2,gb) else some (0,ga)
  |none=>some (D.n / 2,gb)
 |none=>match D.begunAt 0 id with
  |some ga=>some (0,ga)
  |none=>none
def Dm.recs (D:Dm) (first gen:Nat):List Rc:=recsFrom (fun p=>D.rcd (first+p)) gen 1 (D.n / 2 - 1)
def Dm.opened (D:Dm) (id:Nat):Int×Dm×Option (Jm×Sm):=
 if D.n / 2<2 then (1,D,none)
 else match D.journal id with
  |some (first,gen)=>(0,D,some (⟨D,first,D.n / 2,gen,(D.recs first gen).length,false⟩,(D.recs first gen).foldl app sm0))
  |none=>
   let y:=D.put 0 (beginB ((D.greatest D.n+1) % 4294967296) id)
   if y.1≠0 then (y.1,y.2,none) else (0,y.2,some (⟨y.2,0,D.n / 2,(D.greatest D.n+1) % 4294967296,0,false⟩,sm0))
theorem Dm.greatest_lt (D:Dm):∀ k,D.greatest k<4294967296
 |0=>by show 0<4294967296; omega
 |k+1=>by
  have h1:=D.greatest_lt k;unfold Dm.greatest;split
  ·rename_i r hr
   have:=(az0 hr).2.gen;omega
  ·exact h1
theorem bc6 {f:Nat->Option Rc} {gen:Nat}:∀ {k p:Nat} {r:Rc},r∈recsFrom f gen p k->∃ q,f q=some r
 |0,p,r,h=>by cases h
 |k+1,p,r,h=>by
  rw [recsFrom] at h;split at h
  ·rename_i x hx
   split at h
   ·rcases List.mem_cons.1 h with rfl|h
    ·exact ⟨p,hx⟩
    ·exact bc6 h
   ·cases h
  ·cases h
theorem Dm.recs_fits {D:Dm} {first gen:Nat}:∀ r∈D.recs first gen,right r=true/\r.Fits:=fun r hr=>by
 obtain ⟨q,hq⟩:=bc6 hr;exact az0 hq
theorem bw8:∀ (rs:List Rc) {T:Sm},GoodSm T->(∀ r∈rs,right r=true/\r.Fits)->GoodSm (rs.foldl app T)
 |[],T,h,_=>h
 |r::rs,T,h,hr=>bw8 rs (h.app (by rw [ai8]; exact (hr r (List.mem_cons_self ..)).1) (hr r (List.mem_cons_self ..)).2) (fun x hx=>hr x (List.mem_cons_of_mem _ hx))
theorem Dm.journal_is {D:Dm} {id first gen:Nat} (h:D.journal id=some (first,gen)):(first=0\/first=D.n / 2)/\gen<4294967296:=by
 have key:∀ f g,D.begunAt f id=some g->g<4294967296:=fun f g hg=>by
  unfold Dm.begunAt at hg;split at hg
  ·rename_i r hr
   split at hg
   ·injection hg with hg
    rw [<- hg];exact (az0 hr).2.gen
   ·cases hg
  ·cases hg
 unfold Dm.journal at h
 cases hb:D.begunAt (D.n / 2) id with
 |some gb=>
  rw [hb] at h
  cases ha:D.begunAt 0 id with
  |some ga=>
   rw [ha] at h;simp only at h;split at h
   ·injection h with h; injection h with h1 h2; exact ⟨.inr h1.symm,by rw [<- h2]; exact key _ _ hb⟩
   ·injection h with h; injection h with h1 h2; exact ⟨.inl h1.symm,by rw [<- h2]; exact key _ _ ha⟩
  |none=>
   rw [ha] at h;injection h with h; injection h with h1 h2; exact ⟨.inr h1.symm,by rw [<- h2]; exact key _ _ hb⟩
 |none=>
  rw [hb] at h
  cases ha:D.begunAt 0 id with
  |some ga=>
   rw [ha] at h;injection h with h; injection h with h1 h2; exact ⟨.inl h1.symm,by rw [<- h2]; exact key _ _ ha⟩
  |none=>rw [ha] at h; cases h
theorem Dm.opened_ok {D:Dm} {id:Nat} (hn:D.n<=512) {c:Int} {E:Dm} {J:Jm} {T:Sm} (h:D.opened id=(c,E,some (J,T))):c=0/\J.D=E/\E.n=D.n/\J.Ok/\GoodSm T:=by
 unfold Dm.opened at h;split at h
 ·cases h
 ·rename_i h2
  split at h
  ·rename_i first gen hj
   injection h with h1 h;injection h with h3 h;injection h with h;injection h with h4 h5;subst h1 h3 h4 h5;obtain ⟨q1,q2⟩:=Dm.journal_is hj;have hl:=ar2 (fun p=>D.rcd (first+p)) gen (D.n / 2 - 1) 1;have hl2:(D.recs first gen).length<=D.n / 2 - 1:=hl;refine ⟨rfl,rfl,rfl,⟨?_,?_,?_,?_,?_,q2,hn⟩,bw8 _ good0 D.recs_fits⟩
   ·show first+D.n / 2<=D.n; omega
   ·show D.n / 2 - first+D.n / 2<=D.n; omega
   ·show first<=D.n / 2; omega
   ·show (D.recs first gen).length<D.n / 2; omega
   ·show 2<=D.n / 2; omega
  ·dsimp only at h
   have hy:=D.put_n 0 (beginB ((D.greatest D.n+1) % 4294967296) id);generalize D.put 0 (beginB ((D.greatest D.n+1) % 4294967296) id)=y at*;split at h
   ·injection h with h1 h; injection h with h3 h; cases h
   ·injection h with h1 h
    injection h with h3 h;injection h with h;injection h with h4 h5;subst h1 h3 h4 h5;refine ⟨rfl,rfl,hy,⟨?_,?_,?_,?_,?_,Nat.mod_lt _ (by decide),by show y.2.n<=_; rw [hy]; exact hn⟩,good0⟩
    ·show 0+D.n / 2<=y.2.n; rw [hy]; omega
    ·show D.n / 2 - 0+D.n / 2<=y.2.n; rw [hy]; omega
    ·show 0<=D.n / 2; omega
    ·show 0<D.n / 2; omega
    ·show 2<=D.n / 2; omega
section
variable {w w':World} {d S M:Nat} {D:Dm}
theorem cj1 (h:Dq w d S M D):Q 140 #[K d] w (Rr0 w (U (D.greatest D.n))):=by
 have n2:=Dk.n2 h;have HH:=Z h;clear h;go_enter Tryz.func140,Tryz.ntmps140;go_wp2_with fail;refine (an2 HH.out).mono ?_;rintro e w1 ⟨rfl,rfl⟩;obtain ⟨N,hN⟩:=ey D.n;rw [hN] at n2 ⊢;have HN:=Z hN;clear hN;go_wp2_with fail;go_loopw [3,9] (fun g i wr=>∃ k q:Nat,k<=N/\g= U (q:Nat)/\i= I k/\Bw w wr/\Hid (D.greatest k=q)) (fun g i _=>N - (intOf i).toNat)
 case atStart=>exact ⟨0,0,G,rfl,rfl,Below.refl _ _,Z rfl⟩
 case round=>
  obtain ⟨k,q,hk,rfl,rfl,hB,hq⟩:=hrel;by_cases hlt:k<N
  ·obtain ⟨r,hr⟩:∃ r,(D.rcd k).getD Rm.zero=r:=⟨_,rfl⟩
   obtain ⟨ok,hok⟩:∃ ok,(D.rcd k).isSome=ok:=⟨_,rfl⟩;obtain ⟨kd,g,l,id,a,len,on,s,m⟩:=r;have HD:=bt0 (HH.out.held hB) (show k<D.n by rw [HN.out]; exact hlt) hr hok;have HB:=Z hB;have E:Hid (D.greatest (k+1)=if ok=true then max q g else q):=Z (by
    rw [Dm.greatest]
    cases hc:D.rcd k with
    |none=>rw [hc] at hok; obtain rfl:ok=false:=hok.symm; exact hq.out
    |some r=>
     rw [hc] at hok hr;obtain rfl:ok=true:=hok.symm;obtain rfl:r=⟨kd,g,l,id,a,len,on,s,m⟩:=hr;rw [if_pos rfl,<- hq.out])
   clear hB hr hok hq
   cases ok with
   |false=>
    go_wp2_with fail;refine HD.mono ?_;rintro e w2 ⟨rfl,hb2⟩;have hb3:=next (next HB.out hb2) (aa0 w2 (.cells #[I kd,U g,U l,U id,U a,I len,O on,U s,V m] 160));clear HD hb2;go_wp2_with fail;go_roundw
    case rel=>exact ⟨k+1,q,G,rfl,by go_num,hb3,Z (by rw [E.out]; rfl)⟩
    case measure=>simp [intOf]; omega
   |true=>
    go_wp2_with fail;refine HD.mono ?_;rintro e w2 ⟨rfl,hb2⟩;have hb3:=next (next HB.out hb2) (aa0 w2 (.cells #[I kd,U g,U l,U id,U a,I len,O on,U s,V m] 160));have RB:=Blk.new w2 160 #[I kd,U g,U l,U id,U a,I len,O on,U s,V m];have r1:=RB.at_ 1;clear HD hb2 RB;go_wp2_with fail;go_roundw
    case rel=>exact ⟨k+1,max q g,G,by simp only [Value.int.injEq,true_and]; omega,by go_num,hb3,Z (by rw [E.out]; simp)⟩
    case measure=>simp [intOf]; omega
  ·obtain rfl:k=N:=G
   have hq':q=D.greatest k:=hq.out.symm;go_wp2_with fail;go_ret;exact ⟨ab0 (by rw [HN.out,hq']),hB⟩
theorem cv1 (h:Dq w d S M D) {f half rid:Nat} (hf:f<D.n):∃ (p:Option Addr) (fi si gi:Int) (q:Bool),(∀ W:World,Below w.heap.size w W->Q 167 #[.agg #[K d,I f,I half,U 0],U rid] W (Rr0 W (.tuple #[.agg #[.pointer p,I fi,I si,U gi],O q])))/\
   ((∃ g,D.begunAt f rid=some g/\q=true/\p=some ⟨d,0,none⟩/\fi=f/\si=half/\gi=(g:Nat))\/(D.begunAt f rid=none/\q=false/\p=none/\fi=0/\si=0/\gi=0)):=by
 obtain ⟨⟨k,g,l,id,a,len,on,s,m⟩,hr⟩:∃ r,(D.rcd f).getD Rm.zero=r:=⟨_,rfl⟩;obtain ⟨ok,hok⟩:∃ ok,(D.rcd f).isSome=ok:=⟨_,rfl⟩;obtain ⟨q,hq⟩:∃ q,((ok && (l==0)) && (k==1 && id==rid))=q:=⟨_,rfl⟩;have HB:∀ W:World,Below w.heap.size w W->_:=fun W hb=>bj3 (h.held hb) (first:=f) (size:=half) (gen:=0) (rid:=rid) hf hr hok hq
 have hbe:D.begunAt f rid=if q=true then some g else none:=by
  unfold Dm.begunAt
  cases hc:D.rcd f with
  |none=>
   rw [hc] at hok;obtain rfl:ok=false:=hok.symm;have hq0:q=false:=by simpa using hq.symm
   rw [hq0];rfl
  |some r=>
   rw [hc] at hok hr;obtain rfl:ok=true:=hok.symm;obtain rfl:r=⟨k,g,l,id,a,len,on,s,m⟩:=hr;simp only [Bool.true_and] at hq
   cases q with
   |true=>
    simp only [Bool.and_eq_true,beq_iff_eq] at hq;rw [if_pos rfl];exact if_pos ⟨hq.1,hq.2.1,hq.2.2⟩
   |false=>
    rw [if_neg (by decide)];refine if_neg fun hh=>?_
    simp only at hh;rw [hh.1,hh.2.1,hh.2.2] at hq;simp at hq
 cases q with
 |true=>
  refine ⟨some (Y d 0),f,half,g,true,fun W hb=>?_,.inl ⟨g,hbe,rfl,rfl,rfl,rfl,rfl⟩⟩;have:=HB W hb;simpa using this
 |false=>
  refine ⟨none,0,0,0,false,fun W hb=>?_,.inr ⟨hbe,rfl,rfl,rfl,rfl,rfl⟩⟩;have:=HB W hb;simpa using this
theorem dg5 (h:Dq w d S M D) {id half:Nat} (hh:D.n / 2=half) (hn:4<=D.n):
  Q 138 #[.agg #[K d,I 0,I half,U 0,K d,I half,I half,U 0],U id] w (Rr0 w (match D.journal id with
   |some (first,gen)=> .tuple #[.agg #[K d,I first,I half,U gen],O true]
   |none=> .tuple #[.agg #[.pointer none,I 0,I 0,U 0],O false])):=by
 obtain ⟨pa,fa,sa,ga,qa,HA,hA⟩:=cv1 h (f:=0) (half:=half) (rid:=id) G;obtain ⟨pb,fb,sb,gb,qb,HB,hB⟩:=cv1 h (f:=half) (half:=half) (rid:=id) G;refine (by1 HA HB).mono ?_;rintro e w' ⟨rfl,hb⟩;refine ⟨?_,hb⟩;unfold Dm.journal;rw [hh];rcases hA with ⟨xa,a0,rfl,rfl,rfl,rfl,rfl⟩|⟨a0,rfl,rfl,rfl,rfl,rfl⟩
 ·rcases hB with ⟨xb,b0,rfl,rfl,rfl,rfl,rfl⟩|⟨b0,rfl,rfl,rfl,rfl,rfl⟩
  ·rw [a0,b0]
   by_cases hlt:xa<xb
   ·rw [if_pos ⟨rfl,.inr G⟩]
    simp only [if_pos hlt]
   ·rw [if_neg (by rintro ⟨_,h|h⟩; cases h; omega)]
    simp only [if_neg hlt];all_goals rfl
  ·rw [a0,b0,if_neg (by rintro ⟨h,_⟩; cases h)]
   all_goals rfl
 ·rcases hB with ⟨xb,b0,rfl,rfl,rfl,rfl,rfl⟩|⟨b0,rfl,rfl,rfl,rfl,rfl⟩
  ·rw [a0,b0,if_pos ⟨rfl,.inl rfl⟩]
  ·rw [a0,b0,if_neg (by rintro ⟨h,_⟩; cases h)]
def OpenedG (w w':World) (d id:Nat) (e:Ending) (c:Int):Option (Jm×Sm)->Prop
 |none=>e= .returned (.tuple #[.pointer none,I c])/\c≠0
 |some (J,T)=>c=0/\∃ lb o fl N,e= .returned (.tuple #[K lb,I 0])/\Notes 111 (lgX d J.first J.size J.gen J.len J.laid) w' lb o fl id N T/\N<=J.len/\∀ y,y∈fp lb o fl->w.heap.size<=y
theorem du6 (h:Dq w d S M D) {id:Nat} (h0:0<id) (h1:id<4294967296) {c:Int} {E:Dm} {X:Option (Jm×Sm)} (hX:D.opened id=(c,E,X)):
  Q 107 #[K d,U id] w fun e w'=>Dq w' d S M E/\Turn [d,S,M] w w'/\OpenedG w w' d id e c X:=by
 have n1:=Dk.n1 h;have n2:=Dk.n2 h;by_cases hsm:D.n<4
 ·unfold Dm.opened at hX
  rw [if_pos G] at hX;injection hX with e1 hX;injection hX with e2 e3;subst e1 e2 e3;refine (dd6 h (id:=id) hsm).mono ?_;rintro e w' ⟨rfl,hb⟩;exact ⟨h.held hb,.of_below _ hb,by unfold OpenedG; exact ⟨rfl,by decide⟩⟩
 have hn:4<=D.n:=G
 have HR:=au4 h (half:=D.n / 2) rfl;obtain ⟨half,hh⟩:=eX (D.n / 2);have hJc:=fun (W:World) (hb:Below w.heap.size w W)=>dg5 (h.held hb) (id:=id) (half:=half) hh.symm hn
 rw [<- hh] at HR;unfold Dm.opened at hX;rw [if_neg G,<- hh] at hX;have hlt:=df ((half:Int)<2);have hi0:((id:Int)==0)=false:=by rw [beq_eq_false_iff_ne]; omega
 have hhn:half<D.n:=G
 have hh2:half<=1000:=G
 have HH:=H4 h hX hh hJc;clear h hX hh hJc hsm;go_enter Tryz.func107,Tryz.ntmps107;go_wp2_with fail;refine HR.mono ?_;rintro e w1 ⟨rfl,hb1⟩;have hb2:=next hb1 (aa0 w1 (.cells #[K d,I 0,I half,U 0,K d,I half,I half,U 0] 236));have hH:=Blk.new w1 236 #[K d,I 0,I half,U 0,K d,I half,I half,U 0];have hz:=aa1 w1 (.cells #[K d,I 0,I half,U 0,K d,I half,I half,U 0] 236);have hz1:=hb1.size;clear HR hb1;go_wp2_with fail;generalize w1.alloc _=V at*;refine (ch2 id V).mono ?_;rintro e w2 ⟨rfl,hS,hb3⟩;have hz3:=hb3.size;rw [hz] at hS;have HS:=Z hS;have s0:w2.cell? (Aa (w1.heap.size+1) 0)=some (U id):=hS.head.at_ 0;have s1:w2.cell? (Aa (w1.heap.size+1) 1)=some (U 0):=hS.head.at_ 1;have s2:w2.cell? (Aa (w1.heap.size+1) 2)=some (.map none):=hS.head.at_ 2;have s3:w2.cell? (Aa (w1.heap.size+1) 3)=some (.map none):=hS.head.at_ 3;have hs:=hS.head.lt;obtain ⟨hb4,L0⟩:=nw w2 111 #[U id,U 0,.map none,.map none,.pointer none,I 0,I 0,U 0,I 0,O false];have hH4:=(hH.held hb3).held hb4;have a0:=hH4.at_ 0;have a1:=hH4.at_ 1;have a2:=hH4.at_ 2;have a3:=hH4.at_ 3;have a4:=hH4.at_ 4;have a5:=hH4.at_ 5;have a6:=hH4.at_ 6;have a7:=hH4.at_ 7;have hbb:=next (next hb2 hb3) hb4;have HJ:=HH.out.2.2.2 _ hbb;have HX:=H3 hbb hH4 L0;have hle:w.heap.size<=w2.heap.size:=G
 have hXX:=HH.out.2.1;clear hS hb3 hb4 hH hH4 hb2 L0 hbb
 cases hjr:D.journal id with
 |some fg=>
  obtain ⟨first,gen⟩:=fg;rw [hjr] at HJ hXX;simp only at HJ hXX;injection hXX with e1 hXX;injection hXX with e2 e3;subst e1 e2 e3;obtain ⟨q1,q2⟩:=Dm.journal_is hjr;have hfit:first+half<=D.n:=by have:=HH.out.2.2.1; omega
  have HJR:=Z hjr;clear hjr q1;go_wp2_with fail;refine HJ.mono ?_;rintro e w5 ⟨rfl,hb5⟩;have hb6:=next hb5 (aa0 w5 (.cells #[K d,I first,I half,U gen] 109));obtain ⟨hbb,hH4,L0⟩:=HX.out;have G0:=Blk.new w5 109 #[K d,I first,I half,U gen];have L6:=L0.held hb6;have hb7:=next hbb hb6;clear a0 a1 a2 a3 a4 a5 a6 a7 HJ hb5 hb6 hbb hH4 L0 HX s0 s1 s2 s3;have g0:=G0.at_ 0;have g1:=G0.at_ 1;have g2:=G0.at_ 2;have g3:=G0.at_ 3;have l4:=L6.at_ 4;have l5:=L6.at_ 5;have l6:=L6.at_ 6;have l7:=L6.at_ 7;have f4:=L6.free 4;have f5:=L6.free 5;have f6:=L6.free 6;have f7:=L6.free 7;have L7:=(((L6.store 4 (K d)).store 5 (I first)).store 6 (I half)).store 7 (U gen);have hb8:=(((hb7.setCell (p:=⟨w2.heap.size,4,none⟩) hle (K d)).setCell (p:=⟨w2.heap.size,5,none⟩) hle (I first)).setCell (p:=⟨w2.heap.size,6,none⟩) hle (I half)).setCell (p:=⟨w2.heap.size,7,none⟩) hle (U gen);have L9:Blk 111 _ w2.heap.size #[U id,U 0,.map none,.map none,K d,I first,I half,U gen,I 0,O false]:=L7;have hS9:St 111 (lgX d first half gen 0 false) _ w2.heap.size none none id 0 0 0 (fun _=>none) (fun _=>none):=
   ⟨L9,HS.out.owns.of_block (fun _ h=>by cases h),HS.out.floors.of_block (fun _ h=>by cases h),HS.out.apart,HS.out.small,HS.out.lease_lt,HS.out.counts⟩
  have HRD:=cs9 (⟨0,0,Nat.le_refl _,hS9⟩:Notes 111 (lgX d first half gen 0 false) _ w2.heap.size none none id 0 sm0) (HH.out.1.held hb8) hfit hh2 (rs:=D.recs first gen) (by unfold Dm.recs; rw [<- HH.out.2.2.1]; rfl) (fun r hr=>(D.recs_fits r hr).2);have HX:=Z hb8;clear L6 L7 hb7 hb8 L9 hS9 G0;go_wp2_with fail;generalize ((((w5.alloc (.cells #[K d,I first,I half,U gen] 109)).setCell (Aa w2.heap.size 4) (K d)).setCell (Aa w2.heap.size 5) (I first)).setCell (Aa w2.heap.size 6) (I half)).setCell (Aa w2.heap.size 7) (U gen)=w7 at*;refine HRD.mono ?_;rintro e w8 ⟨rfl,o,fl,hN8,hT8,hF8⟩;have Y:=H3 hN8 hT8 hF8;clear HRD hN8 hT8 hF8 g0 g1 g2 g3 l4 l5 l6 l7 f4 f5 f6 f7;go_wp2_with fail;go_ret2;have hbz:=HX.out.trans ((Y.out.2.1.below (by simpa using hle) HX.out.size));refine ⟨HH.out.1.held hbz,.of_below _ hbz,?_⟩;unfold OpenedG;refine ⟨rfl,w2.heap.size,o,fl,_,rfl,Y.out.1,Nat.le_refl _,fun y hy=>?_⟩;rcases Y.out.2.2 y hy with e|e
  ·rw [e]; exact hle
  ·exact Nat.le_trans HX.out.size e
 |none=>
  rw [hjr] at HJ hXX;simp only at HJ hXX;obtain ⟨gr,hgr⟩:=ey (D.greatest D.n);have hgl:gr<4294967296:=by rw [<- hgr]; exact D.greatest_lt _
  rw [hgr] at hXX;obtain ⟨g1,hg1⟩:∃ g1,(gr+1) % 4294967296=g1:=⟨_,rfl⟩;have hg1l:g1<4294967296:=by rw [<- hg1]; exact Nat.mod_lt _ (by decide)
  rw [hg1] at hXX;have hwg:IntKind.u32.wrap ((gr:Int)+1)=(g1:Int):=by rw [<- hg1]; simp only [IntKind.wrap,IntKind.bits,IntKind.signed]; simp
  obtain ⟨Y,hY⟩:=ey (D.put 0 (beginB g1 id));rw [hY] at hXX;have herr:Y.1=0\/Y.1=4:=by rw [<- hY]; exact Dm.put_err _ _ _
  obtain ⟨yc,Yd⟩:=Y;simp only at herr hXX;have HY:=H3 hY hXX hgr;clear hjr hY hXX hg1 hgr;go_wp2_with fail;refine HJ.mono ?_;rintro e w5 ⟨rfl,hb5⟩;have hb6:=next hb5 (aa0 w5 (.cells #[.pointer none,I 0,I 0,U 0] 109));obtain ⟨hbb,hH4,L0⟩:=HX.out;have hH6:=hH4.held hb6;have L6:=L0.held hb6;have hb7:=next hbb hb6;clear a0 a1 a2 a3 a4 a5 a6 a7 HJ hb5 hb6 hbb hH4 L0 HX s0 s1 s2 s3;have a0:=hH6.at_ 0;have a1:=hH6.at_ 1;have a2:=hH6.at_ 2;have a3:=hH6.at_ 3;have l4:=L6.at_ 4;have l5:=L6.at_ 5;have l6:=L6.at_ 6;have l7:=L6.at_ 7;have f4:=L6.free 4;have f5:=L6.free 5;have f6:=L6.free 6;have f7:=L6.free 7;have L7:=(((L6.store 4 (K d)).store 5 (I 0)).store 6 (I half)).store 7 (U 0);have hb8:=(((hb7.setCell (p:=⟨w2.heap.size,4,none⟩) hle (K d)).setCell (p:=⟨w2.heap.size,5,none⟩) hle (I 0)).setCell (p:=⟨w2.heap.size,6,none⟩) hle (I half)).setCell (p:=⟨w2.heap.size,7,none⟩) hle (U 0);have HG:=cj1 (HH.out.1.held hb8);rw [HY.out.2.2] at HG;have HX:=H2 L7 hb8;clear L6 L7 hb7 hb8 hH6;go_wp2_with fail;generalize ((((w5.alloc (.cells #[.pointer none,I 0,I 0,U 0] 109)).setCell (Aa w2.heap.size 4) (K d)).setCell (Aa w2.heap.size 5) (I 0)).setCell (Aa w2.heap.size 6) (I half)).setCell (Aa w2.heap.size 7) (U 0)=w7 at*;refine HG.mono ?_;rintro e w8 ⟨rfl,hb9⟩;have L7:Blk 111 w7 w2.heap.size #[U id,U 0,.map none,.map none,K d,I 0,I half,U 0,I 0,O false]:=HX.out.1;have L8:=L7.held hb9;have hb10:=next HX.out.2 hb9;have L9:Blk 111 (w8.setCell (Aa w2.heap.size 7) (U g1)) w2.heap.size #[U id,U 0,.map none,.map none,K d,I 0,I half,U g1,I 0,O false]:=L8.store 7 (U g1);have hb11:=hb10.setCell (p:=⟨w2.heap.size,7,none⟩) hle (U g1);have hS9:St 111 (lgX d 0 half g1 0 false) (w8.setCell (Aa w2.heap.size 7) (U g1)) w2.heap.size none none id 0 0 0 (fun _=>none) (fun _=>none):=
   ⟨L9,HS.out.owns.of_block (fun _ h=>by cases h),HS.out.floors.of_block (fun _ h=>by cases h),HS.out.apart,HS.out.small,HS.out.lease_lt,HS.out.counts⟩
  have hBG:Q 141 #[K w2.heap.size,.agg #[K d,I 0,I half,U g1]] (w8.setCell (Aa w2.heap.size 7) (U g1)) _:=
   bn6 hS9 (HH.out.1.held hb11) (first:=0) (size:=half) (gen:=g1) G hg1l h0 h1 HY.out.1
  clear l4 l5 l6 l7 f4 f5 f6 f7 a0 a1 a2 a3 HG L7;have f7:=L8.free 7;have l7:=L8.at_ 7;have HX2:=H2 hS9 hb11;have l4:=L9.at_ 4;have l5:=L9.at_ 5;have l6:=L9.at_ 6;have l7':=L9.at_ 7;clear L8 L9 hb9 hb10 hb11 hS9 HX;rcases herr with rfl|rfl
  ·go_wp2_with fail
   refine hBG.mono ?_;rintro e w10 ⟨rfl,hD,hT⟩;obtain ⟨hS9,hb11⟩:=HX2.out;have hlts:=(Dk.head HH.out.1).lt;have hltM:=(Dk.map HH.out.1).lt;have hltS:=Dk.ltS HH.out.1;have hS10:=hS9.turn hT (fun x hx=>by
    rcases ab6.1 hx with rfl|h|h
    ·simp; omega
    ·cases h
    ·cases h)
   have hTT:=(Turn.of_below [d,S,M] hb11).trans hT;have hXX:=HY.out.2.1;rw [if_neg (by decide)] at hXX;injection hXX with e1 hXX;injection hXX with e2 e3;subst e1 e2 e3;clear hBG hT hb11 hS9 HX2 l4 l5 l6 l7 l7' f7;go_wp2_with fail;go_ret2;refine ⟨hD,hTT,?_⟩;unfold OpenedG;refine ⟨rfl,w2.heap.size,none,none,0,rfl,⟨0,0,Nat.le_refl _,hS10⟩,Nat.le_refl _,fun y hy=>?_⟩;rcases ab6.1 hy with rfl|h|h
   ·exact hle
   ·cases h
   ·cases h
  ·go_wp2_with fail
   refine hBG.mono ?_;rintro e w10 ⟨rfl,hD,hT⟩;have hTT:=(Turn.of_below [d,S,M] HX2.out.2).trans hT;have hXX:=HY.out.2.1;rw [if_pos (by decide)] at hXX;injection hXX with e1 hXX;injection hXX with e2 e3;subst e1 e2 e3;clear hBG hT HX2 l4 l5 l6 l7 l7' f7;go_wp2_with fail;go_ret2;exact ⟨hD,hTT,by unfold OpenedG; exact ⟨rfl,by decide⟩⟩
end
end
end Go.Proofs.YtafkfnodcemefaaGreat
