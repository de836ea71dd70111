import Derived.Test.YtafkfnodcemefaaGreatB18
set_option maxHeartbeats 8000000
set_option maxRecDepth 100000
namespace Go.Proofs.YtafkfnodcemefaaGreat
open _root_.Go.Proofs.Tryz (prog)
section
open Go.RowKit Go.Maps Rm
end
section
open Go.RowKit Go.Maps Rm
attribute [local go_sem] Oper.semAt_some
def Mr.covered (M:Mr) (a:Nat) (len:Int) (id seq met:Nat):Mr:=if cov (M.sm.floor ⟨a,len,id⟩) seq met=true then M else { M with sm:=app M.sm ⟨4,0,0,id,a,len,false,seq,met⟩ }
end
section
open Go.RowKit Go.Maps Rm Fm Sb
attribute [local go_sem] Oper.semAt_some
variable {W w0:World}{A B B1 B2 D F0 F1 n n₀:Nat}{v:Value}{o:Option Nat}
def Ls2 (w0:World) (n₀ B A F0 F1:Nat) (rs:List En) (W:World):Prop:=Lsj w0 n₀ B F0 F1 rs W/\Blk 177 W A #[.func (.func 97) #[] #[K B]]
theorem bl9 {β:Type} {B':Nat} (f:β->List En) (h1:n₀<=w0.heap.size) (h2:n₀<=B'):OwnFrom B' (fun s W=>Ls2 w0 n₀ B A F0 F1 (f s) W):=
 OwnFrom.and (ci2 f h1 h2) (fun _ _ _ _ hs hg hr=>hs.grown hg hr)
theorem Ls2.alloc {rs:List En} (h:Ls2 w0 n₀ B A F0 F1 rs W) (h1:n₀<=w0.heap.size) (o:Obj):Ls2 w0 n₀ B A F0 F1 rs (W.alloc o):=⟨h.1.alloc h1 o,h.2.more o⟩
theorem ItP.count {f:Pk->Option Bool} {xs:List Pk} (h:ItP W B1 B2 v o n f xs):xs.length=n:=by
 have hnd:xs.Nodup:=h.srt.imp (fun {a b} h=>by rintro rfl; unfold ltP at h; omega)
 cases o with
 |none=>
  have:xs=[]:=List.eq_nil_iff_forall_not_mem.2 fun x hx=>by
   have h1:=((h.mem x).1 hx).2;have h2:(f x).map ownV=none:=h.map.2 x
   cases hf:f x with
   |none=>rw [hf] at h1; cases h1
   |some y=>rw [hf] at h2; cases h2
  rw [this,h.map.1];rfl
 |some b=>exact Mk.card h.map hnd (fun k=>by rw [h.mem k,Option.isSome_map]; exact Iff.rfl)
theorem ItK.count {f:Ky->Option (Nat×Nat)} {xs:List Ky} (h:ItK W B1 B2 v o n f xs):xs.length=n:=by
 have hnd:xs.Nodup:=h.srt.imp (fun {a b} h=>by rintro rfl; simp only [ltK,ltP] at h; omega)
 cases o with
 |none=>
  have:xs=[]:=List.eq_nil_iff_forall_not_mem.2 fun x hx=>by
   have h1:=((h.mem x).1 hx).2;have h2:(f x).map dV=none:=h.map.2 x
   cases hf:f x with
   |none=>rw [hf] at h1; cases h1
   |some y=>rw [hf] at h2; cases h2
  rw [this,h.map.1];rfl
 |some b=>exact Mk.card h.map hnd (fun k=>by rw [h.mem k,Option.isSome_map]; exact Iff.rfl)
theorem SjAt.put {es:List En} {o:Obj} (h:SjAt W v es) (hne:v.ownBlock≠some D):SjAt (W.putObj D o) v es:=by
 rcases h with ⟨rfl,rfl⟩|⟨g,cap,rfl,hgl,hc,F,hS,hF⟩
 ·exact .inl ⟨rfl,rfl⟩
 ·refine .inr ⟨g,cap,rfl,by rw [World.putObj_size]; exact hgl,hc,F,hS.of_block (World.putObj_heap_other fun e=>hne (by rw [e]; rfl)),hF⟩
theorem aq2 {k:Nat} {xs:List Value} {q:Option (List Deferred)} (h:W.ownsRow n₀ 142 3 v k xs) (hd:W.heap[D]?=some (.deferred q)):v.ownBlock≠some D:=by
 rcases h.2 with ⟨rfl,_⟩|⟨g,cap,cur,rfl,_,hg,_⟩
 ·simp [Value.ownBlock]
 ·intro e
  have e:g=D:=by simpa [Value.ownBlock] using e
  subst e;rw [hd] at hg
  cases hg
end
section
open Go.RowKit Go.Maps Rm Fm Sb
variable {M:Mr}{rs:List En}
def En.pk (e:En):Pk:=⟨e.a,e.n⟩
theorem cw7 {x y:En}:Sm1 x y↔En.pk x=En.pk y:=by
 unfold Sm1 En.pk;constructor
 ·rintro ⟨h1,h2⟩; rw [h1,h2]
 ·intro h; simp at h; exact h
theorem ar4 {f:Nat->En}:∀ {n:Nat},(∀ i j,i<j->j<n->ltP (En.pk (f i)) (En.pk (f j))\/En.pk (f i)=En.pk (f j))->
  ((keepE f n).map En.pk).Pairwise ltP/\(∀ e,e∈keepE f n->∃ i,i<n/\f i=e/\∀ j,j<i->En.pk (f j)≠En.pk e)/\∀ i,i<n->∃ e,e∈keepE f n/\En.pk e=En.pk (f i)
 |0,_=>⟨by simp [keepE],fun e he=>by simp [keepE] at he,fun i hi=>absurd hi (Nat.not_lt_zero _)⟩
 |n+1,hs=>by
  obtain ⟨h1,h2,h3⟩:=ar4 (n:=n) fun i j a b=>hs i j a G
  rw [ah0];by_cases h:n=0\/¬ Sm1 (f n) (f (n - 1))
  ·rw [if_pos h]
   have hlt:∀ i,i<n->ltP (En.pk (f i)) (En.pk (f n)):=fun i hi=>by
    have hne:¬ Sm1 (f n) (f (n - 1)):=by rcases h with h|h; omega; exact h
    rw [cw7] at hne;have hb:ltP (En.pk (f (n - 1))) (En.pk (f n)):=by
     rcases hs (n - 1) n G G with h|h
     ·exact h
     ·exact absurd h.symm hne
    by_cases c:i=n - 1
    ·subst c; exact hb
    ·rcases hs i (n - 1) G G with h|h
     ·unfold ltP at*; omega
     ·rw [h]; exact hb
   refine ⟨?_,fun e he=>?_,fun i hi=>?_⟩
   ·rw [List.map_append]
    refine List.pairwise_append.2 ⟨h1,sn,fun a ha b hb=>?_⟩;simp at hb;subst hb;obtain ⟨e,he,rfl⟩:=List.mem_map.1 ha;obtain ⟨i,hi,rfl,-⟩:=h2 e he;exact hlt i hi
   ·rcases List.mem_append.1 he with he|he
    ·obtain ⟨i,hi,e1,e2⟩:=h2 e he
     exact ⟨i,G,e1,e2⟩
    ·simp at he
     subst he;exact ⟨n,G,rfl,fun j hj e=>by have:=hlt j hj; rw [e] at this; unfold ltP at this; omega⟩
   ·by_cases c:i=n
    ·subst c; exact ⟨f i,sn,rfl⟩
    ·obtain ⟨e,he,e1⟩:=h3 i G
     exact ⟨e,by simp [he],e1⟩
  ·rw [if_neg h,List.append_nil]
   have h0:n≠0/\Sm1 (f n) (f (n - 1)):=by
    refine ⟨fun e=>h (.inl e),?_⟩;by_cases c:Sm1 (f n) (f (n - 1))
    ·exact c
    ·exact absurd (.inr c) h
   refine ⟨h1,fun e he=>?_,fun i hi=>?_⟩
   ·obtain ⟨i,hi,e1,e2⟩:=h2 e he
    exact ⟨i,G,e1,e2⟩
   ·by_cases c:i=n
    ·subst c
     obtain ⟨e,he,e1⟩:=h3 (i - 1) G;exact ⟨e,he,e1.trans (cw7.1 h0.2).symm⟩
    ·exact h3 i G
theorem bj9 {A B:List En} {ds:List De} (hA:∀ e∈A,e.on=true) (hB:∀ e∈B,e.on=false) (h:SortOf (A++B) ds):
  ((keepE (fun i=>(ds.map (·.e))[i]!) (ds.map (·.e)).length).map En.pk).Pairwise ltP/\
  ∀ e,e∈keepE (fun i=>(ds.map (·.e))[i]!) (ds.map (·.e)).length↔(∃ x∈A,En.pk x=En.pk e)/\e.on=true\/(¬ ∃ x∈A,En.pk x=En.pk e)/\(∃ x∈B,En.pk x=En.pk e)/\e.on=false:=by
 have hat:∀ i (hi:i<ds.length),(ds.map (·.e))[i]! =ds[i].e:=fun i hi=>by simp [hi]
 have hlen:(ds.map (·.e)).length=ds.length:=sn;rw [hlen];obtain ⟨k1,k2,k3⟩:=ar4 (f:=fun i=>(ds.map (·.e))[i]!) (n:=ds.length) fun i j a b=>by
  have:=h.srt i j a b;simp only [hat i G,hat j b];unfold Lx at this;unfold ltP En.pk;rcases this with h|h
  ·exact .inl (.inl h)
  ·by_cases c:ds[i].e.a=ds[j].e.a/\ds[i].e.n=ds[j].e.n
   ·right; rw [c.1,c.2]
   ·left; simp only; omega
 have hAt:∀ k (hk:k<(A++B).length),((A++B)[k].on=true↔k<A.length)/\((A++B)[k].on=false↔A.length<=k):=fun k hk=>by
  by_cases c:k<A.length
  ·rw [List.getElem_append_left c]
   have:=hA _ (List.getElem_mem c);simp [this,c]
  ·rw [List.getElem_append_right G]
   have:=hB _ (List.getElem_mem (l:=B) (n:=k - A.length) (by simp at hk; omega));simp [this];omega
 have fwd:∀ e,e∈keepE (fun i=>(ds.map (·.e))[i]!) ds.length->(∃ x∈A,En.pk x=En.pk e)/\e.on=true\/(¬ ∃ x∈A,En.pk x=En.pk e)/\(∃ x∈B,En.pk x=En.pk e)/\e.on=false:=by
  intro e he;obtain ⟨i,hi,e1,e2⟩:=k2 e he;simp only [hat i hi] at e1;obtain ⟨hl,e3⟩:=h.at_ i hi;rw [e1] at e3;by_cases c:ds[i].i<A.length
  ·refine .inl ⟨⟨e,?_,rfl⟩,?_⟩
   ·rw [e3,List.getElem_append_left c]; exact List.getElem_mem c
   ·rw [e3]; exact (hAt _ hl).1.2 c
  ·refine .inr ⟨?_,⟨e,?_,rfl⟩,?_⟩
   ·rintro ⟨x,hx,ex⟩
    obtain ⟨k',hk',rfl⟩:=List.mem_iff_getElem.1 hx;obtain ⟨p,hp,ep⟩:=h.all k' (by simp; omega);obtain ⟨hp1,hp2⟩:=h.at_ p hp;have hpk:ds[p].e=A[k']:=by rw [hp2]; simp only [ep]; exact List.getElem_append_left hk'
    rcases Nat.lt_trichotomy p i with g|g|g
    ·refine e2 p g ?_
     simp only [hat p hp];rw [hpk,ex]
    ·subst g; omega
    ·have hx:=h.srt i p g hp
     unfold Lx at hx;rw [hpk,e1] at hx;unfold En.pk at ex;simp at ex;omega
   ·rw [e3,List.getElem_append_right G]; exact List.getElem_mem _
   ·rw [e3]; exact (hAt _ hl).2.2 G
 refine ⟨k1,fun e=>⟨fwd e,fun he=>?_⟩⟩;have hex:∃ x∈A++B,En.pk x=En.pk e:=by
  rcases he with ⟨⟨x,hx,ex⟩,-⟩|⟨-,⟨x,hx,ex⟩,-⟩
  ·exact ⟨x,by simp [hx],ex⟩
  ·exact ⟨x,by simp [hx],ex⟩
 obtain ⟨x,hx,ex⟩:=hex;obtain ⟨k',hk',rfl⟩:=List.mem_iff_getElem.1 hx;obtain ⟨p,hp,ep⟩:=h.all k' hk';obtain ⟨hp1,hp2⟩:=h.at_ p hp;obtain ⟨e',he',ee⟩:=k3 p hp;simp only [hat p hp] at ee;have hpk:ds[p].e=(A++B)[k']:=by rw [hp2]; simp only [ep]
 rw [hpk,ex] at ee;have hon:e'.on=e.on:=by
  rcases fwd e' he' with ⟨hh,h1⟩|⟨hh,-,h1⟩<;>rw [ee] at hh<;>rcases he with ⟨g,h2⟩|⟨g,-,h2⟩
  ·rw [h1,h2]
  ·exact absurd hh g
  ·exact absurd g hh
  ·rw [h1,h2]
 have:e'=e:=by
  cases e'
  cases e;simp only [En.pk,Pk.mk.injEq] at ee;simp only at hon;rw [ee.1,ee.2,hon]
 rw [<- this];exact he'
def Mr.ans (M:Mr) (p:Pk):Prop:=(p.ok/\(M.sm.own p).isSome=true)\/∃ id,Ky.ok ⟨p.a,p.n,id⟩/\(M.sm.floor ⟨p.a,p.n,id⟩).isSome=true
def Mr.ways (M:Mr) (p:Pk):Prop:=∃ fr,Rk.ok ⟨p.a,p.n,fr⟩/\(M.f ⟨p.a,p.n,fr⟩).isSome=true
structure Subj (M:Mr) (rs:List En):Prop where
 asc:(rs.map En.pk).Pairwise ltP
 mem:∀ e,e∈rs↔M.ans (En.pk e)/\e.on=true\/¬ M.ans (En.pk e)/\M.ways (En.pk e)/\e.on=false
theorem Subj.unique {rs':List En} (h:Subj M rs) (h':Subj M rs'):rs=rs':=by
 have nd:∀ l:List En,(l.map En.pk).Pairwise ltP->l.Pairwise fun x y=>ltP (En.pk x) (En.pk y):=fun l hl=>List.pairwise_map.1 hl
 have h1:=nd _ h.asc;have h2:=nd _ h'.asc;have hd:∀ l:List En,(l.Pairwise fun x y=>ltP (En.pk x) (En.pk y))->l.Nodup:=fun l hl=>hl.imp fun {a b} hab e=>by subst e; unfold ltP at hab; omega
 exact List.Perm.eq_of_pairwise (fun a b _ _ hab hba=>by unfold ltP at hab hba; omega) h1 h2 ((List.perm_ext_iff_of_nodup (hd _ h1) (hd _ h2)).2 fun e=>(h.mem e).trans (h'.mem e).symm)
theorem Subj.none (h:Subj M rs) (ha:∀ p,¬ M.ans p) (hw:∀ p,¬ M.ways p):rs=[]:=
 List.eq_nil_iff_forall_not_mem.2 fun e he=>((h.mem e).1 he).elim (fun x=>ha _ x.1) (fun x=>hw _ x.2.1)
theorem Subj.one (h:Subj M rs) {a:Nat} {len:Int} (ha:∀ p,M.ans p↔p=⟨a,len⟩) (hw:∀ p,M.ways p->p=⟨a,len⟩):rs=[⟨a,len,true⟩]:=by
 refine h.unique ⟨by simp,fun e=>?_⟩
 cases e with
 |mk ea en on=>
  simp only [List.mem_singleton,En.pk,En.mk.injEq];constructor
  ·rintro ⟨rfl,rfl,rfl⟩
   exact .inl ⟨(ha _).2 rfl,rfl⟩
  ·rintro (⟨h1,h2⟩|⟨h1,h2,h3⟩)
   ·have:=(ha _).1 h1
    simp at this;exact ⟨this.1,this.2,h2⟩
   ·have:=hw _ h2
    exact absurd ((ha _).2 this) h1
theorem Subj.way (h:Subj M rs) {a:Nat} {len:Int} (ha:∀ p,¬ M.ans p) (hw:∀ p,M.ways p↔p=⟨a,len⟩):rs=[⟨a,len,false⟩]:=by
 refine h.unique ⟨by simp,fun e=>?_⟩
 cases e with
 |mk ea en on=>
  simp only [List.mem_singleton,En.pk,En.mk.injEq];constructor
  ·rintro ⟨rfl,rfl,rfl⟩
   exact .inr ⟨ha _,(hw _).2 rfl,rfl⟩
  ·rintro (⟨h1,h2⟩|⟨h1,h2,h3⟩)
   ·exact absurd h1 (ha _)
   ·have:=(hw _).1 h2
    simp at this;exact ⟨this.1,this.2,h3⟩
end
section
open Go.RowKit Go.Maps Rm
attribute [local go_sem] Oper.semAt_some
def Mr.leased (M:Mr) (s:Nat):Mr:=if s<=M.sm.lease then M else { M with sm:=app M.sm ⟨3,0,0,0,0,0,false,min (s+7) 1073741824,0⟩ }
theorem bm2 (s:Nat) (h:s<=1073741824):right ⟨3,0,0,0,0,0,false,s,0⟩=true:=by
 rw [<- ai8];unfold right2;rw [show Am.right 0 0=true by decide];simp;omega
def Mr.next (M:Mr):Nat:=if M.seq=0 then M.sm.lease+1 else M.seq+1
def Mr.advance (M:Mr):Mr:=if M.seq≠0/\M.now - M.since<12 then M else if M.next<=1073741824 then { M.leased M.next with seq:=M.next,since:=M.now } else M
theorem au0 (M:Mr) (s:Nat) (t:Int) (o fl:Option Nat) (j:Jr) (tb:Option Nat):((M.C o fl j tb).setIfInBounds 20 (U s)).setIfInBounds 21 (I t)=({ M with seq:=s,since:=t }:Mr).C o fl j tb:=rfl
end
section
open Go.RowKit Go.Maps Rm Fm Sb
attribute [local go_sem] Oper.semAt_some
theorem cq0 {w:World} {R:Nat} {o fl tb:Option Nat} {j:Jr} {N n:Nat} {M:Mr} (h:Rr w R o fl tb j N n M):
  Q 81 #[Pt R] w fun e w'=>∃ xs:List Pk,e= .returned (I xs.length)/\xs.Pairwise ltP/\(∀ x,x∈xs↔x.ok/\(M.sm.own x).isSome=true)/\Bw w w':=by
 obtain ⟨hb1,hBx⟩:=nw w 3 #[I 0];have h1:=h.held hb1;have HST:=ac4 h1;have HR:=Z h;refine (callsIn_wide (n:=9)).1 ?_;refine callsIn_of_wp_marks Tryz.func81 rfl trivial ?_ rfl;simp only [Tryz.ntmps81,List.size_toArray,List.length_cons,List.length_nil,Nat.reduceAdd,Nat.reduceSub,Array.replicate_succ,Array.replicate_zero,List.push_toArray,List.append_toArray,List.nil_append,List.cons_append];clear h
 gi_wp2
 have hz:(w.alloc (.cells #[I 0] 3)).heap.size=w.heap.size+1:=aa1 w _;generalize w.alloc _=w1 at*;refine ⟨trivial,(aa7 HST).mono ?_⟩;rintro e w1' ⟨rfl,hb1'⟩;have hR1:=h1.held hb1';obtain ⟨cn,cm,hnm,hS⟩:=hR1.nt;have HO:=bb5 hS;clear HST
 gi_wp2
 refine ⟨trivial,(aa7 HO).mono ?_⟩;rintro e w2 ⟨B1,B2,B3,v1,oo,xs,rfl,hI,h3,hfr,hB3,hB⟩;clear HO
 gi_wp2
 have hbb:=next hb1' hB;have hsz2:=hbb.size;have hsz1:=hb1'.size;obtain ⟨es,hE⟩:=bt7 (f:=M.sm.own) (fun _ _ _=>rfl) xs (fun x hx=>(hI.mem x).1 hx);have hxs:es.length=xs.length:=by rw [<- show es.map (·.key)=xs from hE]; simp
 have hlenE:es.length<=1000000000:=by
  have:=hI.len;have:=hS.counts;omega
 have h1w:w.heap.size<=w.heap.size:=Nat.le_refl _;refine bc5 (α:=ElP M.sm.own) rfl am8 (au9 hI hE h3) (fun _=>rfl) (fun h k=>⟨h.1.trans k.1,fun b C hb=>k.2 b C (h.2 b C hb)⟩) (fun W l o o' hl h hc hw=>⟨af8 hI.lt W l o o' hl h hc hw,KeepT.put W l o o' h hc⟩)
  (fun pre W=>Blk 3 W w.heap.size #[I (pre.length:Int)]/\Bw w W) (OwnFrom.and (fun _ _ _ _ hs hg hr=>hs.grown hg hr) (ownFrom_below h1w G)) ⟨hBx.held hbb,next hb1 hbb⟩
  (fun x a' W=>a'={ tmps:=#[Pt R,undef,I 0,Pt w.heap.size,Pt R,Pt R,.func (.func 125) #[] #[Pt B3],.agg #[U x.key.a,I x.key.n],O x.val,undef,undef,undef],defers:=[] })
  ?_ ?assign ?body ?done
 ·rintro x a' s W W' row rfl hg hr
  rfl
 case assign=>
  rintro l pre ⟨⟨xa,xn⟩,y,hok,hfit,hhas⟩ W K hL hK;simp only [arO,clP]
  gi_wp2
  exact hK _ _ (KeepsFrom.refl _ _) ⟨⟨Keep.refl _ _,Nat.le_refl _⟩,fun _ _ h=>h⟩ hL rfl
 case body=>
  rintro l pre ⟨⟨xa,xn⟩,y,hok,hfit,hhas⟩ a' W ⟨hL,hbw⟩ rfl hlt;have p0:=hL.at_ 0;have f0:=hL.free 0;have hlt2:(pre.length:Int)<=1000000000:=G
  have X:=H2 hL hbw;clear hL hbw
  gi_wp2
  have hne:∀ {b},b∈itL B1 B2 v1 oo->b≠w.heap.size:=fun {b} hb e=>by
   have:=hfr b hb;omega
  refine ⟨(KeepsOthers.setCell _ _ _).from _,⟨⟨fun b hb=>Below.heap_setCell _ _ _ _ (hne hb),(KeepsOthers.setCell W _ _).size⟩,fun b C hb=>hb.away ?_ _⟩,?_,X.out.2.setCell (Nat.le_refl _) _⟩
  ·exact hb.ne X.out.1 (by decide)
  ·have e:=X.out.1.store 0 (I ((pre.length:Int)+1))
   simpa using e
 case done=>
  rintro D es' W hD rfl ⟨hL,hbw⟩ hK;have p0:=hL.at_ 0
  gi_wp2
  refine ⟨by simp,.inl ⟨_,_,rfl,run_takeDeferred hK,_,results_tmp rfl _ _ _,xs,rfl,hI.srt,hI.mem,?_⟩⟩;exact hbw.grown (grownBy_putObj' _ _ _) hbw.size (fun k e=>by cases e; omega)
end
section
open Go.RowKit Go.Maps Rm
attribute [local go_sem] Oper.semAt_some
end
end Go.Proofs.YtafkfnodcemefaaGreat
