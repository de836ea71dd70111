import Derived.Test.YtbepbkidkjblgaaGreatB29
import Derived.Test.YtbepbkidkjblgaaGreatB30
set_option maxHeartbeats 8000000
namespace Go.Proofs.YtbepbkidkjblgaaGreat
section
open Go.RowKit Go.Maps Rm
attribute [local go_sem] Oper.semAt_some
section
variable {w:World} {N MB n:Nat} {ms:Nat->Ma} {v:Value}
end
end
section
open Go.RowKit Go.Maps Rm
structure Rv where
 room:Nat
 sp:Nat
 M:Mr
structure Sv where
 d:Nat
 r:Option Rv
 c:Nat->Int
 z:Dz
def Ma.sv (m:Ma):Sv:=⟨m.d,m.r.map fun x=>⟨x.room,x.sp,x.M⟩,m.c,m.z⟩
def sets (st:Nat->Sv) (i:Nat) (s:Sv):Nat->Sv:=fun k=>if k=i then s else st k
theorem ab5 (st:Nat->Sv) (i:Nat) (s:Sv):sets st i s i=s:=by simp [sets]
theorem ab1 {st:Nat->Sv} {i k:Nat} (h:k≠i) (s:Sv):sets st i s k=st k:=by simp [sets,h]
abbrev Dg:=Nat×Nat×List Nat
structure Bn (w0 w:World) (N n:Nat) (st:Nat->Sv) (os:List Dg):Prop where
 ex:∃ MB ms v xs,Nw w N MB n ms v xs os/\(∀ i,i<n->(ms i).sv=st i)/\w0.heap.size<=N/\w0.heap.size<=MB/\(∀ i,i<n->∀ x,x∈(ms i).F->w0.heap.size<=x)/\(∀ x,v.ownBlock=some x->w0.heap.size<=x)/\Below w0.heap.size w0 w/\os.length<=256
section
variable {w0 w w':World} {N n:Nat} {st:Nat->Sv} {os:List Dg}
theorem Bn.below (h:Bn w0 w N n st os):Below w0.heap.size w0 w:=by
 obtain ⟨MB,ms,v,xs,hW,hst,b1,b2,b3,b4,hB,hl⟩:=h.ex;exact hB
theorem Bn.n8 (h:Bn w0 w N n st os):n<=8:=by
 obtain ⟨MB,ms,v,xs,hW,hst,b1,b2,b3,b4,hB,hl⟩:=h.ex;exact hW.nt.n8
theorem Bn.len (h:Bn w0 w N n st os):os.length<=256:=by
 obtain ⟨MB,ms,v,xs,hW,hst,b1,b2,b3,b4,hB,hl⟩:=h.ex;exact hl
theorem Bn.held (h:Bn w0 w N n st os) (hb:Below w.heap.size w w'):Bn w0 w' N n st os:=by
 obtain ⟨MB,ms,v,xs,hW,hst,b1,b2,b3,b4,hB,hl⟩:=h.ex;exact ⟨MB,ms,v,xs,hW.held hb,hst,b1,b2,b3,b4,hB.trans (hb.mono hB.size),hl⟩
theorem Bn.one {MB:Nat} {ms:Nat->Ma} {v:Value} {xs:List Pe} (hW:Nw w N MB n ms v xs os) (hst:∀ i,i<n->(ms i).sv=st i) (b1:w0.heap.size<=N) (b2:w0.heap.size<=MB) (b3:∀ i,i<n->∀ x,x∈(ms i).F->w0.heap.size<=x) (b4:∀ x,v.ownBlock=some x->w0.heap.size<=x) (hB:Below w0.heap.size w0 w) (hl:os.length<=256)
  {i:Nat} (hi:i<n) {m:Ma} {s:Sv} (hs:m.sv=s) (hN:Nt w' N MB n (puts ms i m) v) (t:Turn (MB::(ms i).F) w w') (hF:∀ y,y∈m.F->y∈(ms i).F\/w.heap.size<=y):Bn w0 w' N n (sets st i s) os:=by
 refine ⟨MB,puts ms i m,v,xs,hW.one hi hN t (fun x hx=>by simpa using hx) hF,fun k hk=>?_,b1,b2,fun k hk x hx=>?_,b4,hB.trans (t.below (fun y hy=>?_) hB.size),hl⟩
 ·by_cases e:k=i
  ·subst e; rw [aa3,ab5]; exact hs
  ·rw [aa2 e,ab1 e]; exact hst k hk
 ·by_cases e:k=i
  ·subst e
   rw [aa3] at hx;rcases hF x hx with e2|e2
   ·exact b3 k hk x e2
   ·exact Nat.le_trans hB.size e2
  ·rw [aa2 e] at hx; exact b3 k hk x hx
 ·rcases List.mem_cons.1 hy with e|e
  ·rw [e]; exact b2
  ·exact b3 i hi y e
def mrB (id d:Nat) (sm:Sm) (c:Nat->Int):Mr:=lks c 8 (mr1 id d sm)
end
end
section
open Go.RowKit Go.Maps Rm Fm Sb
section
variable {w0 w w':World} {N n:Nat} {st:Nat->Sv} {os:List Dg}
end
def Mo1 (p:Pk) (d id:Nat) (c:Nat->Int) (now:Int) (seq:Nat) (since:Int) (lease:Nat):Mr:=⟨id,⟨lease,fun q=>if q=p then some true else none,fun _=>none⟩,fun _=>none,c,now,seq,since,d⟩
def Ms (d id:Nat) (c:Nat->Int) (f:Ways) (now:Int):Mr:=⟨id,sm0,f,c,now,0,0,d⟩
theorem ak9 (dead:Rk->Bool):lessF (fun _=>none) dead=fun _=>none:=by
 funext k;unfold lessF;split<;>rfl
section
variable {p:Pk} {d id:Nat} {c:Nat->Int} {now:Int} {seq:Nat} {since:Int} {lease:Nat}
theorem Mo1.good:(Mo1 p d id c now seq since lease).Good:=fun k r h=>by cases h
theorem Mo1.aged:(Mo1 p d id c now seq since lease).aged=Mo1 p d id c (now+1) seq since lease:=by
 unfold Mr.aged Mo1;simp only [ak9]
theorem Mo1.advance_to {nx:Nat} (h:¬ (seq≠0/\now - since<12)) (hn:(if seq=0 then lease+1 else seq+1)=nx) (hb:nx+7<=1073741824):(Mo1 p d id c now seq since lease).advance=Mo1 p d id c now nx now (if nx<=lease then lease else max lease (nx+7)):=by
 have e:(Mo1 p d id c now seq since lease).next=nx:=hn;unfold Mr.advance;rw [if_neg (show ¬ ((Mo1 p d id c now seq since lease).seq≠0/\(Mo1 p d id c now seq since lease).now - (Mo1 p d id c now seq since lease).since<12) from h),e,if_pos (by omega)];unfold Mr.leased;by_cases hl:nx<=lease
 ·rw [if_pos (show nx<=(Mo1 p d id c now seq since lease).sm.lease from hl),if_pos hl]
  rfl
 ·rw [if_neg (show ¬ nx<=(Mo1 p d id c now seq since lease).sm.lease from hl),if_neg hl,show min (nx+7) 1073741824=nx+7 by omega]
  rfl
end
section
variable {d id:Nat} {c:Nat->Int} {now:Int}
theorem Ms.good:(Ms d id c (fun _=>none) now).Good:=fun k r h=>by cases h
end
section
variable {w0 w w':World} {N n:Nat} {st:Nat->Sv} {os:List Dg}
end
end
section
open Go.RowKit Go.Maps Rm
attribute [local go_sem] Oper.semAt_some
section
variable {w:World} {N MB n:Nat} {ms:Nat->Ma} {v:Value} {xs:List Pe} {os:List Dg}
end
section
variable {w0 w w':World} {N n:Nat} {st:Nat->Sv} {os:List Dg}
end
end
section
open Go.RowKit Go.Maps Rm Fm Sb
variable {O:Nat->Prop}{w w' w0:World}
structure Tu (O:Nat->Prop) (w0 w:World):Prop where
 os:w.os=w0.os
 tape:w.tape=w0.tape
 output:w.output=w0.output
 size:w0.heap.size<=w.heap.size
 block:∀ i,i<w0.heap.size->¬ O i->w.heap[i]?=w0.heap[i]?
 wide:∀ x,w.heap.size<=x->O x
theorem Tu.step {L:List Nat} (h:Tu O w0 w) (t:Turn L w w') (hL:∀ y,y∈L->O y):Tu O w0 w':=
 ⟨t.os.trans h.os,t.tape.trans h.tape,t.output.trans h.output,Nat.le_trans h.size t.size,fun i hi hn=>(t.block i (Nat.lt_of_lt_of_le hi h.size) (fun hm=>hn (hL i hm))).trans (h.block i hi hn),fun x hx=>h.wide x (Nat.le_trans t.size hx)⟩
theorem Tu.held (h:Tu O w0 w) (hb:Below w.heap.size w w'):Tu O w0 w':=h.step (.of_below [] hb) (fun y hy=>by cases hy)
theorem Tu.refl (h:∀ x,w.heap.size<=x->O x):Tu O w w:=⟨rfl,rfl,rfl,Nat.le_refl _,fun _ _ _=>rfl,h⟩
theorem Tu.below (h:Tu (fun x=>w0.heap.size<=x) w0 w):Below w0.heap.size w0 w:=⟨h.os,h.tape,h.output,h.size,fun i hi=>h.block i hi (by omega)⟩
theorem Tu.of_below (h:Below w0.heap.size w0 w):Tu (fun x=>w0.heap.size<=x) w0 w:=⟨h.os,h.tape,h.output,h.size,fun i hi _=>h.block i hi,fun _ hx=>Nat.le_trans h.size hx⟩
structure Bo (O:Nat->Prop) (w0 w:World) (N n:Nat) (st:Nat->Sv) (os:List Dg):Prop where
 ex:∃ MB ms v xs,Nw w N MB n ms v xs os/\(∀ i,i<n->(ms i).sv=st i)/\O N/\O MB/\(∀ i,i<n->∀ x,x∈(ms i).F->O x)/\(∀ x,v.ownBlock=some x->O x)/\Tu O w0 w/\os.length<=256
section
variable {O:Nat->Prop} {w0 w w':World} {N n:Nat} {st:Nat->Sv} {os:List Dg}
theorem Bo.tu (h:Bo O w0 w N n st os):Tu O w0 w:=by
 obtain ⟨MB,ms,v,xs,hW,hst,b1,b2,b3,b4,hB,hl⟩:=h.ex;exact hB
theorem Bo.n8 (h:Bo O w0 w N n st os):n<=8:=by
 obtain ⟨MB,ms,v,xs,hW,hst,b1,b2,b3,b4,hB,hl⟩:=h.ex;exact hW.nt.n8
theorem Bo.len (h:Bo O w0 w N n st os):os.length<=256:=by
 obtain ⟨MB,ms,v,xs,hW,hst,b1,b2,b3,b4,hB,hl⟩:=h.ex;exact hl
theorem Bo.held (h:Bo O w0 w N n st os) (hb:Below w.heap.size w w'):Bo O w0 w' N n st os:=by
 obtain ⟨MB,ms,v,xs,hW,hst,b1,b2,b3,b4,hB,hl⟩:=h.ex;exact ⟨MB,ms,v,xs,hW.held hb,hst,b1,b2,b3,b4,hB.held hb,hl⟩
theorem Bo.one {MB:Nat} {ms:Nat->Ma} {v:Value} {xs:List Pe} (hW:Nw w N MB n ms v xs os) (hst:∀ i,i<n->(ms i).sv=st i) (b1:O N) (b2:O MB) (b3:∀ i,i<n->∀ x,x∈(ms i).F->O x) (b4:∀ x,v.ownBlock=some x->O x) (hB:Tu O w0 w) (hl:os.length<=256)
  {i:Nat} (hi:i<n) {m:Ma} {s:Sv} (hs:m.sv=s) (hN:Nt w' N MB n (puts ms i m) v) (t:Turn (MB::(ms i).F) w w') (hF:∀ y,y∈m.F->y∈(ms i).F\/w.heap.size<=y):Bo O w0 w' N n (sets st i s) os:=by
 refine ⟨MB,puts ms i m,v,xs,hW.one hi hN t (fun x hx=>by simpa using hx) hF,fun k hk=>?_,b1,b2,fun k hk x hx=>?_,b4,hB.step t (fun y hy=>?_),hl⟩
 ·by_cases e:k=i
  ·subst e; rw [aa3,ab5]; exact hs
  ·rw [aa2 e,ab1 e]; exact hst k hk
 ·by_cases e:k=i
  ·subst e
   rw [aa3] at hx;rcases hF x hx with e2|e2
   ·exact b3 k hk x e2
   ·exact hB.wide _ e2
  ·rw [aa2 e] at hx; exact b3 k hk x hx
 ·rcases List.mem_cons.1 hy with e|e
  ·rw [e]; exact b2
  ·exact b3 i hi y e
end
section
variable {O O':Nat->Prop} {w0 w w':World} {N n:Nat} {st:Nat->Sv} {os:List Dg}
theorem Bo.beside (h:Bo O w0 w N n st os) {L:List Nat} (t:Turn L w w') (hL:∀ x,x∈L->¬ O x/\∃ tg C,tg≠5/\Blk tg w x C) (hO:∀ x,x<w.heap.size->O x->O' x) (hw:∀ x,w'.heap.size<=x->O' x):Bo O' w' w' N n st os:=by
 obtain ⟨MB,ms,v,xs,hW,hst,b1,b2,b3,b4,hB,hl⟩:=h.ex;have f1:∀ x,O x->x∉L:=fun x hx hm=>(hL x hm).1 hx
 refine ⟨MB,ms,v,xs,⟨hW.nt.turn t (f1 _ b1) (f1 _ b2) (fun i hi x hx=>f1 _ (b3 i hi x hx)),hW.wy.turn t (fun x hx hm=>?_),hW.apart⟩,hst,hO _ hW.nt.head.lt b1,hO _ hW.nt.mas.lt b2,fun i hi x hx=>hO _ ((hW.nt.mas.ok i hi).lt hx) (b3 i hi x hx),fun x hx=>hO _ (hW.wy.lt (.inl hx)) (b4 x hx),.refl hw,hl⟩;rcases hx with e|⟨p,hp,rfl⟩
 ·exact f1 _ (b4 x e) hm
 ·obtain ⟨i,hi,rfl⟩:=List.getElem_of_mem hp
  obtain ⟨-,tg,C,ht,hC⟩:=hL _ hm;have hr:=(hW.wy.row i hi (by rw [<- hW.wy.len]; exact hi)).2.2.2.1;obtain ⟨cur,q1,q2⟩:=hr;unfold Blk at hC q1;rw [hC] at q1;injection q1 with q1;injection q1 with q1 q3;exact ht q3
end
end
section
open Go.RowKit
attribute [local go_sem] Oper.semAt_some
end
section
open Go.RowKit Go.Maps Rm Fm Sb
def two (a b:Sv):Nat->Sv:=fun i=>if i=0 then a else b
section
variable {w0 w:World} {N n:Nat} {st:Nat->Sv} {os:List Dg}
end
def pg (p:Pk) (id s:Nat):List Nat:=T.Tm.page (T.Tm.parts ⟨p.a,p.n,id,s,0⟩ 0)
section
variable {p:Pk} {id s:Nat}
end
section
variable {w0 w:World} {N n:Nat} {st:Nat->Sv} {os:List Dg}
end
end
section
open Go.RowKit Go.Maps Rm Fm Sb
attribute [local go_sem] Oper.semAt_some
theorem Mo1.first {p:Pk} {d id:Nat} {c:Nat->Int} {now:Int}:(Mo1 p d id c now 0 0 0).advance=Mo1 p d id c now 1 now 8:=Mo1.advance_to (nx:=1) (by simp) rfl (by omega)
end
section
open Go.RowKit Go.Maps Rm Fm Sb
end
end Go.Proofs.YtbepbkidkjblgaaGreat
