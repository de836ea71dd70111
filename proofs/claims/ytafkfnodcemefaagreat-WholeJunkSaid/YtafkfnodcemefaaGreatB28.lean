import Derived.Test.YtafkfnodcemefaaGreatB27
set_option maxHeartbeats 8000000
namespace Go.Proofs.YtafkfnodcemefaaGreat
open _root_.Go.Proofs.Tryz (prog)
section
open Go.RowKit Go.Maps Rm
structure Rn where
 R:Nat
 room:Nat
 sp:Nat
 M:Mr
structure Dz where
 id:Nat
 room:Nat
 sm:Sm
structure Ma where
 d:Nat
 r:Option Rn
 F:List Nat
 c:Nat->Int
 z:Dz
def Ma.rv (m:Ma):Value:= .pointer (m.r.map fun x=>⟨x.R,0,none⟩)
def Ma.cells (m:Ma):List Value:=[m.rv,K m.d,I (m.c 0),I (m.c 1),I (m.c 2),I (m.c 3),I (m.c 4),I (m.c 5),I (m.c 6),I (m.c 7)]
def Ma.ok (w:World) (m:Ma):Prop:=match m.r with
 |none=>∃ S Mp,m.F=[m.d,S,Mp]/\Lies w m.d S Mp m.z.id m.z.room m.z.sm
 |some x=>Rz m.F w x.R x.room x.sp x.M/\x.M.d=m.d
section
variable {w w':World} {m:Ma}
end
structure Mas (w:World) (MB n:Nat) (ms:Nat->Ma):Prop where
 rows:∃ C,Blk 88 w MB C/\C.size=n*10/\∀ i,i<n->∀ j v,(ms i).cells[j]?=some v->C[i*10+j]?=some v
 ok:∀ i,i<n->(ms i).ok w
 apart:∀ i k,i<n->k<n->i≠k->∀ x,x∈(ms i).F->x∉(ms k).F
 mb:∀ i,i<n->MB∉(ms i).F
structure Nt (w:World) (N MB n:Nat) (ms:Nat->Ma) (v:Value):Prop where
 head:Blk 84 w N #[Lt MB n n,v]
 mas:Mas w MB n ms
 ne:N≠MB
 nF:∀ i,i<n->N∉(ms i).F
 n1:1<=n
 n8:n<=8
section
variable {w w':World} {N MB n:Nat} {ms:Nat->Ma} {v:Value}
end
end
section
open Go.RowKit Go.Maps Rm
attribute [local go_sem] Oper.semAt_some
section
variable {w:World} {N MB n:Nat} {ms:Nat->Ma} {v:Value}
end
def lks (c:Nat->Int):Nat->Mr->Mr
 |0,M=>M
 |k+1,M=>(lks c k M).link k (c k)
def Ma.run (m:Ma) (x:Rn) (F:List Nat):Ma:=⟨m.d,some x,F,m.c,m.z⟩
section
variable {w wr:World} {N MB n i d:Nat} {ms:Nat->Ma} {v:Value} {L:List Nat} {c:Nat->Int} {z:Dz} {R room sp k:Nat} {M:Mr}
end
section
variable {w:World} {N MB n:Nat} {ms:Nat->Ma} {v:Value}
end
section
variable {w:World} {N MB n:Nat} {ms:Nat->Ma} {v:Value}
end
def zma:List Value:=[.pointer none,.pointer none,I 0,I 0,I 0,I 0,I 0,I 0,I 0,I 0]
theorem bb9:∃ i,prog.info? 88=some i/\i.zero=some (.agg zma.toArray)/\i.size=10/\i.bytes=80:=by
 have h:(prog.info? 88).map (fun i=>(i.zero,i.size,i.bytes))=some (some (.agg zma.toArray),10,80):=X
 exact info_parts h
def zms (n:Nat):Array Value:=madeCells zma.toArray (n*10)
theorem bp4 (n:Nat):(zms n).size=n*10:=size_madeCells _ _
theorem cy2 {n i j:Nat} (hi:i<n) (hj:j<10):(zms n)[i*10+j]?=zma[j]?:=by
 have hs:=bp4 n;rw [Array.getElem?_eq_getElem G];unfold zms madeCells;have hm:(i*10+j) % 10=j:=G
 have:j=0\/j=1\/j=2\/j=3\/j=4\/j=5\/j=6\/j=7\/j=8\/j=9:=G
 rcases this with rfl|rfl|rfl|rfl|rfl|rfl|rfl|rfl|rfl|rfl<;>simp [zma,hm]
theorem ap5 (n:Nat) (hn:n<=512) (w:World):(Instr.makeSlice 81 (I (n:Int)) (I (n:Int))).run prog w= .ok (Lt w.heap.size n n) (w.alloc (.cells (zms n) 88)):=by
 obtain ⟨i,h1,h2,h3,h4⟩:=bb9;have h:=run_make (P:=prog) w 81 88 i _ X h1 h2 .i64 .i64 (n:Int) (n:Int) G G (by rw [h4]; omega) G;simpa [h3,zms,Value.cells] using h
structure Pe where
 frm:Nat
 dst:Nat
 g:Nat
 n:Nat
 cap:Nat
def pcl (x:Pe):List Value:=[I x.frm,I x.dst,Lt x.g x.n x.cap]
theorem elemW:Elem prog 82 53 pcl 3 40:=⟨by kernel_rfl,ae2 (z:= .agg #[I 0,I 0,.slice none 0 0]) X rfl,G,fun _=>rfl,fun x v hv=>by simp only [pcl,List.mem_cons,List.not_mem_nil,or_false] at hv; rcases hv with rfl|rfl|rfl<;>rfl,G⟩
structure Wy (v:Value) (os:List (Nat×Nat×List Nat)) (xs:List Pe) (W:World):Prop where
 own:Ol 53 pcl 3 0 v xs W
 len:xs.length=os.length
 row:∀ i (h:i<xs.length) (h':i<os.length),xs[i].frm=os[i].1/\xs[i].dst=os[i].2.1/\xs[i].n=os[i].2.2.length/\T.Ob W xs[i].g xs[i].cap os[i].2.2/\v.ownBlock≠some xs[i].g
def inW (v:Value) (xs:List Pe) (x:Nat):Prop:=v.ownBlock=some x\/∃ p,p∈xs/\p.g=x
theorem Wy.nil (W:World):Wy (.slice none 0 0) [] [] W:=⟨Ol.nil _ _,rfl,fun i h=>by simp at h⟩
section
variable {v:Value} {os:List (Nat×Nat×List Nat)} {xs:List Pe} {W W':World}
theorem Wy.turn {L:List Nat} (h:Wy v os xs W) (t:Turn L W W') (hL:∀ x,inW v xs x->x∉L):Wy v os xs W':=
 ⟨h.own.turn t fun b e=>hL b (.inl e),h.len,fun i hi hi'=>by obtain ⟨a,b,c,d,e⟩:=h.row i hi hi'; exact ⟨a,b,c,d.turn t (hL _ (.inr ⟨_,List.getElem_mem hi,rfl⟩)),e⟩⟩
theorem Wy.held (h:Wy v os xs W) (hb:Below W.heap.size W W'):Wy v os xs W':=
 ⟨h.own.held hb,h.len,fun i hi hi'=>by obtain ⟨a,b,c,d,e⟩:=h.row i hi hi'; exact ⟨a,b,c,d.held hb,e⟩⟩
theorem Wy.lt (h:Wy v os xs W) {x:Nat} (hx:inW v xs x):x<W.heap.size:=by
 rcases hx with e|⟨p,hp,rfl⟩
 ·exact (h.own.lt e).1
 ·obtain ⟨i,hi,rfl⟩:=List.mem_iff_getElem.1 hp
  exact (h.row i hi (by rw [<- h.len]; exact hi)).2.2.2.1.lt
theorem Wy.push (h:Wy v os xs W) {a b g cap:Nat} {bs:List Nat} (hv:v.ownBlock≠some g) (ho:T.Ob W g cap bs) (hbig:os.length<=1000000000):
  ∃ g' cap' W',(Builtin.append_ #[82,82] 82 #[v,Lt W.heap.size 1 1]).run prog (W.alloc (.cells #[I a,I b,Lt g bs.length cap] 53))= .ok (Lt g' (os.length+1) cap') W'/\
   Wy (Lt g' (os.length+1) cap') (os++[(a,b,bs)]) (xs++[⟨a,b,g,bs.length,cap⟩]) W'/\Turn v.ownBlock.toList W W'/\(v.ownBlock=some g'\/W.heap.size<g'):=by
 obtain ⟨g',cap',W',hrun,hO,hT,hat⟩:=Ol.push1 elemW h.own (Nat.zero_le _) ⟨a,b,g,bs.length,cap⟩ (by rw [h.len]; omega) 82;rw [h.len] at hrun hO;refine ⟨g',cap',W',hrun,⟨hO,by simp [h.len],fun i hi hi'=>?_⟩,hT,hat⟩;have away:∀ x,v.ownBlock≠some x->x∉v.ownBlock.toList:=fun x hx hm=>hx (by simpa using hm)
 have new:∀ x,v.ownBlock≠some x->x<W.heap.size->(Value.slice (some (Y g' 0)) (os.length+1) cap').ownBlock≠some x:=fun x hx hl e=>by
  have e2:g'=x:=by simpa [Value.ownBlock] using e
  subst e2;rcases hat with h1|h1
  ·exact hx h1
  ·omega
 by_cases hl:i<xs.length
 ·have hl':i<os.length:=by rw [<- h.len]; exact hl
  obtain ⟨a,b,c,d,f⟩:=h.row i hl hl';rw [List.getElem_append_left hl,List.getElem_append_left hl'];exact ⟨a,b,c,d.turn hT (away _ f),new _ f d.lt⟩
 ·have e1:i=xs.length:=by simp at hi; omega
  subst e1;rw [List.getElem_append_right G,List.getElem_append_right (by rw [h.len]; omega)];simp only [h.len,Nat.sub_self,List.getElem_cons_zero];exact ⟨trivial,trivial,trivial,ho.turn hT (away _ hv),new _ hv ho.lt⟩
end
structure Nw (w:World) (N MB n:Nat) (ms:Nat->Ma) (v:Value) (xs:List Pe) (os:List (Nat×Nat×List Nat)):Prop where
 nt:Nt w N MB n ms v
 wy:Wy v os xs w
 apart:∀ x,inW v xs x->x≠N/\x≠MB/\∀ i,i<n->x∉(ms i).F
section
variable {w w':World} {N MB n:Nat} {ms:Nat->Ma} {v:Value} {xs:List Pe} {os:List (Nat×Nat×List Nat)}
end
end
end Go.Proofs.YtafkfnodcemefaaGreat
