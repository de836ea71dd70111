import Derived.Test.YtbepbkidkjblgaaGreatB27
set_option maxHeartbeats 8000000
namespace Go.Proofs.YtbepbkidkjblgaaGreat
open _root_.Go.Proofs.Tryz (prog)
section
open Go.RowKit Go.Maps Rm
variable {L:List Nat}
structure Rn where
 R:Nat
 room:Nat
 sp:Nat
 M:Mr
structure Dz where
 id:Nat
 room:Nat
 sm:Sm
structure Ma where
 d:Nat
 r:Option Rn
 F:List Nat
 c:Nat->Int
 z:Dz
def Ma.rv (m:Ma):Value:= .pointer (m.r.map fun x=>⟨x.R,0,none⟩)
def Ma.cells (m:Ma):List Value:=[m.rv,.pointer (some ⟨m.d,0,none⟩),.int .i64 (m.c 0),.int .i64 (m.c 1),.int .i64 (m.c 2),.int .i64 (m.c 3),.int .i64 (m.c 4),.int .i64 (m.c 5),.int .i64 (m.c 6),.int .i64 (m.c 7)]
def Ma.ok (w:World) (m:Ma):Prop:=match m.r with
 |none=>∃ S Mp,m.F=[m.d,S,Mp]/\Lies w m.d S Mp m.z.id m.z.room m.z.sm
 |some x=>Rz m.F w x.R x.room x.sp x.M/\x.M.d=m.d
section
variable {w w':World} {m:Ma}
theorem Ma.ok.of_none {S Mp:Nat} (hr:m.r=none) (hF:m.F=[m.d,S,Mp]) (hD:Lies w m.d S Mp m.z.id m.z.room m.z.sm):m.ok w:=by
 unfold Ma.ok;rw [hr];exact ⟨S,Mp,hF,hD⟩
theorem Ma.ok.of_some {x:Rn} (hr:m.r=some x) (h:Rz m.F w x.R x.room x.sp x.M) (hd:x.M.d=m.d):m.ok w:=by
 unfold Ma.ok;rw [hr];exact ⟨h,hd⟩
theorem Ma.ok.none (h:m.ok w) (hr:m.r=none):∃ S Mp,m.F=[m.d,S,Mp]/\Lies w m.d S Mp m.z.id m.z.room m.z.sm:=by
 unfold Ma.ok at h;rw [hr] at h;exact h
theorem Ma.ok.some (h:m.ok w) {x:Rn} (hr:m.r=some x):Rz m.F w x.R x.room x.sp x.M:=by
 unfold Ma.ok at h;rw [hr] at h;exact h.1
theorem Ma.ok.disk (h:m.ok w) {x:Rn} (hr:m.r=Option.some x):x.M.d=m.d:=by
 unfold Ma.ok at h;rw [hr] at h;exact h.2
theorem Ma.ok.turn (h:m.ok w) (t:Turn L w w') (hL:∀ x,x∈m.F->x∉L):m.ok w':=by
 cases hr:m.r with
 |none=>
  obtain ⟨S,Mp,hF,hD⟩:=h.none hr;exact .of_none hr hF (hD.turn t (fun x hx=>hL x (by rw [hF]; exact hx)))
 |some x=>exact .of_some hr ((h.some hr).turn t hL) (h.disk hr)
theorem Ma.ok.held (h:m.ok w) (hb:Below w.heap.size w w'):m.ok w':=by
 cases hr:m.r with
 |none=>
  obtain ⟨S,Mp,hF,hD⟩:=h.none hr;exact .of_none hr hF (hD.held hb)
 |some x=>exact .of_some hr ((h.some hr).held hb) (h.disk hr)
theorem Ma.ok.lt (h:m.ok w) {x:Nat} (hx:x∈m.F):x<w.heap.size:=by
 cases hr:m.r with
 |none=>
  obtain ⟨S,Mp,hF,hD⟩:=h.none hr;simp only [hF,List.mem_cons,List.not_mem_nil,or_false] at hx;rcases hx with rfl|rfl|rfl
  ·exact hD.lt.1
  ·exact hD.lt.2.1
  ·exact hD.lt.2.2
 |some y=>exact (h.some hr).lt hx
end
structure Mas (w:World) (MB n:Nat) (ms:Nat->Ma):Prop where
 rows:∃ C,Blk 68 w MB C/\C.size=n*10/\∀ i,i<n->∀ j v,(ms i).cells[j]?=some v->C[i*10+j]?=some v
 ok:∀ i,i<n->(ms i).ok w
 apart:∀ i k,i<n->k<n->i≠k->∀ x,x∈(ms i).F->x∉(ms k).F
 mb:∀ i,i<n->MB∉(ms i).F
structure Nt (w:World) (N MB n:Nat) (ms:Nat->Ma) (v:Value):Prop where
 head:Blk 56 w N #[.slice (some ⟨MB,0,none⟩) n n,v]
 mas:Mas w MB n ms
 ne:N≠MB
 nF:∀ i,i<n->N∉(ms i).F
 n1:1<=n
 n8:n<=8
section
variable {w w':World} {N MB n:Nat} {ms:Nat->Ma} {v:Value}
theorem Mas.lt (h:Mas w MB n ms):MB<w.heap.size:=by
 obtain ⟨C,h1,_⟩:=h.rows;exact h1.lt
theorem Mas.turn (h:Mas w MB n ms) (t:Turn L w w') (h1:MB∉L) (h2:∀ i,i<n->∀ x,x∈(ms i).F->x∉L):Mas w' MB n ms:=by
 obtain ⟨C,hC,hr⟩:=h.rows;exact ⟨⟨C,hC.turn t h1,hr⟩,fun i hi=>(h.ok i hi).turn t (h2 i hi),h.apart,h.mb⟩
theorem Mas.held (h:Mas w MB n ms) (hb:Below w.heap.size w w'):Mas w' MB n ms:=by
 obtain ⟨C,hC,hr⟩:=h.rows;exact ⟨⟨C,hC.held hb,hr⟩,fun i hi=>(h.ok i hi).held hb,h.apart,h.mb⟩
theorem Nt.turn (h:Nt w N MB n ms v) (t:Turn L w w') (h0:N∉L) (h1:MB∉L) (h2:∀ i,i<n->∀ x,x∈(ms i).F->x∉L):Nt w' N MB n ms v:=
 ⟨h.head.turn t h0,h.mas.turn t h1 h2,h.ne,h.nF,h.n1,h.n8⟩
theorem Nt.held (h:Nt w N MB n ms v) (hb:Below w.heap.size w w'):Nt w' N MB n ms v:=
 ⟨h.head.held hb,h.mas.held hb,h.ne,h.nF,h.n1,h.n8⟩
theorem Nt.cell (h:Nt w N MB n ms v) {i:Nat} (hi:i<n) {j:Nat} {u:Value} (hj:(ms i).cells[j]?=some u):w.cell? ⟨MB,i*10+j,none⟩=some u:=by
 obtain ⟨C,hC,_,hr⟩:=h.mas.rows;exact (hC.at_ _).trans (hr i hi j u hj)
def puts (ms:Nat->Ma) (i:Nat) (m:Ma):Nat->Ma:=fun k=>if k=i then m else ms k
theorem aa3 (ms:Nat->Ma) (i:Nat) (m:Ma):puts ms i m i=m:=by simp [puts]
theorem aa2 {ms:Nat->Ma} {i k:Nat} (h:k≠i) (m:Ma):puts ms i m k=ms k:=by simp [puts,h]
theorem Nt.by_one (h:Nt w N MB n ms v) {i:Nat} (hi:i<n) {m:Ma} (hrows:∃ C,Blk 68 w' MB C/\C.size=n*10/\∀ k,k<n->∀ j v,(puts ms i m k).cells[j]?=some v->C[k*10+j]?=some v) (t:Turn (MB::(ms i).F) w w') (hk:m.ok w') (hF:∀ y,y∈m.F->y∈(ms i).F\/w.heap.size<=y):Nt w' N MB n (puts ms i m) v:=by
 have hN:=h.head.lt;have hM:=h.mas.lt;refine ⟨h.head.turn t (by simp only [List.mem_cons,not_or]; exact ⟨h.ne,h.nF i hi⟩),⟨hrows,fun k hk2=>?_,fun a b ha hb hab x hx=>?_,fun k hk2=>?_⟩,h.ne,fun k hk2=>?_,h.n1,h.n8⟩
 ·by_cases e:k=i
  ·subst e; rw [aa3]; exact hk
  ·rw [aa2 e]
   refine (h.mas.ok k hk2).turn t fun x hx=>?_
   simp only [List.mem_cons,not_or];exact ⟨fun e2=>h.mas.mb k hk2 (e2 ▸ hx),h.mas.apart k i hk2 hi e x hx⟩
 ·by_cases e:a=i
  ·subst e
   rw [aa3] at hx;rw [aa2 (Ne.symm hab)];rcases hF x hx with h1|h1
   ·exact h.mas.apart a b ha hb hab x h1
   ·intro h2; have:=(h.mas.ok b hb).lt h2; omega
  ·rw [aa2 e] at hx
   by_cases e2:b=i
   ·subst e2
    rw [aa3];intro h2;rcases hF x h2 with h1|h1
    ·exact h.mas.apart a b ha hb hab x hx h1
    ·have:=(h.mas.ok a ha).lt hx; omega
   ·rw [aa2 e2]; exact h.mas.apart a b ha hb hab x hx
 ·by_cases e:k=i
  ·subst e; rw [aa3]; intro h2
   rcases hF _ h2 with h1|h1
   ·exact h.mas.mb k hk2 h1
   ·omega
  ·rw [aa2 e]; exact h.mas.mb k hk2
 ·by_cases e:k=i
  ·subst e; rw [aa3]; intro h2
   rcases hF _ h2 with h1|h1
   ·exact h.nF k hk2 h1
   ·omega
  ·rw [aa2 e]; exact h.nF k hk2
theorem Nt.one (h:Nt w N MB n ms v) {i:Nat} (hi:i<n) {m:Ma} (t:Turn (ms i).F w w') (hk:m.ok w') (hF:∀ y,y∈m.F->y∈(ms i).F\/w.heap.size<=y) (hc:m.cells=(ms i).cells):Nt w' N MB n (puts ms i m) v:=by
 obtain ⟨C,hC,hs,hr⟩:=h.mas.rows;refine h.by_one hi ⟨C,hC.turn t (h.mas.mb i hi),hs,fun k hk2=>?_⟩ (t.mono fun x hx=>List.mem_cons_of_mem _ hx) hk hF;by_cases e:k=i
 ·subst e; rw [aa3,hc]; exact hr k hk2
 ·rw [aa2 e]; exact hr k hk2
end
end
section
open Go.RowKit Go.Maps Rm
attribute [local go_sem] Oper.semAt_some
variable {w wr:World}{MB N i k n:Nat}{m:Ma}
section
variable {w:World} {N MB n:Nat} {ms:Nat->Ma} {v:Value}
end
def lks (c:Nat->Int):Nat->Mr->Mr
 |0,M=>M
 |k+1,M=>(lks c k M).link k (c k)
def Ma.run (m:Ma) (x:Rn) (F:List Nat):Ma:=⟨m.d,some x,F,m.c,m.z⟩
section
variable {w wr:World} {N MB n i d:Nat} {ms:Nat->Ma} {v:Value} {L:List Nat} {c:Nat->Int} {z:Dz} {R room sp k:Nat} {M:Mr}
end
section
variable {w:World} {N MB n:Nat} {ms:Nat->Ma} {v:Value}
end
section
variable {w:World} {N MB n:Nat} {ms:Nat->Ma} {v:Value}
end
structure Fresh (w:World) (k i:Nat) (m:Ma):Prop where
 r:m.r=none
 c:m.c=fun _=>0
 z:m.z=⟨i+1,k / 2 - 1,sm0⟩
 ex:∃ S Mp,m.F=[m.d,S,Mp]/\Dk w m.d S Mp k (fun _=>List.replicate 48 0) (fun _=>none) (-1)
theorem Fresh.held {w':World} (h:Fresh w k i m) (hb:Below w.heap.size w w'):Fresh w' k i m:=by
 obtain ⟨S,Mp,h1,h2⟩:=h.ex;exact ⟨h.r,h.c,h.z,S,Mp,h1,h2.held hb⟩
theorem Fresh.ok (h:Fresh w k i m) (hk:4<=k) (hk2:k<=512):m.ok w:=by
 obtain ⟨S,Mp,h1,h2⟩:=h.ex;refine .of_none h.r h1 ⟨k,_,h2,hk,?_,.inl ⟨?_,?_,fun i _=>bw5⟩⟩
 ·rw [h.z]; show k / 2 - 1<=500; omega
 ·rw [h.z]
 ·rw [h.z]; show k / 2 - 1+1<=k / 2; omega
def zma:List Value:=[.pointer none,.pointer none,.int .i64 0,.int .i64 0,.int .i64 0,.int .i64 0,.int .i64 0,.int .i64 0,.int .i64 0,.int .i64 0]
theorem bb9:∃ i,prog.info? 68=some i/\i.zero=some (.agg zma.toArray)/\i.size=10/\i.bytes=80:=by
 have h:(prog.info? 68).map (fun i=>(i.zero,i.size,i.bytes))=some (some (.agg zma.toArray),10,80):=by kernel_rfl
 exact info_parts h
def zms (n:Nat):Array Value:=madeCells zma.toArray (n*10)
theorem bp4 (n:Nat):(zms n).size=n*10:=size_madeCells _ _
theorem cy2 {j:Nat} (hi:i<n) (hj:j<10):(zms n)[i*10+j]?=zma[j]?:=by
 have hs:=bp4 n;rw [Array.getElem?_eq_getElem (by omega)];unfold zms madeCells;have hm:(i*10+j) % 10=j:=by omega
 have:j=0\/j=1\/j=2\/j=3\/j=4\/j=5\/j=6\/j=7\/j=8\/j=9:=by omega
 rcases this with rfl|rfl|rfl|rfl|rfl|rfl|rfl|rfl|rfl|rfl<;>simp [zma,hm]
theorem ap5 (n:Nat) (hn:n<=512) (w:World):(Instr.makeSlice 53 (.int .i64 (n:Int)) (.int .i64 (n:Int))).run prog w= .ok (.slice (some ⟨w.heap.size,0,none⟩) n n) (w.alloc (.cells (zms n) 68)):=by
 obtain ⟨i,h1,h2,h3,h4⟩:=bb9;have h:=run_make (P:=prog) w 53 68 i _ (by kernel_rfl) h1 h2 .i64 .i64 (n:Int) (n:Int) (by omega) (by omega) (by rw [h4]; omega) (by omega);simpa [h3,zms,Value.cells] using h
structure Laying (w:World) (MB N n sec k:Nat) (wr:World):Prop where
 head:Blk 56 wr N #[.slice (some ⟨MB,0,none⟩) n n,.slice none 0 0]
 ex:∃ ms:Nat->Ma,(∃ C,Blk 68 wr MB C/\C.size=n*10/\∀ i,i<n->∀ j v,(if i<k then (ms i).cells else zma)[j]?=some v->C[i*10+j]?=some v)/\(∀ i,i<k->Fresh wr sec i (ms i))/\
  (∀ i x,i<k->x∈(ms i).F->MB<x/\N<x/\x<wr.heap.size)/\(∀ i j,i<k->j<k->i≠j->∀ x,x∈(ms i).F->x∉(ms j).F)
 below:Below w.heap.size w wr
 lt:MB<wr.heap.size/\N<wr.heap.size
 ne:N≠MB/\w.heap.size<=MB/\w.heap.size<=N
theorem Laying.next {sec:Nat} {w2:World} (h:Laying w MB N n sec k wr) (hk:k<n) {d S Mp:Nat} (hS:S=wr.heap.size) (hM:Mp=wr.heap.size+1) (hd:d=wr.heap.size+2)
  (hD:Dk w2 d S Mp sec (fun _=>List.replicate 48 0) (fun _=>none) (-1)) (hb:Below wr.heap.size wr w2):Laying w MB N n sec (k+1) (w2.setCell ⟨MB,k*10+1,none⟩ (.pointer (some ⟨d,0,none⟩))):=by
 obtain ⟨ms,⟨C,hC,hs,hr⟩,hf,hx,ha⟩:=h.ex;have hlt:=h.lt;have hne:=h.ne;have hMB:Turn [MB] w2 (w2.setCell ⟨MB,k*10+1,none⟩ (.pointer (some ⟨d,0,none⟩))):=Turn.setCell w2 (by simp) _;have hdlt:=hD.head.lt;have hsz:(w2.setCell ⟨MB,k*10+1,none⟩ (.pointer (some ⟨d,0,none⟩))).heap.size=w2.heap.size:=by simp [World.setCell]
 refine ⟨(h.head.held hb).turn hMB (by simp; exact hne.1),⟨puts ms k ⟨d,none,[d,S,Mp],fun _=>0,⟨k+1,sec / 2 - 1,sm0⟩⟩,⟨_,(hC.held hb).store _ _,by rw [Array.size_setIfInBounds,hs],fun i hi j v hv=>?_⟩,fun i hi=>?_,fun i x hi hxm=>?_,fun i j hi hj hij x hxm=>?_⟩,h.below.trans ((hb.mono h.below.size).trans (hMB.below (by simp; exact hne.2.1) (Nat.le_trans h.below.size hb.size))),?_,hne⟩
 ·have hj:j<10:=by
   split at hv
   ·obtain ⟨h1,_⟩:=List.getElem?_eq_some_iff.1 hv; exact h1
   ·obtain ⟨h1,_⟩:=List.getElem?_eq_some_iff.1 hv; exact h1
  rw [Array.getElem?_setIfInBounds];by_cases e:i=k
  ·subst e
   rw [if_pos (by omega),aa3] at hv;by_cases e2:j=1
   ·subst e2
    rw [if_pos rfl,if_pos (by rw [hs]; omega)];exact hv
   ·rw [if_neg (by omega)]
    refine hr i hi j v ?_;rw [if_neg (by omega)];have:j=0\/j=2\/j=3\/j=4\/j=5\/j=6\/j=7\/j=8\/j=9:=by omega
    rcases this with rfl|rfl|rfl|rfl|rfl|rfl|rfl|rfl|rfl<;>exact hv
  ·rw [if_neg (by omega)]
   refine hr i hi j v ?_;by_cases e2:i<k
   ·rw [if_pos (by omega),aa2 e] at hv
    rw [if_pos e2];exact hv
   ·rw [if_neg (by omega)] at hv
    rw [if_neg e2];exact hv
 ·by_cases e:i=k
  ·subst e
   rw [aa3];exact ⟨rfl,rfl,rfl,S,Mp,rfl,hD.turn hMB (by simp; omega) (by simp; omega) (by simp; omega)⟩
  ·rw [aa2 e]
   obtain ⟨f1,f2,f0,S',M',f3,f4⟩:=hf i (by omega);refine ⟨f1,f2,f0,S',M',f3,(f4.held hb).turn hMB ?_ ?_ ?_⟩
   ·have:=hx i _ (by omega) (by rw [f3]; simp:(ms i).d∈(ms i).F); simp; omega
   ·have:=hx i S' (by omega) (by rw [f3]; simp); simp; omega
   ·have:=hx i M' (by omega) (by rw [f3]; simp); simp; omega
 ·rw [hsz]
  by_cases e:i=k
  ·subst e
   rw [aa3] at hxm;simp only [List.mem_cons,List.not_mem_nil,or_false] at hxm;rcases hxm with rfl|rfl|rfl<;>omega
  ·rw [aa2 e] at hxm
   have:=hx i x (by omega) hxm;have:=hb.size;omega
 ·by_cases e:i=k
  ·subst e
   rw [aa3] at hxm;rw [aa2 (Ne.symm hij)];intro h2;have:=hx j x (by omega) h2;simp only [List.mem_cons,List.not_mem_nil,or_false] at hxm;rcases hxm with rfl|rfl|rfl<;>omega
  ·rw [aa2 e] at hxm
   by_cases e2:j=k
   ·subst e2
    rw [aa3];intro h2;have:=hx i x (by omega) hxm;simp only [List.mem_cons,List.not_mem_nil,or_false] at h2;rcases h2 with rfl|rfl|rfl<;>omega
   ·rw [aa2 e2]
    exact ha i j (by omega) (by omega) hij x hxm
 ·rw [hsz]
  have:=hb.size;omega
theorem Laying.cell {sec:Nat} (h:Laying w MB N n sec k wr) (hk:k<n):wr.cell? ⟨MB,k*10+1,none⟩=some (.pointer none):=by
 obtain ⟨ms,⟨C,hC,hs,hr⟩,_⟩:=h.ex;exact (hC.at_ _).trans (hr k hk 1 _ (by rw [if_neg (by omega)]; rfl))
theorem Laying.drew {sec:Nat} (h:Laying w MB N n sec k wr):Laying w MB N n sec k wr.drew:=by
 obtain ⟨ms,⟨C,hC,hs,hr⟩,hf,hx,ha⟩:=h.ex;exact ⟨h.head.drew,⟨ms,⟨C,hC.drew,hs,hr⟩,fun i hi=>(hf i hi).held (Below.refl _ _).drew,hx,ha⟩,h.below.drew,h.lt,h.ne⟩
structure Pe where
 frm:Nat
 dst:Nat
 g:Nat
 n:Nat
 cap:Nat
def pcl (x:Pe):List Value:=[.int .i64 x.frm,.int .i64 x.dst,.slice (some ⟨x.g,0,none⟩) x.n x.cap]
theorem elemW:Elem prog 54 87 pcl 3 40:=⟨by kernel_rfl,ae2 (z:= .agg #[.int .i64 0,.int .i64 0,.slice none 0 0]) (by kernel_rfl) rfl,by omega,fun _=>rfl,fun x v hv=>by simp only [pcl,List.mem_cons,List.not_mem_nil,or_false] at hv; rcases hv with rfl|rfl|rfl<;>rfl,by omega⟩
structure Wy (v:Value) (os:List (Nat×Nat×List Nat)) (xs:List Pe) (W:World):Prop where
 own:Ol 87 pcl 3 0 v xs W
 len:xs.length=os.length
 row:∀ i (h:i<xs.length) (h':i<os.length),xs[i].frm=os[i].1/\xs[i].dst=os[i].2.1/\xs[i].n=os[i].2.2.length/\T.Ob W xs[i].g xs[i].cap os[i].2.2/\v.ownBlock≠some xs[i].g
def inW (v:Value) (xs:List Pe) (x:Nat):Prop:=v.ownBlock=some x\/∃ p,p∈xs/\p.g=x
theorem Wy.nil (W:World):Wy (.slice none 0 0) [] [] W:=⟨Ol.nil _ _,rfl,fun i h=>by simp at h⟩
section
variable {v:Value} {os:List (Nat×Nat×List Nat)} {xs:List Pe} {W W':World}
theorem Wy.turn {L:List Nat} (h:Wy v os xs W) (t:Turn L W W') (hL:∀ x,inW v xs x->x∉L):Wy v os xs W':=
 ⟨h.own.turn t fun b e=>hL b (.inl e),h.len,fun i hi hi'=>by obtain ⟨a,b,c,d,e⟩:=h.row i hi hi'; exact ⟨a,b,c,d.turn t (hL _ (.inr ⟨_,List.getElem_mem hi,rfl⟩)),e⟩⟩
theorem Wy.held (h:Wy v os xs W) (hb:Below W.heap.size W W'):Wy v os xs W':=
 ⟨h.own.held hb,h.len,fun i hi hi'=>by obtain ⟨a,b,c,d,e⟩:=h.row i hi hi'; exact ⟨a,b,c,d.held hb,e⟩⟩
theorem Wy.lt (h:Wy v os xs W) {x:Nat} (hx:inW v xs x):x<W.heap.size:=by
 rcases hx with e|⟨p,hp,rfl⟩
 ·exact (h.own.lt e).1
 ·obtain ⟨i,hi,rfl⟩:=List.mem_iff_getElem.1 hp
  exact (h.row i hi (by rw [<- h.len]; exact hi)).2.2.2.1.lt
theorem Wy.push (h:Wy v os xs W) {a b g cap:Nat} {bs:List Nat} (hv:v.ownBlock≠some g) (ho:T.Ob W g cap bs) (hbig:os.length<=1000000000):
  ∃ g' cap' W',(Builtin.append_ #[54,54] 54 #[v,.slice (some ⟨W.heap.size,0,none⟩) 1 1]).run prog (W.alloc (.cells #[.int .i64 a,.int .i64 b,.slice (some ⟨g,0,none⟩) bs.length cap] 87))= .ok (.slice (some ⟨g',0,none⟩) (os.length+1) cap') W'/\
   Wy (.slice (some ⟨g',0,none⟩) (os.length+1) cap') (os++[(a,b,bs)]) (xs++[⟨a,b,g,bs.length,cap⟩]) W'/\Turn v.ownBlock.toList W W'/\(v.ownBlock=some g'\/W.heap.size<g'):=by
 obtain ⟨g',cap',W',hrun,hO,hT,hat⟩:=Ol.push1 elemW h.own (Nat.zero_le _) ⟨a,b,g,bs.length,cap⟩ (by rw [h.len]; omega) 54;rw [h.len] at hrun hO;refine ⟨g',cap',W',hrun,⟨hO,by simp [h.len],fun i hi hi'=>?_⟩,hT,hat⟩;have away:∀ x,v.ownBlock≠some x->x∉v.ownBlock.toList:=fun x hx hm=>hx (by simpa using hm)
 have new:∀ x,v.ownBlock≠some x->x<W.heap.size->(Value.slice (some ⟨g',0,none⟩) (os.length+1) cap').ownBlock≠some x:=fun x hx hl e=>by
  have e2:g'=x:=by simpa [Value.ownBlock] using e
  subst e2;rcases hat with h1|h1
  ·exact hx h1
  ·omega
 by_cases hl:i<xs.length
 ·have hl':i<os.length:=by rw [<- h.len]; exact hl
  obtain ⟨a,b,c,d,f⟩:=h.row i hl hl';rw [List.getElem_append_left hl,List.getElem_append_left hl'];exact ⟨a,b,c,d.turn hT (away _ f),new _ f d.lt⟩
 ·have e1:i=xs.length:=by simp at hi; omega
  subst e1;rw [List.getElem_append_right (by omega),List.getElem_append_right (by rw [h.len]; omega)];simp only [h.len,Nat.sub_self,List.getElem_cons_zero];exact ⟨trivial,trivial,trivial,ho.turn hT (away _ hv),new _ hv ho.lt⟩
end
structure Nw (w:World) (N MB n:Nat) (ms:Nat->Ma) (v:Value) (xs:List Pe) (os:List (Nat×Nat×List Nat)):Prop where
 nt:Nt w N MB n ms v
 wy:Wy v os xs w
 apart:∀ x,inW v xs x->x≠N/\x≠MB/\∀ i,i<n->x∉(ms i).F
section
variable {w w':World} {N MB n:Nat} {ms:Nat->Ma} {v:Value} {xs:List Pe} {os:List (Nat×Nat×List Nat)}
theorem Nw.held (h:Nw w N MB n ms v xs os) (hb:Below w.heap.size w w'):Nw w' N MB n ms v xs os:=⟨h.nt.held hb,h.wy.held hb,h.apart⟩
theorem Nw.one (h:Nw w N MB n ms v xs os) {i:Nat} (hi:i<n) {m:Ma} {L:List Nat} (hN:Nt w' N MB n (puts ms i m) v) (t:Turn L w w') (hL:∀ x,x∈L->x=MB\/x∈(ms i).F) (hF:∀ y,y∈m.F->y∈(ms i).F\/w.heap.size<=y):Nw w' N MB n (puts ms i m) v xs os:=by
 refine ⟨hN,h.wy.turn t fun x hx hm=>?_,fun x hx=>⟨(h.apart x hx).1,(h.apart x hx).2.1,fun k hk hm=>?_⟩⟩
 ·rcases hL x hm with e|e
  ·exact (h.apart x hx).2.1 e
  ·exact (h.apart x hx).2.2 i hi e
 ·by_cases e:k=i
  ·subst e
   rw [aa3] at hm;rcases hF x hm with e2|e2
   ·exact (h.apart x hx).2.2 k hk e2
   ·have:=h.wy.lt hx; omega
  ·rw [aa2 e] at hm
   exact (h.apart x hx).2.2 k hk hm
end
end
end Go.Proofs.YtbepbkidkjblgaaGreat
