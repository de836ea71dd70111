import Derived.Test.YtlklghedfaeepaaGreatB27
set_option maxHeartbeats 8000000
set_option maxRecDepth 100000
namespace Go.Proofs.YtlklghedfaeepaaGreat
open _root_.Go.Proofs.Tryz (prog)
section
open Go.RowKit Go.Maps Rm
variable {L:List Nat}
structure Rn where
 R:Nat
 room:Nat
 sp:Nat
 M:Mr
structure Dz where
 id:Nat
 room:Nat
 sm:Sm
structure Ma where
 d:Nat
 r:Option Rn
 F:List Nat
 c:Nat->Int
 z:Dz
def Ma.rv (m:Ma):Value:= .pointer (m.r.map fun x=>⟨x.R,0,none⟩)
def Ma.cells (m:Ma):List Value:=[m.rv,.pointer (some ⟨m.d,0,none⟩),.int .i64 (m.c 0),.int .i64 (m.c 1),.int .i64 (m.c 2),.int .i64 (m.c 3),.int .i64 (m.c 4),.int .i64 (m.c 5),.int .i64 (m.c 6),.int .i64 (m.c 7)]
def Ma.ok (w:World) (m:Ma):Prop:=match m.r with
 |none=>∃ S Mp,m.F=[m.d,S,Mp]/\Lies w m.d S Mp m.z.id m.z.room m.z.sm
 |some x=>Rz m.F w x.R x.room x.sp x.M/\x.M.d=m.d
section
variable {w w':World} {m:Ma}
theorem Ma.ok.of_none {S Mp:Nat} (hr:m.r=none) (hF:m.F=[m.d,S,Mp]) (hD:Lies w m.d S Mp m.z.id m.z.room m.z.sm):m.ok w:=by
 unfold Ma.ok;rw [hr];exact ⟨S,Mp,hF,hD⟩
theorem Ma.ok.of_some {x:Rn} (hr:m.r=some x) (h:Rz m.F w x.R x.room x.sp x.M) (hd:x.M.d=m.d):m.ok w:=by
 unfold Ma.ok;rw [hr];exact ⟨h,hd⟩
theorem Ma.ok.none (h:m.ok w) (hr:m.r=none):∃ S Mp,m.F=[m.d,S,Mp]/\Lies w m.d S Mp m.z.id m.z.room m.z.sm:=by
 unfold Ma.ok at h;rw [hr] at h;exact h
theorem Ma.ok.some (h:m.ok w) {x:Rn} (hr:m.r=some x):Rz m.F w x.R x.room x.sp x.M:=by
 unfold Ma.ok at h;rw [hr] at h;exact h.1
theorem Ma.ok.disk (h:m.ok w) {x:Rn} (hr:m.r=Option.some x):x.M.d=m.d:=by
 unfold Ma.ok at h;rw [hr] at h;exact h.2
theorem Ma.ok.turn (h:m.ok w) (t:Turn L w w') (hL:∀ x,x∈m.F->x∉L):m.ok w':=by
 cases hr:m.r with
 |none=>
  obtain ⟨S,Mp,hF,hD⟩:=h.none hr;exact .of_none hr hF (hD.turn t (fun x hx=>hL x (by rw [hF]; exact hx)))
 |some x=>exact .of_some hr ((h.some hr).turn t hL) (h.disk hr)
theorem Ma.ok.held (h:m.ok w) (hb:Below w.heap.size w w'):m.ok w':=by
 cases hr:m.r with
 |none=>
  obtain ⟨S,Mp,hF,hD⟩:=h.none hr;exact .of_none hr hF (hD.held hb)
 |some x=>exact .of_some hr ((h.some hr).held hb) (h.disk hr)
theorem Ma.ok.lt (h:m.ok w) {x:Nat} (hx:x∈m.F):x<w.heap.size:=by
 cases hr:m.r with
 |none=>
  obtain ⟨S,Mp,hF,hD⟩:=h.none hr;simp only [hF,List.mem_cons,List.not_mem_nil,or_false] at hx;rcases hx with rfl|rfl|rfl
  ·exact hD.lt.1
  ·exact hD.lt.2.1
  ·exact hD.lt.2.2
 |some y=>exact (h.some hr).lt hx
end
structure Mas (w:World) (MB n:Nat) (ms:Nat->Ma):Prop where
 rows:∃ C,Blk 80 w MB C/\C.size=n*10/\∀ i,i<n->∀ j v,(ms i).cells[j]?=some v->C[i*10+j]?=some v
 ok:∀ i,i<n->(ms i).ok w
 apart:∀ i k,i<n->k<n->i≠k->∀ x,x∈(ms i).F->x∉(ms k).F
 mb:∀ i,i<n->MB∉(ms i).F
structure Nt (w:World) (N MB n:Nat) (ms:Nat->Ma) (v:Value):Prop where
 head:Blk 75 w N #[.slice (some ⟨MB,0,none⟩) n n,v]
 mas:Mas w MB n ms
 ne:N≠MB
 nF:∀ i,i<n->N∉(ms i).F
 n1:1<=n
 n8:n<=8
section
variable {w w':World} {N MB n:Nat} {ms:Nat->Ma} {v:Value}
theorem Mas.lt (h:Mas w MB n ms):MB<w.heap.size:=by
 obtain ⟨C,h1,_⟩:=h.rows;exact h1.lt
theorem Mas.turn (h:Mas w MB n ms) (t:Turn L w w') (h1:MB∉L) (h2:∀ i,i<n->∀ x,x∈(ms i).F->x∉L):Mas w' MB n ms:=by
 obtain ⟨C,hC,hr⟩:=h.rows;exact ⟨⟨C,hC.turn t h1,hr⟩,fun i hi=>(h.ok i hi).turn t (h2 i hi),h.apart,h.mb⟩
theorem Mas.held (h:Mas w MB n ms) (hb:Below w.heap.size w w'):Mas w' MB n ms:=by
 obtain ⟨C,hC,hr⟩:=h.rows;exact ⟨⟨C,hC.held hb,hr⟩,fun i hi=>(h.ok i hi).held hb,h.apart,h.mb⟩
theorem Nt.turn (h:Nt w N MB n ms v) (t:Turn L w w') (h0:N∉L) (h1:MB∉L) (h2:∀ i,i<n->∀ x,x∈(ms i).F->x∉L):Nt w' N MB n ms v:=
 ⟨h.head.turn t h0,h.mas.turn t h1 h2,h.ne,h.nF,h.n1,h.n8⟩
theorem Nt.held (h:Nt w N MB n ms v) (hb:Below w.heap.size w w'):Nt w' N MB n ms v:=
 ⟨h.head.held hb,h.mas.held hb,h.ne,h.nF,h.n1,h.n8⟩
theorem Nt.cell (h:Nt w N MB n ms v) {i:Nat} (hi:i<n) {j:Nat} {u:Value} (hj:(ms i).cells[j]?=some u):w.cell? ⟨MB,i*10+j,none⟩=some u:=by
 obtain ⟨C,hC,_,hr⟩:=h.mas.rows;exact (hC.at_ _).trans (hr i hi j u hj)
def puts (ms:Nat->Ma) (i:Nat) (m:Ma):Nat->Ma:=fun k=>if k=i then m else ms k
theorem aa3 (ms:Nat->Ma) (i:Nat) (m:Ma):puts ms i m i=m:=by simp [puts]
theorem aa2 {ms:Nat->Ma} {i k:Nat} (h:k≠i) (m:Ma):puts ms i m k=ms k:=by simp [puts,h]
theorem bf6 (ms:Nat->Ma) (i:Nat) (m m':Ma):puts (puts ms i m) i m'=puts ms i m':=by
 funext k;unfold puts;split<;>rfl
theorem Nt.by_one (h:Nt w N MB n ms v) {i:Nat} (hi:i<n) {m:Ma} (hrows:∃ C,Blk 80 w' MB C/\C.size=n*10/\∀ k,k<n->∀ j v,(puts ms i m k).cells[j]?=some v->C[k*10+j]?=some v) (t:Turn (MB::(ms i).F) w w') (hk:m.ok w') (hF:∀ y,y∈m.F->y∈(ms i).F\/w.heap.size<=y):Nt w' N MB n (puts ms i m) v:=by
 have hN:=h.head.lt;have hM:=h.mas.lt;refine ⟨h.head.turn t (by simp only [List.mem_cons,not_or]; exact ⟨h.ne,h.nF i hi⟩),⟨hrows,fun k hk2=>?_,fun a b ha hb hab x hx=>?_,fun k hk2=>?_⟩,h.ne,fun k hk2=>?_,h.n1,h.n8⟩
 ·by_cases e:k=i
  ·subst e; rw [aa3]; exact hk
  ·rw [aa2 e]
   refine (h.mas.ok k hk2).turn t fun x hx=>?_
   simp only [List.mem_cons,not_or];exact ⟨fun e2=>h.mas.mb k hk2 (e2 ▸ hx),h.mas.apart k i hk2 hi e x hx⟩
 ·by_cases e:a=i
  ·subst e
   rw [aa3] at hx;rw [aa2 (Ne.symm hab)];rcases hF x hx with h1|h1
   ·exact h.mas.apart a b ha hb hab x h1
   ·intro h2; have:=(h.mas.ok b hb).lt h2; omega
  ·rw [aa2 e] at hx
   by_cases e2:b=i
   ·subst e2
    rw [aa3];intro h2;rcases hF x h2 with h1|h1
    ·exact h.mas.apart a b ha hb hab x hx h1
    ·have:=(h.mas.ok a ha).lt hx; omega
   ·rw [aa2 e2]; exact h.mas.apart a b ha hb hab x hx
 ·by_cases e:k=i
  ·subst e; rw [aa3]; intro h2
   rcases hF _ h2 with h1|h1
   ·exact h.mas.mb k hk2 h1
   ·omega
  ·rw [aa2 e]; exact h.mas.mb k hk2
 ·by_cases e:k=i
  ·subst e; rw [aa3]; intro h2
   rcases hF _ h2 with h1|h1
   ·exact h.nF k hk2 h1
   ·omega
  ·rw [aa2 e]; exact h.nF k hk2
theorem Nt.one (h:Nt w N MB n ms v) {i:Nat} (hi:i<n) {m:Ma} (t:Turn (ms i).F w w') (hk:m.ok w') (hF:∀ y,y∈m.F->y∈(ms i).F\/w.heap.size<=y) (hc:m.cells=(ms i).cells):Nt w' N MB n (puts ms i m) v:=by
 obtain ⟨C,hC,hs,hr⟩:=h.mas.rows;refine h.by_one hi ⟨C,hC.turn t (h.mas.mb i hi),hs,fun k hk2=>?_⟩ (t.mono fun x hx=>List.mem_cons_of_mem _ hx) hk hF;by_cases e:k=i
 ·subst e; rw [aa3,hc]; exact hr k hk2
 ·rw [aa2 e]; exact hr k hk2
theorem Nt.stored (h:Nt w N MB n ms v) {i:Nat} (hi:i<n) {m:Ma} (t:Turn (ms i).F w w') (hk:m.ok w') (hF:∀ y,y∈m.F->y∈(ms i).F\/w.heap.size<=y) {j:Nat} (hj:j<10) {u:Value} (hc:m.cells=(ms i).cells.set j u):Nt (w'.setCell ⟨MB,i*10+j,none⟩ u) N MB n (puts ms i m) v:=by
 obtain ⟨C,hC,hs,hr⟩:=h.mas.rows;have hC':=hC.turn t (h.mas.mb i hi);have hM:=h.mas.lt;have t2:Turn [MB] w' (w'.setCell ⟨MB,i*10+j,none⟩ u):=Turn.setCell w' (by simp) u;have hMm:MB∉m.F:=fun h2=>by
  rcases hF _ h2 with h1|h1
  ·exact h.mas.mb i hi h1
  ·omega
 refine h.by_one hi ⟨_,hC'.store _ u,by rw [Array.size_setIfInBounds,hs],fun k hk2 q x hx=>?_⟩ ((t.mono fun x hx=>List.mem_cons_of_mem _ hx).trans (t2.mono fun x hx=>by simp at hx; simp [hx])) (hk.turn t2 fun x hx=>by simp; exact fun e=>hMm (e ▸ hx)) hF;have hq:q<10:=by
  have:=List.getElem?_eq_some_iff.1 hx;obtain ⟨h1,_⟩:=this;exact h1
 rw [Array.getElem?_setIfInBounds];by_cases e:k=i
 ·subst e
  rw [aa3,hc,List.getElem?_set] at hx;by_cases e2:j=q
  ·subst e2
   rw [if_pos rfl] at hx;rw [if_pos rfl,if_pos (by rw [hs]; omega)];have h10:j<(ms k).cells.length:=hj;rw [if_pos h10] at hx;exact hx
  ·rw [if_neg e2] at hx
   rw [if_neg (by omega)];exact hr k hk2 q x hx
 ·rw [aa2 e] at hx
  rw [if_neg (by omega)];exact hr k hk2 q x hx
end
end
section
open Go.RowKit Go.Maps Rm
attribute [local go_sem] Oper.semAt_some
variable {m:Ma}{w w' wr:World}{MB N i k n:Nat}
section
variable {w:World} {N MB n:Nat} {ms:Nat->Ma} {v:Value}
theorem bs0 (h:Nt w N MB n ms v):Calls prog 39 #[.pointer (some ⟨N,0,none⟩)] w fun e w'=>e= .returned (.int .i64 n)/\w'=w:=by
 have c0:w.cell? ⟨N,0,none⟩=some (.slice (some ⟨MB,0,none⟩) n n):=h.head.at_ 0;have H:=Lib.hid h;clear h;go_enter Tryz.func39,Tryz.ntmps39;go_wp2;go_ret;exact ⟨rfl,rfl⟩
theorem dc2 (h:Nt w N MB n ms v) (z:Int):Calls prog 27 #[.pointer (some ⟨N,0,none⟩),.int .i64 z] w fun e w'=>e= .returned (.bool (decide (0<=z/\z<(n:Int))))/\w'=w:=by
 have HS:=bs0 h;clear h;by_cases h0:0<=z
 ·have d0:decide (0<=z)=true:=decide_eq_true h0
  have E:=Lib.hid (show decide (0<=z/\z<(n:Int))=decide (z<(n:Int)) by simp [h0]);obtain ⟨q,hq⟩:∃ q,decide (z<(n:Int))=q:=⟨_,rfl⟩;rw [hq] at E;go_enter Tryz.func27,Tryz.ntmps27;go_wp2_with fail;refine HS.mono ?_;rintro e w2 ⟨rfl,rfl⟩;go_wp2_with fail;go_ret;exact ⟨aa4 E.out.symm,rfl⟩
 ·have d0:decide (0<=z)=false:=decide_eq_false h0
  have E:=Lib.hid (show decide (0<=z/\z<(n:Int))=false by simp [h0]);go_enter Tryz.func27,Tryz.ntmps27;go_wp2;go_ret;exact ⟨rfl,rfl⟩
theorem ag8 (h:Nt w N MB n ms v) {i:Nat} (hi:i<n):Calls prog 27 #[.pointer (some ⟨N,0,none⟩),.int .i64 i] w fun e w'=>e= .returned (.bool true)/\w'=w:=
 (dc2 h i).mono fun _ _ ⟨he,hw⟩=>⟨by rw [he,decide_eq_true (by omega)],hw⟩
theorem ah8 (h:Nt w N MB n ms v) {i:Nat} (hi:i<n):Calls prog 12 #[.pointer (some ⟨N,0,none⟩),.int .i64 i] w fun e w'=>e= .returned (ms i).rv/\w'=w:=by
 have HS:=ag8 h hi;have c0:w.cell? ⟨N,0,none⟩=some (.slice (some ⟨MB,0,none⟩) n n):=h.head.at_ 0;have c1:w.cell? ⟨MB,i*10,none⟩=some (ms i).rv:=h.cell hi (j:=0) rfl;have hin:(i:Int)<(n:Int):=by omega
 have H:=Lib.hid h;clear h;obtain ⟨r,hr⟩:∃ r,(ms i).r.map (fun x=>(⟨x.R,0,none⟩:Addr))=r:=⟨_,rfl⟩;have e:(ms i).rv= .pointer r:=by rw [Ma.rv,hr]
 rw [e] at c1 ⊢;go_enter Tryz.func12,Tryz.ntmps12;go_wp2_with fail;refine HS.mono ?_;rintro e w2 ⟨rfl,rfl⟩;go_wp2_with fail;go_ret;exact ⟨rfl,rfl⟩
theorem as3 (h:Nt w N MB n ms v) {i:Nat} (hi:i<n):Calls prog 28 #[.pointer (some ⟨N,0,none⟩),.int .i64 i] w fun e w'=>e= .returned (.bool (ms i).r.isSome)/\w'=w:=by
 have HS:=ah8 h hi;clear h;unfold Ma.rv at HS
 cases hr:(ms i).r with
 |none=>
  rw [hr] at HS;replace HS:Calls prog 12 #[.pointer (some ⟨N,0,none⟩),.int .i64 i] w fun e w'=>e= .returned (.pointer none)/\w'=w:=HS
  go_enter Tryz.func28,Tryz.ntmps28;go_wp2_with fail;refine HS.mono ?_;rintro e w2 ⟨rfl,rfl⟩;go_wp2_with fail;go_ret;exact ⟨rfl,rfl⟩
 |some x=>
  rw [hr] at HS;replace HS:Calls prog 12 #[.pointer (some ⟨N,0,none⟩),.int .i64 i] w fun e w'=>e= .returned (.pointer (some ⟨x.R,0,none⟩))/\w'=w:=HS
  go_enter Tryz.func28,Tryz.ntmps28;go_wp2_with fail;refine HS.mono ?_;rintro e w2 ⟨rfl,rfl⟩;go_wp2_with fail;go_ret;exact ⟨rfl,rfl⟩
end
def lks (c:Nat->Int):Nat->Mr->Mr
 |0,M=>M
 |k+1,M=>(lks c k M).link k (c k)
def Ma.run (m:Ma) (x:Rn) (F:List Nat):Ma:=⟨m.d,some x,F,m.c,m.z⟩
theorem Ma.run_cells {x x':Rn} {F F':List Nat} (hR:x.R=x'.R):(m.run x F).cells=(m.run x' F').cells:=by
 unfold Ma.cells Ma.rv Ma.run;simp only [Option.map_some,hR]
theorem Nt.goes {ms:Nat->Ma} {v:Value} (h:Nt w N MB n ms v) {i:Nat} (hi:i<n) {m:Ma} {x:Rn} {F:List Nat} (hm:ms i=m.run x F) {room sp:Nat} {M:Mr} (hg:Goes F w x.R room sp M w') (hMd:M.d=x.M.d:=by rfl):∃ F',Nt w' N MB n (puts ms i (m.run ⟨x.R,room,sp,M⟩ F')) v/\Turn F w w'/\∀ y,y∈F'->y∈F\/w.heap.size<=y:=by
 obtain ⟨F',hz,t,hn⟩:=hg;have hF:(ms i).F=F:=by rw [hm]; rfl
 refine ⟨F',h.one hi (m:=m.run ⟨x.R,room,sp,M⟩ F') (by rw [hF]; exact t) (.of_some rfl hz (hMd.trans (by have:=(h.mas.ok i hi).disk (x:=x) (by rw [hm]; rfl); rw [this,hm]; rfl))) (by rw [hF]; exact hn) (by rw [hm]; exact Ma.run_cells rfl),t,hn⟩
def Booting (w:World) (N MB n:Nat) (ms:Nat->Ma) (v:Value) (i d:Nat) (L:List Nat) (c:Nat->Int) (z:Dz) (R room sp:Nat) (M:Mr) (k:Nat) (wr:World):Prop:=
 ∃ F,Nt wr N MB n (puts ms i ⟨d,some ⟨R,room,sp,lks c k M⟩,F,c,z⟩) v/\Turn (MB::L) w wr/\∀ y,y∈F->y∈L\/w.heap.size<=y
section
variable {w wr:World} {N MB n i d:Nat} {ms:Nat->Ma} {v:Value} {L:List Nat} {c:Nat->Int} {z:Dz} {R room sp k:Nat} {M:Mr}
theorem bj0 (hi:i<n) (h:Booting w N MB n ms v i d L c z R room sp M k wr):wr.cell? ⟨MB,i*10,none⟩=some (.pointer (some ⟨R,0,none⟩)):=by
 obtain ⟨F,h1,h2⟩:=h;exact h1.cell hi (j:=0) (by rw [aa3]; rfl)
theorem bi9 (hi:i<n) (hc:∀ k,0<=c k/\c k<=1000) (hk:k<8) (h:Booting w N MB n ms v i d L c z R room sp M k wr):
  Calls prog 60 #[.pointer (some ⟨R,0,none⟩),.int .i64 k,.int .i64 (c k)] wr fun e w'=>e= .returned (.int .i64 0)/\Booting w N MB n ms v i d L c z R room sp M (k+1) w':=by
 obtain ⟨F,h1,h2,h3⟩:=h;have hz:=(h1.mas.ok i hi);rw [aa3] at hz;refine (ce1 (hz.some rfl) hk (hc k).1 (hc k).2).mono ?_;rintro e w' ⟨rfl,hg⟩;obtain ⟨F',g1,g2,g3⟩:=h1.goes hi (m:=⟨d,none,[],c,z⟩) (x:=⟨R,room,sp,lks c k M⟩) (F:=F) (by rw [aa3]; rfl) hg (Mr.link_kin _ _ _).2;rw [bf6] at g1;refine ⟨rfl,F',g1,?_,fun y hy=>?_⟩
 ·exact h2.beyond g2 fun y hy=>(h3 y hy).imp (List.mem_cons_of_mem _) id
 ·rcases g3 y hy with e|e
  ·exact h3 y e
  ·exact .inr (Nat.le_trans h2.size e)
end
section
variable {w:World} {N MB n:Nat} {ms:Nat->Ma} {v:Value}
theorem ch5 (h:Nt w N MB n ms v) {i:Nat} (hi:i<n) {d S Mp id room:Nat} {sm:Sm} {c:Nat->Int} (hm:ms i=⟨d,none,[d,S,Mp],c,⟨id,room,sm⟩⟩) (hlow:∀ k,0<=c k/\c k<=1000) (h0:0<id) (h1:id<4294967296):
  Calls prog 29 #[.pointer (some ⟨MB,i*10,none⟩),.int .u32 id] w fun e w'=>∃ R F,e= .returned (.int .i64 0)/\Nt w' N MB n (puts ms i ⟨d,some ⟨R,room,90000,lks c 8 (mr1 id d sm)⟩,F,c,⟨id,room,sm⟩⟩) v/\Turn (MB::[d,S,Mp]) w w'/\(∀ y,y∈F->y∈[d,S,Mp]\/w.heap.size<=y):=by
 have hk0:=h.mas.ok i hi;rw [hm] at hk0;obtain ⟨S',Mp',e1,hLi⟩:=hk0.none rfl;simp only [List.cons.injEq,and_true,true_and] at e1;obtain ⟨rfl,rfl⟩:=e1;have HR:=da1 hLi h0 h1;obtain ⟨z,hz⟩:∃ z:Dz,⟨id,room,sm⟩=z:=⟨_,rfl⟩;rw [hz] at hm ⊢;have c1:w.cell? ⟨MB,i*10+1,none⟩=some (.pointer (some ⟨d,0,none⟩)):=h.cell hi (j:=1) (by rw [hm]; rfl);have H:=H3 h hm hlow;clear h hm hlow hLi hk0 hz;go_enter Tryz.func29,Tryz.ntmps29;go_wp2_with fail;refine HR.mono ?_;rintro e w1 ⟨R,o,fl,rfl,hz,hR,ht⟩;have hMlt:=H.out.1.mas.lt;have hlt:w.heap.size<=w1.heap.size:=ht.size;have hF0:(ms i).F=[d,S,Mp]:=by rw [H.out.2.1]
 have hnew:∀ y,y∈[d,S,Mp]++rp R o fl none->y∈[d,S,Mp]\/w.heap.size<=y:=fun y hy=>(List.mem_append.1 hy).imp (fun e=>e) (hR y)
 have hS:=H.out.1.stored hi (w':=w1) (m:=⟨d,some ⟨R,room,90000,mr1 id d sm⟩,[d,S,Mp]++rp R o fl none,c,z⟩) (by rw [hF0]; exact ht) (.of_some rfl hz rfl) (fun y hy=>by
  rw [hF0];exact hnew y hy) (j:=0) (by omega) (u:= .pointer (some ⟨R,0,none⟩)) (by rw [H.out.2.1]; rfl)
 have hb1:w1.cell? ⟨MB,i*10,none⟩=some (.pointer none):=by
  have:=ht.cell (H.out.1.cell hi (j:=0) (u:= .pointer none) (by rw [H.out.2.1]; rfl)) (by simp only; rw [<- hF0]; exact H.out.1.mas.mb i hi);exact this
 have fr1:w1.frozen? ⟨MB,i*10,none⟩=false:=by
  obtain ⟨C,hC,_⟩:=H.out.1.mas.rows;exact (hC.turn ht (by rw [<- hF0]; exact H.out.1.mas.mb i hi)).free _
 rw [Nat.add_zero] at hS;have hT:Turn (MB::[d,S,Mp]) w (w1.setCell ⟨MB,i*10,none⟩ (.pointer (some ⟨R,0,none⟩))):=(ht.mono fun x hx=>List.mem_cons_of_mem _ hx).trans (Turn.setCell w1 (by simp) _);have hcs:∀ (k:Nat) (u:Value),(ms i).cells[2+k]?=some u->w1.cell? ⟨MB,i*10+2+k,none⟩=some u:=fun k u hu=>by
  have:=ht.cell (H.out.1.cell hi (j:=2+k) hu) (by simp only; rw [<- hF0]; exact H.out.1.mas.mb i hi);rw [<- Nat.add_assoc] at this;exact this
 rw [H.out.2.1] at hcs;have k0:w1.cell? ⟨MB,i*10+2,none⟩=some (.int .i64 (c 0)):=hcs 0 _ rfl;have k1:w1.cell? ⟨MB,i*10+2+1,none⟩=some (.int .i64 (c 1)):=hcs 1 _ rfl;have k2:w1.cell? ⟨MB,i*10+2+2,none⟩=some (.int .i64 (c 2)):=hcs 2 _ rfl;have k3:w1.cell? ⟨MB,i*10+2+3,none⟩=some (.int .i64 (c 3)):=hcs 3 _ rfl;have k4:w1.cell? ⟨MB,i*10+2+4,none⟩=some (.int .i64 (c 4)):=hcs 4 _ rfl;have k5:w1.cell? ⟨MB,i*10+2+5,none⟩=some (.int .i64 (c 5)):=hcs 5 _ rfl;have k6:w1.cell? ⟨MB,i*10+2+6,none⟩=some (.int .i64 (c 6)):=hcs 6 _ rfl;have k7:w1.cell? ⟨MB,i*10+2+7,none⟩=some (.int .i64 (c 7)):=hcs 7 _ rfl;clear hcs;clear hz HR c1;have X:=H5 hS hT hnew ht hR;clear hS hT hnew ht hR;go_wp2_with fail;clear hb1 fr1 k0 k1 k2 k3 k4 k5 k6 k7;go_loopw [29] (fun ix wr=>∃ k:Nat,ix= .int .i64 k/\k<=8/\Hid (Booting w N MB n ms v i d [d,S,Mp] c z R room 90000 (mr1 id d sm) k wr)) (fun ix _=>8 - (intOf ix).toNat)
 case atStart=>exact ⟨0,rfl,by omega,Lib.hid ⟨_,X.out.1,X.out.2.1,X.out.2.2.1⟩⟩
 case round=>
  obtain ⟨k,rfl,hk,hB⟩:=hrel;by_cases hk8:k<8
  ·have hlink:=bi9 hi H.out.2.2 hk8 hB.out
   have c0:=bj0 hi hB.out;clear hB X;have hix:=ax9 c hk8 wr;have hlt8:(k:Int)<8:=by omega
   go_wp2_with fail;refine hlink.mono ?_;rintro e w2 ⟨rfl,hB2⟩;have B2:=Lib.hid hB2;clear hB2 hlink c0 hix;go_wp2_with fail;go_roundw
   case rel=>exact ⟨k+1,by go_num,by omega,B2⟩
   case measure=>simp [intOf]; omega
  ·obtain rfl:k=8:=by omega
   obtain ⟨F,hB⟩:=hB.out;have B:=Lib.hid hB;clear hB;go_wp2_with fail;go_ret;exact ⟨R,F,rfl,B.out.1,B.out.2.1,B.out.2.2⟩
end
def Ma.linked (m:Ma) (k:Nat) (cost:Int) (F:List Nat):Ma:=⟨m.d,m.r.map fun x=>⟨x.R,x.room,x.sp,x.M.link k cost⟩,F,fun q=>if q=k then cost else m.c q,m.z⟩
theorem Ma.cost_cells (m:Ma) {k:Nat} (hk:k<8) (cost:Int):(⟨m.d,m.r,m.F,fun q=>if q=k then cost else m.c q,m.z⟩:Ma).cells=m.cells.set (2+k) (.int .i64 cost):=by
 have:k=0\/k=1\/k=2\/k=3\/k=4\/k=5\/k=6\/k=7:=by omega
 rcases this with rfl|rfl|rfl|rfl|rfl|rfl|rfl|rfl<;>rfl
theorem Ma.cost_at (m:Ma) {k:Nat} (hk:k<8):m.cells[2+k]?=some (.int .i64 (m.c k)):=by
 have:k=0\/k=1\/k=2\/k=3\/k=4\/k=5\/k=6\/k=7:=by omega
 rcases this with rfl|rfl|rfl|rfl|rfl|rfl|rfl|rfl<;>rfl
theorem Ma.ok.costs (h:m.ok w) (c:Nat->Int):(⟨m.d,m.r,m.F,c,m.z⟩:Ma).ok w:=by
 obtain ⟨d,r,F,c0,z⟩:=m;exact h
section
variable {w:World} {N MB n:Nat} {ms:Nat->Ma} {v:Value}
theorem bg2 (h:Nt w N MB n ms v) {i:Nat} (hi:i<n) {k:Nat} (hk:k<8) {cost:Int} (h0:0<=cost) (h1:cost<=1000):
  Calls prog 30 #[.pointer (some ⟨MB,i*10,none⟩),.int .i64 k,.int .i64 cost] w fun e w'=>∃ F,e= .returned (.tuple #[])/\Nt w' N MB n (puts ms i ((ms i).linked k cost F)) v/\Turn (MB::(ms i).F) w w'/\(∀ y,y∈F->y∈(ms i).F\/w.heap.size<=y):=by
 have hS:=h.stored hi (w':=w) (m:=⟨(ms i).d,(ms i).r,(ms i).F,fun q=>if q=k then cost else (ms i).c q,(ms i).z⟩) (.refl _ _) ((h.mas.ok i hi).costs _) (fun y hy=> .inl hy) (j:=2+k) (by omega) (u:= .int .i64 cost) (Ma.cost_cells _ hk cost);have c0:w.cell? ⟨MB,i*10+2+k,none⟩=some (.int .i64 ((ms i).c k)):=by
  have:=h.cell hi (j:=2+k) (Ma.cost_at _ hk);rw [<- Nat.add_assoc] at this;exact this
 have f0:w.frozen? ⟨MB,i*10+2+k,none⟩=false:=by
  obtain ⟨C,hC,_⟩:=h.mas.rows;exact hC.free _
 have c1:w.cell? ⟨MB,i*10,none⟩=some (ms i).rv:=h.cell hi (j:=0) rfl;rw [<- Nat.add_assoc] at hS;have hT:Turn (MB::(ms i).F) w (w.setCell ⟨MB,i*10+2+k,none⟩ (.int .i64 cost)):=Turn.setCell w (by simp) _;have hk8:(k:Int)<8:=by omega
 unfold Ma.rv at c1
 cases hr:(ms i).r with
 |none=>
  rw [hr] at c1;replace c1:w.cell? ⟨MB,i*10,none⟩=some (.pointer none):=c1;have X:=H3 hS hT hr;clear hS hT h hr;go_enter Tryz.func30,Tryz.ntmps30;go_wp2_with fail;go_end0;refine ⟨(ms i).F,rfl,?_,X.out.2.1,fun y hy=> .inl hy⟩;have:=X.out.1;unfold Ma.linked;rw [X.out.2.2] at this ⊢;exact this
 |some x=>
  rw [hr] at c1;replace c1:w.cell? ⟨MB,i*10,none⟩=some (.pointer (some ⟨x.R,0,none⟩)):=c1;have hz:=hS.mas.ok i hi;rw [aa3] at hz;have HL:=ce1 (hz.some hr) hk h0 h1;have X:=H3 hS hT hr;clear hS hT h hr hz;go_enter Tryz.func30,Tryz.ntmps30;go_wp2_with fail;refine HL.mono ?_;rintro e w2 ⟨rfl,hg⟩;obtain ⟨F',g1,g2,g3⟩:=X.out.1.goes hi (m:=⟨(ms i).d,none,[],fun q=>if q=k then cost else (ms i).c q,(ms i).z⟩) (x:=x) (F:=(ms i).F) (by rw [aa3,X.out.2.2]; rfl) hg (Mr.link_kin _ _ _).2;rw [bf6] at g1;have hsz:w.heap.size<=(w.setCell ⟨MB,i*10+2+k,none⟩ (.int .i64 cost)).heap.size:=X.out.2.1.size;have Y:=Lib.hid (And.intro g1 (And.intro (X.out.2.1.beyond g2 fun y hy=> .inl (List.mem_cons_of_mem _ hy)) (fun y hy=>(g3 y hy).imp id (Nat.le_trans hsz))));have Z:=Lib.hid X.out.2.2;clear g1 g2 g3 hg HL X c0 f0 c1;go_wp2_with fail;go_end0;refine ⟨F',rfl,?_,Y.out.2.1,Y.out.2.2⟩;have:=Y.out.1;unfold Ma.linked;rw [Z.out];exact this
theorem cr9 (h:Nt w N MB n ms v) {i:Nat} (hi:i<n) {d S Mp room:Nat} {sm:Sm} {c:Nat->Int} (hm:ms i=⟨d,none,[d,S,Mp],c,⟨i+1,room,sm⟩⟩) (hlow:∀ k,0<=c k/\c k<=1000):
  Calls prog 7 #[.pointer (some ⟨N,0,none⟩),.int .i64 i] w fun e w'=>∃ R F,e= .returned (.int .i64 0)/\Nt w' N MB n (puts ms i ⟨d,some ⟨R,room,90000,lks c 8 (mr1 (i+1) d sm)⟩,F,c,⟨i+1,room,sm⟩⟩) v/\Turn (MB::[d,S,Mp]) w w'/\(∀ y,y∈F->y∈[d,S,Mp]\/w.heap.size<=y):=by
 have H1:=ag8 h hi;have H2:=as3 h hi;have h8:=h.n8;rw [hm] at H2;replace H2:Calls prog 28 #[.pointer (some ⟨N,0,none⟩),.int .i64 i] w fun e w'=>e= .returned (.bool false)/\w'=w:=H2
 have c0:w.cell? ⟨N,0,none⟩=some (.slice (some ⟨MB,0,none⟩) n n):=h.head.at_ 0;have hin:(i:Int)<(n:Int):=by omega
 have e1:IntKind.u32.wrap (i:Int)=(i:Int):=by
  simp only [IntKind.wrap,IntKind.bits,IntKind.signed];simp;omega
 have e2:IntKind.u32.wrap ((i:Int)+1)=((i+1:Nat):Int):=by
  simp only [IntKind.wrap,IntKind.bits,IntKind.signed];simp;omega
 have HB:=ch5 h hi hm hlow (by omega) (by omega);have H:=Lib.hid h;clear h hm hlow;go_enter Tryz.func7,Tryz.ntmps7;go_wp2_with fail;refine H1.mono ?_;rintro e w2 ⟨rfl,rfl⟩;go_wp2_with fail;refine H2.mono ?_;rintro e w3 ⟨rfl,rfl⟩;go_wp2_with fail;refine HB.mono ?_;rintro e w4 ⟨R,F,rfl,hB⟩;have B:=Lib.hid hB;clear hB HB c0;go_wp2_with fail;go_ret;exact ⟨R,F,rfl,B.out⟩
end
structure Fresh (w:World) (k i:Nat) (m:Ma):Prop where
 r:m.r=none
 c:m.c=fun _=>0
 z:m.z=⟨i+1,k / 2 - 1,sm0⟩
 ex:∃ S Mp,m.F=[m.d,S,Mp]/\Dk w m.d S Mp k (fun _=>List.replicate 48 0) (fun _=>none) (-1)
theorem Fresh.held (h:Fresh w k i m) (hb:Below w.heap.size w w'):Fresh w' k i m:=by
 obtain ⟨S,Mp,h1,h2⟩:=h.ex;exact ⟨h.r,h.c,h.z,S,Mp,h1,h2.held hb⟩
theorem Fresh.ok (h:Fresh w k i m) (hk:4<=k) (hk2:k<=512):m.ok w:=by
 obtain ⟨S,Mp,h1,h2⟩:=h.ex;refine .of_none h.r h1 ⟨k,_,h2,hk,?_,.inl ⟨?_,?_,fun i _=>bw5⟩⟩
 ·rw [h.z]; show k / 2 - 1<=500; omega
 ·rw [h.z]
 ·rw [h.z]; show k / 2 - 1+1<=k / 2; omega
def zma:List Value:=[.pointer none,.pointer none,.int .i64 0,.int .i64 0,.int .i64 0,.int .i64 0,.int .i64 0,.int .i64 0,.int .i64 0,.int .i64 0]
theorem bb9:∃ i,prog.info? 80=some i/\i.zero=some (.agg zma.toArray)/\i.size=10/\i.bytes=80:=by
 have h:(prog.info? 80).map (fun i=>(i.zero,i.size,i.bytes))=some (some (.agg zma.toArray),10,80):=by kernel_rfl
 exact info_parts h
def zms (n:Nat):Array Value:=madeCells zma.toArray (n*10)
theorem bp4 (n:Nat):(zms n).size=n*10:=size_madeCells _ _
theorem cy2 {j:Nat} (hi:i<n) (hj:j<10):(zms n)[i*10+j]?=zma[j]?:=by
 have hs:=bp4 n;rw [Array.getElem?_eq_getElem (by omega)];unfold zms madeCells;have hm:(i*10+j) % 10=j:=by omega
 have:j=0\/j=1\/j=2\/j=3\/j=4\/j=5\/j=6\/j=7\/j=8\/j=9:=by omega
 rcases this with rfl|rfl|rfl|rfl|rfl|rfl|rfl|rfl|rfl|rfl<;>simp [zma,hm]
theorem ap5 (n:Nat) (hn:n<=512) (w:World):(Instr.makeSlice 72 (.int .i64 (n:Int)) (.int .i64 (n:Int))).run prog w= .ok (.slice (some ⟨w.heap.size,0,none⟩) n n) (w.alloc (.cells (zms n) 80)):=by
 obtain ⟨i,h1,h2,h3,h4⟩:=bb9;have h:=run_make (P:=prog) w 72 80 i _ (by kernel_rfl) h1 h2 .i64 .i64 (n:Int) (n:Int) (by omega) (by omega) (by rw [h4]; omega) (by omega);simpa [h3,zms,Value.cells] using h
structure Laying (w:World) (MB N n sec k:Nat) (wr:World):Prop where
 head:Blk 75 wr N #[.slice (some ⟨MB,0,none⟩) n n,.slice none 0 0]
 ex:∃ ms:Nat->Ma,(∃ C,Blk 80 wr MB C/\C.size=n*10/\∀ i,i<n->∀ j v,(if i<k then (ms i).cells else zma)[j]?=some v->C[i*10+j]?=some v)/\(∀ i,i<k->Fresh wr sec i (ms i))/\
  (∀ i x,i<k->x∈(ms i).F->MB<x/\N<x/\x<wr.heap.size)/\(∀ i j,i<k->j<k->i≠j->∀ x,x∈(ms i).F->x∉(ms j).F)
 below:Below w.heap.size w wr
 lt:MB<wr.heap.size/\N<wr.heap.size
 ne:N≠MB/\w.heap.size<=MB/\w.heap.size<=N
theorem Laying.next {sec:Nat} {w2:World} (h:Laying w MB N n sec k wr) (hk:k<n) {d S Mp:Nat} (hS:S=wr.heap.size) (hM:Mp=wr.heap.size+1) (hd:d=wr.heap.size+2)
  (hD:Dk w2 d S Mp sec (fun _=>List.replicate 48 0) (fun _=>none) (-1)) (hb:Below wr.heap.size wr w2):Laying w MB N n sec (k+1) (w2.setCell ⟨MB,k*10+1,none⟩ (.pointer (some ⟨d,0,none⟩))):=by
 obtain ⟨ms,⟨C,hC,hs,hr⟩,hf,hx,ha⟩:=h.ex;have hlt:=h.lt;have hne:=h.ne;have hMB:Turn [MB] w2 (w2.setCell ⟨MB,k*10+1,none⟩ (.pointer (some ⟨d,0,none⟩))):=Turn.setCell w2 (by simp) _;have hdlt:=hD.head.lt;have hsz:(w2.setCell ⟨MB,k*10+1,none⟩ (.pointer (some ⟨d,0,none⟩))).heap.size=w2.heap.size:=by simp [World.setCell]
 refine ⟨(h.head.held hb).turn hMB (by simp; exact hne.1),⟨puts ms k ⟨d,none,[d,S,Mp],fun _=>0,⟨k+1,sec / 2 - 1,sm0⟩⟩,⟨_,(hC.held hb).store _ _,by rw [Array.size_setIfInBounds,hs],fun i hi j v hv=>?_⟩,fun i hi=>?_,fun i x hi hxm=>?_,fun i j hi hj hij x hxm=>?_⟩,h.below.trans ((hb.mono h.below.size).trans (hMB.below (by simp; exact hne.2.1) (Nat.le_trans h.below.size hb.size))),?_,hne⟩
 ·have hj:j<10:=by
   split at hv
   ·obtain ⟨h1,_⟩:=List.getElem?_eq_some_iff.1 hv; exact h1
   ·obtain ⟨h1,_⟩:=List.getElem?_eq_some_iff.1 hv; exact h1
  rw [Array.getElem?_setIfInBounds];by_cases e:i=k
  ·subst e
   rw [if_pos (by omega),aa3] at hv;by_cases e2:j=1
   ·subst e2
    rw [if_pos rfl,if_pos (by rw [hs]; omega)];exact hv
   ·rw [if_neg (by omega)]
    refine hr i hi j v ?_;rw [if_neg (by omega)];have:j=0\/j=2\/j=3\/j=4\/j=5\/j=6\/j=7\/j=8\/j=9:=by omega
    rcases this with rfl|rfl|rfl|rfl|rfl|rfl|rfl|rfl|rfl<;>exact hv
  ·rw [if_neg (by omega)]
   refine hr i hi j v ?_;by_cases e2:i<k
   ·rw [if_pos (by omega),aa2 e] at hv
    rw [if_pos e2];exact hv
   ·rw [if_neg (by omega)] at hv
    rw [if_neg e2];exact hv
 ·by_cases e:i=k
  ·subst e
   rw [aa3];exact ⟨rfl,rfl,rfl,S,Mp,rfl,hD.turn hMB (by simp; omega) (by simp; omega) (by simp; omega)⟩
  ·rw [aa2 e]
   obtain ⟨f1,f2,f0,S',M',f3,f4⟩:=hf i (by omega);refine ⟨f1,f2,f0,S',M',f3,(f4.held hb).turn hMB ?_ ?_ ?_⟩
   ·have:=hx i _ (by omega) (by rw [f3]; simp:(ms i).d∈(ms i).F); simp; omega
   ·have:=hx i S' (by omega) (by rw [f3]; simp); simp; omega
   ·have:=hx i M' (by omega) (by rw [f3]; simp); simp; omega
 ·rw [hsz]
  by_cases e:i=k
  ·subst e
   rw [aa3] at hxm;simp only [List.mem_cons,List.not_mem_nil,or_false] at hxm;rcases hxm with rfl|rfl|rfl<;>omega
  ·rw [aa2 e] at hxm
   have:=hx i x (by omega) hxm;have:=hb.size;omega
 ·by_cases e:i=k
  ·subst e
   rw [aa3] at hxm;rw [aa2 (Ne.symm hij)];intro h2;have:=hx j x (by omega) h2;simp only [List.mem_cons,List.not_mem_nil,or_false] at hxm;rcases hxm with rfl|rfl|rfl<;>omega
  ·rw [aa2 e] at hxm
   by_cases e2:j=k
   ·subst e2
    rw [aa3];intro h2;have:=hx i x (by omega) hxm;simp only [List.mem_cons,List.not_mem_nil,or_false] at h2;rcases h2 with rfl|rfl|rfl<;>omega
   ·rw [aa2 e2]
    exact ha i j (by omega) (by omega) hij x hxm
 ·rw [hsz]
  have:=hb.size;omega
theorem Laying.done {sec:Nat} (h:Laying w MB N n sec n wr) (h1:1<=n) (h8:n<=8) (hk:4<=sec) (hk2:sec<=512):∃ ms,Nt wr N MB n ms (.slice none 0 0)/\(∀ i,i<n->Fresh wr sec i (ms i))/\(∀ i,i<n->∀ x,x∈(ms i).F->w.heap.size<=x):=by
 obtain ⟨ms,⟨C,hC,hs,hr⟩,hf,hx,ha⟩:=h.ex;have hne:=h.ne;refine ⟨ms,⟨h.head,⟨⟨C,hC,hs,fun i hi j v hv=>hr i hi j v (by rw [if_pos hi]; exact hv)⟩,fun i hi=>(hf i hi).ok hk hk2,ha,fun i hi hm=>?_⟩,hne.1,fun i hi hm=>?_,h1,h8⟩,hf,fun i hi x hm=>?_⟩
 ·have:=hx i _ hi hm; omega
 ·have:=hx i _ hi hm; omega
 ·have:=hx i _ hi hm; omega
theorem Laying.start {sec:Nat}:Laying w w.heap.size (w.heap.size+1) n sec 0 ((w.alloc (.cells (zms n) 80)).alloc (.cells #[.slice (some ⟨w.heap.size,0,none⟩) n n,.slice none 0 0] 75)):=by
 have hs1:=aa1 w (.cells (zms n) 80);have hX:=Blk.new w 80 (zms n);have hb0:=aa0 w (.cells (zms n) 80);generalize w.alloc _=w1 at*;have hs2:=aa1 w1 (.cells #[.slice (some ⟨w.heap.size,0,none⟩) n n,.slice none 0 0] 75);obtain ⟨hb1,hH⟩:=nw w1 75 #[.slice (some ⟨w.heap.size,0,none⟩) n n,.slice none 0 0];rw [hs1] at hH;refine ⟨hH,⟨fun _=>⟨0,none,[],fun _=>0,⟨0,0,sm0⟩⟩,⟨_,hX.held hb1,bp4 n,fun i hi j v hv=>?_⟩,fun i hi=>by omega,fun i x hi=>by omega,fun i j hi=>by omega⟩,hb0.trans (hb1.mono hb0.size),by omega,by omega⟩;rw [if_neg (by omega)] at hv;have hj:j<10:=by obtain ⟨h1,_⟩:=List.getElem?_eq_some_iff.1 hv; exact h1
 rw [cy2 hi hj];exact hv
theorem Laying.cell {sec:Nat} (h:Laying w MB N n sec k wr) (hk:k<n):wr.cell? ⟨MB,k*10+1,none⟩=some (.pointer none):=by
 obtain ⟨ms,⟨C,hC,hs,hr⟩,_⟩:=h.ex;exact (hC.at_ _).trans (hr k hk 1 _ (by rw [if_neg (by omega)]; rfl))
theorem Laying.free {sec:Nat} (h:Laying w MB N n sec k wr) (i:Nat):wr.frozen? ⟨MB,i,none⟩=false:=by
 obtain ⟨ms,⟨C,hC,hs,hr⟩,_⟩:=h.ex;exact hC.free _
theorem Laying.drew {sec:Nat} (h:Laying w MB N n sec k wr):Laying w MB N n sec k wr.drew:=by
 obtain ⟨ms,⟨C,hC,hs,hr⟩,hf,hx,ha⟩:=h.ex;exact ⟨h.head.drew,⟨ms,⟨C,hC.drew,hs,hr⟩,fun i hi=>(hf i hi).held (Below.refl _ _).drew,hx,ha⟩,h.below.drew,h.lt,h.ne⟩
theorem dc1 (n:Nat) (h1:1<=n) (h8:n<=8) (sec:Nat) (hs1:4<=sec) (hs2:sec<=512) (w:World):Calls prog 6 #[.int .i64 (n:Int),.int .i64 (sec:Int)] w fun e w'=>
  ∃ ms,e= .returned (.pointer (some ⟨w.heap.size+1,0,none⟩))/\Nt w' (w.heap.size+1) w.heap.size n ms (.slice none 0 0)/\(∀ i,i<n->Fresh w' sec i (ms i))/\(∀ i,i<n->∀ x,x∈(ms i).F->w.heap.size<=x)/\Below w.heap.size w w':=by
 have hmk:=ap5 n (by omega);have e1:max (n:Int) 1=(n:Int):=by omega
 have e2:min (n:Int) 8=(n:Int):=by omega
 go_enter Tryz.func6,Tryz.ntmps6;go_wp2_with fail;have hL:=Laying.start (w:=w) (n:=n) (sec:=sec);generalize (w.alloc (.cells (zms n) 80)).alloc (.cells #[.slice (some ⟨w.heap.size,0,none⟩) n n,.slice none 0 0] 75)=w1 at*;have L:=Lib.hid hL;clear hL hmk e1 e2;go_loopw [18] (fun ix wr=>∃ k:Nat,ix= .int .i64 k/\k<=n/\Hid (Laying w w.heap.size (w.heap.size+1) n sec k wr)) (fun ix _=>n - (intOf ix).toNat)
 case atStart=>exact ⟨0,rfl,by omega,L⟩
 case round=>
  obtain ⟨k,rfl,hk,hB⟩:=hrel;by_cases hkn:k<n
  ·have hin:(k:Int)<(n:Int):=by omega
   have c0:wr.drew.cell? ⟨w.heap.size+1,0,none⟩=some (.slice (some ⟨w.heap.size,0,none⟩) n n):=hB.out.head.drew.at_ 0;have HD:=new_in sec (by omega) hs2 wr.drew;clear L;go_wp2_with fail;refine wp_region_held_drew (S:=fun u=>u.cell? ⟨w.heap.size+1,0,none⟩=some (.slice (some ⟨w.heap.size,0,none⟩) n n)) (by kernel_rfl) c0 (fun hHeld=>?_);refine tk 0 (.pointer (some ⟨w.heap.size+1,0,none⟩)) rfl hHeld ?_;go_frame;refine tk 1 (.pointer (some ⟨w.heap.size+1,0,none⟩)) rfl hHeld ?_;go_frame;refine tk 2 (.pointer (some ⟨w.heap.size+1,0,none⟩)) rfl hHeld ?_;go_frame;refine tk 3 (.slice (some ⟨w.heap.size,0,none⟩) n n) rfl hHeld ?_;go_frame;refine tk 4 (.int .i64 k) rfl hHeld ?_;go_frame;refine tk 5 (.int .i64 sec) rfl hHeld ?_;go_frame;refine rl 6 rfl fun K hK=>?_
   go_simp;refine HD.mono ?_;rintro e w2 ⟨rfl,hD,hb⟩;have hN:=hB.out.drew.next hkn rfl rfl rfl hD hb;have c1:w2.cell? ⟨w.heap.size,k*10+1,none⟩=some (.pointer none):=held hb (hB.out.drew.cell hkn);have f1:w2.frozen? ⟨w.heap.size,k*10+1,none⟩=false:=by
    obtain ⟨ms,⟨C,hC,_⟩,_⟩:=hB.out.drew.ex;exact (hC.held hb).free _
   have hH2:=held hb c0;have M:=Lib.hid hN;clear hN hD;refine hK.out _ _ hH2 (fun hHeld=>?_);clear hK K HD c0 hb;try go_frame
   refine tk 7 (.pointer (some ⟨w.heap.size,k*10,none⟩)) rfl hHeld ?_;go_frame;refine tk 8 (.pointer (some ⟨w.heap.size,k*10+1,none⟩)) rfl hHeld ?_;go_frame;refine rl 9 rfl fun K hK=>?_
   go_simp;refine hK.out _ _ (M.out.head.at_ 0) (fun hHeld=>?_);clear hK K c1 f1 hH2;refine wpAnyH_done (by kernel_rfl) ?_ _;try go_frame
   clear hHeld;go_wp2_with fail;go_roundw
   case rel=>exact ⟨k+1,by go_num,by omega,M⟩
   case measure=>simp [intOf]; omega
  ·obtain rfl:k=n:=by omega
   have hB2:=hB.out.done h1 h8 hs1 hs2;have hbl:=hB.out.below;have X:=H2 hB2 hbl;clear L hB hB2 hbl;go_wp2_with fail;go_ret;obtain ⟨⟨ms,a1,a2,a3⟩,a4⟩:=X.out;exact ⟨ms,rfl,a1,a2,a3,a4⟩
structure Pe where
 frm:Nat
 dst:Nat
 g:Nat
 n:Nat
 cap:Nat
def pcl (x:Pe):List Value:=[.int .i64 x.frm,.int .i64 x.dst,.slice (some ⟨x.g,0,none⟩) x.n x.cap]
theorem elemW:Elem prog 73 51 pcl 3 40:=⟨by kernel_rfl,ae2 (z:= .agg #[.int .i64 0,.int .i64 0,.slice none 0 0]) (by kernel_rfl) rfl,by omega,fun _=>rfl,fun x v hv=>by simp only [pcl,List.mem_cons,List.not_mem_nil,or_false] at hv; rcases hv with rfl|rfl|rfl<;>rfl,by omega⟩
structure Wy (v:Value) (os:List (Nat×Nat×List Nat)) (xs:List Pe) (W:World):Prop where
 own:Ol 51 pcl 3 0 v xs W
 len:xs.length=os.length
 row:∀ i (h:i<xs.length) (h':i<os.length),xs[i].frm=os[i].1/\xs[i].dst=os[i].2.1/\xs[i].n=os[i].2.2.length/\T.Ob W xs[i].g xs[i].cap os[i].2.2/\v.ownBlock≠some xs[i].g
def inW (v:Value) (xs:List Pe) (x:Nat):Prop:=v.ownBlock=some x\/∃ p,p∈xs/\p.g=x
theorem Wy.nil (W:World):Wy (.slice none 0 0) [] [] W:=⟨Ol.nil _ _,rfl,fun i h=>by simp at h⟩
section
variable {v:Value} {os:List (Nat×Nat×List Nat)} {xs:List Pe} {W W':World}
theorem Wy.turn {L:List Nat} (h:Wy v os xs W) (t:Turn L W W') (hL:∀ x,inW v xs x->x∉L):Wy v os xs W':=
 ⟨h.own.turn t fun b e=>hL b (.inl e),h.len,fun i hi hi'=>by obtain ⟨a,b,c,d,e⟩:=h.row i hi hi'; exact ⟨a,b,c,d.turn t (hL _ (.inr ⟨_,List.getElem_mem hi,rfl⟩)),e⟩⟩
theorem Wy.held (h:Wy v os xs W) (hb:Below W.heap.size W W'):Wy v os xs W':=
 ⟨h.own.held hb,h.len,fun i hi hi'=>by obtain ⟨a,b,c,d,e⟩:=h.row i hi hi'; exact ⟨a,b,c,d.held hb,e⟩⟩
theorem Wy.lt (h:Wy v os xs W) {x:Nat} (hx:inW v xs x):x<W.heap.size:=by
 rcases hx with e|⟨p,hp,rfl⟩
 ·exact (h.own.lt e).1
 ·obtain ⟨i,hi,rfl⟩:=List.mem_iff_getElem.1 hp
  exact (h.row i hi (by rw [<- h.len]; exact hi)).2.2.2.1.lt
theorem Wy.push (h:Wy v os xs W) {a b g cap:Nat} {bs:List Nat} (hv:v.ownBlock≠some g) (ho:T.Ob W g cap bs) (hbig:os.length<=100000):
  ∃ g' cap' W',(Builtin.append_ #[73,73] 73 #[v,.slice (some ⟨W.heap.size,0,none⟩) 1 1]).run prog (W.alloc (.cells #[.int .i64 a,.int .i64 b,.slice (some ⟨g,0,none⟩) bs.length cap] 51))= .ok (.slice (some ⟨g',0,none⟩) (os.length+1) cap') W'/\
   Wy (.slice (some ⟨g',0,none⟩) (os.length+1) cap') (os++[(a,b,bs)]) (xs++[⟨a,b,g,bs.length,cap⟩]) W'/\Turn v.ownBlock.toList W W'/\(v.ownBlock=some g'\/W.heap.size<g'):=by
 obtain ⟨g',cap',W',hrun,hO,hT,hat⟩:=Ol.push1 elemW h.own (Nat.zero_le _) ⟨a,b,g,bs.length,cap⟩ (by rw [h.len]; omega) 73;rw [h.len] at hrun hO;refine ⟨g',cap',W',hrun,⟨hO,by simp [h.len],fun i hi hi'=>?_⟩,hT,hat⟩;have away:∀ x,v.ownBlock≠some x->x∉v.ownBlock.toList:=fun x hx hm=>hx (by simpa using hm)
 have new:∀ x,v.ownBlock≠some x->x<W.heap.size->(Value.slice (some ⟨g',0,none⟩) (os.length+1) cap').ownBlock≠some x:=fun x hx hl e=>by
  have e2:g'=x:=by simpa [Value.ownBlock] using e
  subst e2;rcases hat with h1|h1
  ·exact hx h1
  ·omega
 by_cases hl:i<xs.length
 ·have hl':i<os.length:=by rw [<- h.len]; exact hl
  obtain ⟨a,b,c,d,f⟩:=h.row i hl hl';rw [List.getElem_append_left hl,List.getElem_append_left hl'];exact ⟨a,b,c,d.turn hT (away _ f),new _ f d.lt⟩
 ·have e1:i=xs.length:=by simp at hi; omega
  subst e1;rw [List.getElem_append_right (by omega),List.getElem_append_right (by rw [h.len]; omega)];simp only [h.len,Nat.sub_self,List.getElem_cons_zero];exact ⟨trivial,trivial,trivial,ho.turn hT (away _ hv),new _ hv ho.lt⟩
end
structure Nw (w:World) (N MB n:Nat) (ms:Nat->Ma) (v:Value) (xs:List Pe) (os:List (Nat×Nat×List Nat)):Prop where
 nt:Nt w N MB n ms v
 wy:Wy v os xs w
 apart:∀ x,inW v xs x->x≠N/\x≠MB/\∀ i,i<n->x∉(ms i).F
section
variable {w w':World} {N MB n:Nat} {ms:Nat->Ma} {v:Value} {xs:List Pe} {os:List (Nat×Nat×List Nat)}
theorem Nw.held (h:Nw w N MB n ms v xs os) (hb:Below w.heap.size w w'):Nw w' N MB n ms v xs os:=⟨h.nt.held hb,h.wy.held hb,h.apart⟩
theorem Nw.one (h:Nw w N MB n ms v xs os) {i:Nat} (hi:i<n) {m:Ma} {L:List Nat} (hN:Nt w' N MB n (puts ms i m) v) (t:Turn L w w') (hL:∀ x,x∈L->x=MB\/x∈(ms i).F) (hF:∀ y,y∈m.F->y∈(ms i).F\/w.heap.size<=y):Nw w' N MB n (puts ms i m) v xs os:=by
 refine ⟨hN,h.wy.turn t fun x hx hm=>?_,fun x hx=>⟨(h.apart x hx).1,(h.apart x hx).2.1,fun k hk hm=>?_⟩⟩
 ·rcases hL x hm with e|e
  ·exact (h.apart x hx).2.1 e
  ·exact (h.apart x hx).2.2 i hi e
 ·by_cases e:k=i
  ·subst e
   rw [aa3] at hm;rcases hF x hm with e2|e2
   ·exact (h.apart x hx).2.2 k hk e2
   ·have:=h.wy.lt hx; omega
  ·rw [aa2 e] at hm
   exact (h.apart x hx).2.2 k hk hm
theorem am5 (h:Nw w N MB n ms v xs os):Calls prog 20 #[.pointer (some ⟨N,0,none⟩)] w fun e w'=>e= .returned (.int .i64 os.length)/\w'=w:=by
 obtain ⟨p,cap,rfl,hc⟩:=h.wy.own.form;have c0:w.cell? ⟨N,1,none⟩=some (.slice p xs.length cap):=h.nt.head.at_ 1;rw [h.wy.len] at c0;have H:=Lib.hid h;clear h hc;go_enter Tryz.func20,Tryz.ntmps20;go_wp2_with fail;go_ret;exact ⟨rfl,rfl⟩
theorem Nw.listed (h:Nw w N MB n ms v xs os) (hT:Turn v.ownBlock.toList w w') {v':Value} {os':List (Nat×Nat×List Nat)} {p:Pe} (hW:Wy v' os' (xs++[p]) w') (hv:v'.ownBlock=v.ownBlock\/∃ b,v'.ownBlock=some b/\w.heap.size<=b) (hp:p.g≠N/\p.g≠MB/\∀ i,i<n->p.g∉(ms i).F):
  Nw (w'.setCell ⟨N,1,none⟩ v') N MB n ms v' (xs++[p]) os'/\Turn (N::v.ownBlock.toList) w (w'.setCell ⟨N,1,none⟩ v'):=by
 have hNl:=h.nt.head.lt;have hMl:=h.nt.mas.lt;have t2:Turn [N] w' (w'.setCell ⟨N,1,none⟩ v'):=Turn.setCell w' (by simp) _;have away:∀ x,x∈v.ownBlock.toList->x≠N/\x≠MB/\∀ i,i<n->x∉(ms i).F:=fun x hx=>h.apart x (.inl (by simpa using hx))
 have hN1:=(h.nt.head.turn hT fun hm=>(away _ hm).1 rfl).store 1 v';have hap:∀ x,inW v' (xs++[p]) x->x≠N/\x≠MB/\∀ i,i<n->x∉(ms i).F:=fun x hx=>by
  rcases hx with e|⟨q,hq,e⟩
  ·rcases hv with e2|⟨b,e2,hb⟩
   ·exact h.apart x (.inl (by rw [<- e2]; exact e))
   ·rw [e2] at e
    cases e;exact ⟨by omega,by omega,fun i hi hm=>by have:=(h.nt.mas.ok i hi).lt hm; omega⟩
  ·rcases List.mem_append.1 hq with e2|e2
   ·exact h.apart x (.inr ⟨q,e2,e⟩)
   ·simp only [List.mem_cons,List.not_mem_nil,or_false] at e2
    subst e2; subst e;exact hp
 refine ⟨⟨⟨hN1,(h.nt.mas.turn hT (fun hm=>(away _ hm).2.1 rfl) (fun i hi x hx hm=>(away x hm).2.2 i hi hx)).turn t2 (by simp; exact fun e=>h.nt.ne e.symm) (fun i hi x hx=>by simp; exact fun e=>h.nt.nF i hi (e ▸ hx)),h.nt.ne,h.nt.nF,h.nt.n1,h.nt.n8⟩,hW.turn t2 fun x hx=>by simp; exact (hap x hx).1,hap⟩,(hT.mono fun x hx=>List.mem_cons_of_mem _ hx).trans (t2.mono fun x hx=>by simp at hx; simp [hx])⟩
end
end
end Go.Proofs.YtlklghedfaeepaaGreat
