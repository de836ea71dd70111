import Derived.Test.YtafkfnodcemefaaGreatB39
import Derived.Test.YtafkfnodcemefaaGreatB31
set_option maxHeartbeats 8000000
set_option maxRecDepth 100000
namespace Go.Proofs.YtafkfnodcemefaaGreat
open _root_.Go.Proofs.Tryz (prog)
section
open Go.RowKit Go.Maps Rm Fm Sb
theorem Dq.turnL {w w':World} {d S M:Nat} {D:Dm} {L:List Nat} (h:Dq w d S M D) (t:Turn L w w') (hL:∀ x,x∈[d,S,M]->x∉L):Dq w' d S M D:=Dk.turn h t (hL _ sn) (hL _ sn) (hL _ sn)
theorem Dq.lt3 {w:World} {d S M:Nat} {D:Dm} (h:Dq w d S M D):d<w.heap.size/\S<w.heap.size/\M<w.heap.size:=⟨(Dk.head h).lt,Dk.ltS h,(Dk.map h).lt⟩
structure RnG where
 R:Nat
 J:Jm
 sp:Nat
 M:Mr
structure MaG where
 d:Nat
 r:Option RnG
 F:List Nat
 c:Nat->Int
 z:Dm
def MaG.rv (m:MaG):Value:= .pointer (m.r.map fun x=>⟨x.R,0,none⟩)
def MaG.cells (m:MaG):List Value:=[m.rv,K m.d,I (m.c 0),I (m.c 1),I (m.c 2),I (m.c 3),I (m.c 4),I (m.c 5),I (m.c 6),I (m.c 7)]
def MaG.ok (w:World) (m:MaG):Prop:=match m.r with
 |none=>∃ S Mp,m.F=[m.d,S,Mp]/\Dq w m.d S Mp m.z
 |some x=>Gz m.F w x.R x.J x.sp x.M/\x.M.d=m.d
section
variable {w w':World} {m:MaG}
theorem MaG.ok.of_none {S Mp:Nat} (hr:m.r=none) (hF:m.F=[m.d,S,Mp]) (hD:Dq w m.d S Mp m.z):m.ok w:=by
 unfold MaG.ok;rw [hr];exact ⟨S,Mp,hF,hD⟩
theorem MaG.ok.of_some {x:RnG} (hr:m.r=some x) (h:Gz m.F w x.R x.J x.sp x.M) (hd:x.M.d=m.d):m.ok w:=by
 unfold MaG.ok;rw [hr];exact ⟨h,hd⟩
theorem MaG.ok.none (h:m.ok w) (hr:m.r=none):∃ S Mp,m.F=[m.d,S,Mp]/\Dq w m.d S Mp m.z:=by
 unfold MaG.ok at h;rw [hr] at h;exact h
theorem MaG.ok.some (h:m.ok w) {x:RnG} (hr:m.r=some x):Gz m.F w x.R x.J x.sp x.M:=by
 unfold MaG.ok at h;rw [hr] at h;exact h.1
theorem MaG.ok.disk (h:m.ok w) {x:RnG} (hr:m.r=Option.some x):x.M.d=m.d:=by
 unfold MaG.ok at h;rw [hr] at h;exact h.2
theorem MaG.ok.turn {L:List Nat} (h:m.ok w) (t:Turn L w w') (hL:∀ x,x∈m.F->x∉L):m.ok w':=by
 cases hr:m.r with
 |none=>
  obtain ⟨S,Mp,hF,hD⟩:=h.none hr;exact .of_none hr hF (hD.turnL t (fun x hx=>hL x (by rw [hF]; exact hx)))
 |some x=>exact .of_some hr ((h.some hr).turn t hL) (h.disk hr)
theorem MaG.ok.held (h:m.ok w) (hb:Below w.heap.size w w'):m.ok w':=by
 cases hr:m.r with
 |none=>
  obtain ⟨S,Mp,hF,hD⟩:=h.none hr;exact .of_none hr hF (hD.held hb)
 |some x=>exact .of_some hr ((h.some hr).held hb) (h.disk hr)
theorem MaG.ok.lt (h:m.ok w) {x:Nat} (hx:x∈m.F):x<w.heap.size:=by
 cases hr:m.r with
 |none=>
  obtain ⟨S,Mp,hF,hD⟩:=h.none hr;simp only [hF,List.mem_cons,List.not_mem_nil,or_false] at hx;rcases hx with rfl|rfl|rfl
  ·exact hD.lt3.1
  ·exact hD.lt3.2.1
  ·exact hD.lt3.2.2
 |some y=>exact (h.some hr).lt hx
end
structure MasG (w:World) (MB n:Nat) (ms:Nat->MaG):Prop where
 rows:∃ C,Blk 88 w MB C/\C.size=n*10/\∀ i,i<n->∀ j v,(ms i).cells[j]?=some v->C[i*10+j]?=some v
 ok:∀ i,i<n->(ms i).ok w
 apart:∀ i k,i<n->k<n->i≠k->∀ x,x∈(ms i).F->x∉(ms k).F
 mb:∀ i,i<n->MB∉(ms i).F
structure NtG (w:World) (N MB n:Nat) (ms:Nat->MaG) (v:Value):Prop where
 head:Blk 84 w N #[Lt MB n n,v]
 mas:MasG w MB n ms
 ne:N≠MB
 nF:∀ i,i<n->N∉(ms i).F
 n1:1<=n
 n8:n<=8
section
variable {w w':World} {N MB n:Nat} {ms:Nat->MaG} {v:Value}
theorem MasG.lt (h:MasG w MB n ms):MB<w.heap.size:=by
 obtain ⟨C,h1,_⟩:=h.rows;exact h1.lt
theorem MasG.turn {L:List Nat} (h:MasG w MB n ms) (t:Turn L w w') (h1:MB∉L) (h2:∀ i,i<n->∀ x,x∈(ms i).F->x∉L):MasG w' MB n ms:=by
 obtain ⟨C,hC,hr⟩:=h.rows;exact ⟨⟨C,hC.turn t h1,hr⟩,fun i hi=>(h.ok i hi).turn t (h2 i hi),h.apart,h.mb⟩
theorem MasG.held (h:MasG w MB n ms) (hb:Below w.heap.size w w'):MasG w' MB n ms:=by
 obtain ⟨C,hC,hr⟩:=h.rows;exact ⟨⟨C,hC.held hb,hr⟩,fun i hi=>(h.ok i hi).held hb,h.apart,h.mb⟩
theorem NtG.turn {L:List Nat} (h:NtG w N MB n ms v) (t:Turn L w w') (h0:N∉L) (h1:MB∉L) (h2:∀ i,i<n->∀ x,x∈(ms i).F->x∉L):NtG w' N MB n ms v:=
 ⟨h.head.turn t h0,h.mas.turn t h1 h2,h.ne,h.nF,h.n1,h.n8⟩
theorem NtG.held (h:NtG w N MB n ms v) (hb:Below w.heap.size w w'):NtG w' N MB n ms v:=
 ⟨h.head.held hb,h.mas.held hb,h.ne,h.nF,h.n1,h.n8⟩
theorem NtG.cell (h:NtG w N MB n ms v) {i:Nat} (hi:i<n) {j:Nat} {u:Value} (hj:(ms i).cells[j]?=some u):w.cell? (Y MB (i*10+j))=some u:=by
 obtain ⟨C,hC,_,hr⟩:=h.mas.rows;exact (hC.at_ _).trans (hr i hi j u hj)
def putg (ms:Nat->MaG) (i:Nat) (m:MaG):Nat->MaG:=fun k=>if k=i then m else ms k
theorem ag0 (ms:Nat->MaG) (i:Nat) (m:MaG):putg ms i m i=m:=by simp [putg]
theorem ac5 {ms:Nat->MaG} {i k:Nat} (h:k≠i) (m:MaG):putg ms i m k=ms k:=by simp [putg,h]
theorem bs8 (ms:Nat->MaG) (i:Nat) (m m':MaG):putg (putg ms i m) i m'=putg ms i m':=by
 funext k;unfold putg;split<;>rfl
theorem NtG.by_one (h:NtG w N MB n ms v) {i:Nat} (hi:i<n) {m:MaG} (hrows:∃ C,Blk 88 w' MB C/\C.size=n*10/\∀ k,k<n->∀ j v,(putg ms i m k).cells[j]?=some v->C[k*10+j]?=some v) (t:Turn (MB::(ms i).F) w w') (hk:m.ok w') (hF:∀ y,y∈m.F->y∈(ms i).F\/w.heap.size<=y):NtG w' N MB n (putg ms i m) v:=by
 have hN:=h.head.lt;have hM:=h.mas.lt;refine ⟨h.head.turn t (by simp only [List.mem_cons,not_or]; exact ⟨h.ne,h.nF i hi⟩),⟨hrows,fun k hk2=>?_,fun a b ha hb hab x hx=>?_,fun k hk2=>?_⟩,h.ne,fun k hk2=>?_,h.n1,h.n8⟩
 ·by_cases e:k=i
  ·subst e; rw [ag0]; exact hk
  ·rw [ac5 e]
   refine (h.mas.ok k hk2).turn t fun x hx=>?_
   simp only [List.mem_cons,not_or];exact ⟨fun e2=>h.mas.mb k hk2 (e2 ▸ hx),h.mas.apart k i hk2 hi e x hx⟩
 ·by_cases e:a=i
  ·subst e
   rw [ag0] at hx;rw [ac5 (Ne.symm hab)];rcases hF x hx with h1|h1
   ·exact h.mas.apart a b ha hb hab x h1
   ·intro h2; have:=(h.mas.ok b hb).lt h2; omega
  ·rw [ac5 e] at hx
   by_cases e2:b=i
   ·subst e2
    rw [ag0];intro h2;rcases hF x h2 with h1|h1
    ·exact h.mas.apart a b ha hb hab x hx h1
    ·have:=(h.mas.ok a ha).lt hx; omega
   ·rw [ac5 e2]; exact h.mas.apart a b ha hb hab x hx
 ·by_cases e:k=i
  ·subst e; rw [ag0]; intro h2
   rcases hF _ h2 with h1|h1
   ·exact h.mas.mb k hk2 h1
   ·omega
  ·rw [ac5 e]; exact h.mas.mb k hk2
 ·by_cases e:k=i
  ·subst e; rw [ag0]; intro h2
   rcases hF _ h2 with h1|h1
   ·exact h.nF k hk2 h1
   ·omega
  ·rw [ac5 e]; exact h.nF k hk2
theorem NtG.one (h:NtG w N MB n ms v) {i:Nat} (hi:i<n) {m:MaG} (t:Turn (ms i).F w w') (hk:m.ok w') (hF:∀ y,y∈m.F->y∈(ms i).F\/w.heap.size<=y) (hc:m.cells=(ms i).cells):NtG w' N MB n (putg ms i m) v:=by
 obtain ⟨C,hC,hs,hr⟩:=h.mas.rows;refine h.by_one hi ⟨C,hC.turn t (h.mas.mb i hi),hs,fun k hk2=>?_⟩ (t.mono fun x hx=>List.mem_cons_of_mem _ hx) hk hF;by_cases e:k=i
 ·subst e; rw [ag0,hc]; exact hr k hk2
 ·rw [ac5 e]; exact hr k hk2
theorem NtG.stored (h:NtG w N MB n ms v) {i:Nat} (hi:i<n) {m:MaG} (t:Turn (ms i).F w w') (hk:m.ok w') (hF:∀ y,y∈m.F->y∈(ms i).F\/w.heap.size<=y) {j:Nat} (hj:j<10) {u:Value} (hc:m.cells=(ms i).cells.set j u):NtG (w'.setCell (Y MB (i*10+j)) u) N MB n (putg ms i m) v:=by
 obtain ⟨C,hC,hs,hr⟩:=h.mas.rows;have hC':=hC.turn t (h.mas.mb i hi);have hM:=h.mas.lt;have t2:Turn [MB] w' (w'.setCell (Y MB (i*10+j)) u):=Turn.setCell w' sn u;have hMm:MB∉m.F:=fun h2=>by
  rcases hF _ h2 with h1|h1
  ·exact h.mas.mb i hi h1
  ·omega
 refine h.by_one hi ⟨_,hC'.store _ u,by rw [Array.size_setIfInBounds,hs],fun k hk2 q x hx=>?_⟩ ((t.mono fun x hx=>List.mem_cons_of_mem _ hx).trans (t2.mono fun x hx=>by simp at hx; simp [hx])) (hk.turn t2 fun x hx=>by simp; exact fun e=>hMm (e ▸ hx)) hF;have hq:q<10:=by
  have:=List.getElem?_eq_some_iff.1 hx;obtain ⟨h1,_⟩:=this;exact h1
 rw [Array.getElem?_setIfInBounds];by_cases e:k=i
 ·subst e
  rw [ag0,hc,List.getElem?_set] at hx;by_cases e2:j=q
  ·subst e2
   rw [if_pos rfl] at hx;rw [if_pos rfl,if_pos (by rw [hs]; omega)];have h10:j<(ms k).cells.length:=hj;rw [if_pos h10] at hx;exact hx
  ·rw [if_neg e2] at hx
   rw [if_neg G];exact hr k hk2 q x hx
 ·rw [ac5 e] at hx
  rw [if_neg G];exact hr k hk2 q x hx
end
end
section
open Go.RowKit Go.Maps Rm Fm Sb
attribute [local go_sem] Oper.semAt_some
section
variable {w:World} {N MB n:Nat} {ms:Nat->MaG} {v:Value}
theorem di9 (h:NtG w N MB n ms v):Q 33 #[K N] w (Rw w (I n)):=by
 have c0:w.cell? (Y N 0)=Xp MB n n:=h.head.at_ 0;have H:=Z h;clear h;go_enter Tryz.func33,Tryz.ntmps33;go_wp2;go_ret;exact ⟨rfl,rfl⟩
theorem cu0 (h:NtG w N MB n ms v) (z:Int):Q 35 #[K N,I z] w (Rw w (O (decide (0<=z/\z<(n:Int))))):=by
 have HS:=di9 h;clear h;by_cases h0:0<=z
 ·have d0:decide (0<=z)=true:=decide_eq_true h0
  have E:=Z (show decide (0<=z/\z<(n:Int))=decide (z<(n:Int)) by simp [h0]);obtain ⟨q,hq⟩:=ey (decide (z<(n:Int)));rw [hq] at E;go_enter Tryz.func35,Tryz.ntmps35;go_wp2_with fail;refine HS.mono ?_;rintro e w2 ⟨rfl,rfl⟩;go_wp2_with fail;go_ret;exact ⟨aa4 E.out.symm,rfl⟩
 ·have d0:decide (0<=z)=false:=decide_eq_false h0
  have E:=Z (show decide (0<=z/\z<(n:Int))=false by simp [h0]);go_enter Tryz.func35,Tryz.ntmps35;go_wp2;go_ret;exact ⟨rfl,rfl⟩
theorem al0 (h:NtG w N MB n ms v) {i:Nat} (hi:i<n):Q 35 #[K N,I i] w (Rw w (O true)):=
 (cu0 h i).mono fun _ _ ⟨he,hw⟩=>⟨by rw [he,decide_eq_true G],hw⟩
theorem av7 (h:NtG w N MB n ms v) {z:Int} (hz:¬ (0<=z/\z<(n:Int))):Q 35 #[K N,I z] w (Rw w (O false)):=
 (cu0 h z).mono fun _ _ ⟨he,hw⟩=>⟨by rw [he,decide_eq_false hz],hw⟩
theorem bd0 (h:NtG w N MB n ms v) {i:Nat} (hi:i<n):Q 12 #[K N,I i] w fun e w'=>e= .returned (ms i).rv/\w'=w:=by
 have HS:=al0 h hi;have c0:w.cell? (Y N 0)=Xp MB n n:=h.head.at_ 0;have c1:w.cell? (Y MB (i*10))=some (ms i).rv:=h.cell hi (j:=0) rfl;have hin:(i:Int)<(n:Int):=G
 have H:=Z h;clear h;obtain ⟨r,hr⟩:∃ r,(ms i).r.map (fun x=>(Y x.R 0:Addr))=r:=⟨_,rfl⟩;have e:(ms i).rv= .pointer r:=by rw [MaG.rv,hr]
 rw [e] at c1 ⊢;go_enter Tryz.func12,Tryz.ntmps12;go_wp2_with fail;refine HS.mono ?_;rintro e w2 ⟨rfl,rfl⟩;go_wp2_with fail;go_ret;exact ⟨rfl,rfl⟩
theorem bl8 (h:NtG w N MB n ms v) {z:Int} (hz:¬ (0<=z/\z<(n:Int))):Q 12 #[K N,I z] w (Rw w (.pointer none)):=by
 have HS:=av7 h hz;clear h;go_enter Tryz.func12,Tryz.ntmps12;go_wp2_with fail;refine HS.mono ?_;rintro e w2 ⟨rfl,rfl⟩;go_wp2_with fail;go_ret;exact ⟨rfl,rfl⟩
theorem au6 (h:NtG w N MB n ms v) {i:Nat} (hi:i<n):Q 44 #[K N,I i] w (Rw w (O (ms i).r.isSome)):=by
 have HS:=bd0 h hi;clear h;unfold MaG.rv at HS
 cases hr:(ms i).r with
 |none=>
  rw [hr] at HS;replace HS:Q 12 #[K N,I i] w (Rw w (.pointer none)):=HS
  go_enter Tryz.func44,Tryz.ntmps44;go_wp2_with fail;refine HS.mono ?_;rintro e w2 ⟨rfl,rfl⟩;go_wp2_with fail;go_ret;exact ⟨rfl,rfl⟩
 |some x=>
  rw [hr] at HS;replace HS:Q 12 #[K N,I i] w (Rw w (K x.R)):=HS
  go_enter Tryz.func44,Tryz.ntmps44;go_wp2_with fail;refine HS.mono ?_;rintro e w2 ⟨rfl,rfl⟩;go_wp2_with fail;go_ret;exact ⟨rfl,rfl⟩
theorem aw3 (h:NtG w N MB n ms v) {z:Int} (hz:¬ (0<=z/\z<(n:Int))):Q 44 #[K N,I z] w (Rw w (O false)):=by
 have HS:=bl8 h hz;clear h;go_enter Tryz.func44,Tryz.ntmps44;go_wp2_with fail;refine HS.mono ?_;rintro e w2 ⟨rfl,rfl⟩;go_wp2_with fail;go_ret;exact ⟨rfl,rfl⟩
end
def MaG.run (m:MaG) (x:RnG) (F:List Nat):MaG:=⟨m.d,some x,F,m.c,m.z⟩
theorem MaG.run_cells {m:MaG} {x x':RnG} {F F':List Nat} (hR:x.R=x'.R):(m.run x F).cells=(m.run x' F').cells:=by
 unfold MaG.cells MaG.rv MaG.run;simp only [Option.map_some,hR]
theorem NtG.goes {w w':World} {N MB n:Nat} {ms:Nat->MaG} {v:Value} (h:NtG w N MB n ms v) {i:Nat} (hi:i<n) {m:MaG} {x:RnG} {F:List Nat} (hm:ms i=m.run x F) {J:Jm} {sp:Nat} {M:Mr} (hg:Goeg F w x.R J sp M w') (hMd:M.d=x.M.d:=by rfl):∃ F',NtG w' N MB n (putg ms i (m.run ⟨x.R,J,sp,M⟩ F')) v/\Turn F w w'/\∀ y,y∈F'->y∈F\/w.heap.size<=y:=by
 obtain ⟨F',hz,t,hn⟩:=hg;have hF:(ms i).F=F:=by rw [hm]; rfl
 refine ⟨F',h.one hi (m:=m.run ⟨x.R,J,sp,M⟩ F') (by rw [hF]; exact t) (.of_some rfl hz (hMd.trans (by have:=(h.mas.ok i hi).disk (x:=x) (by rw [hm]; rfl); rw [this,hm]; rfl))) (by rw [hF]; exact hn) (by rw [hm]; exact MaG.run_cells rfl),t,hn⟩
def Bootg (w:World) (N MB n:Nat) (ms:Nat->MaG) (v:Value) (i d:Nat) (L:List Nat) (c:Nat->Int) (z:Dm) (R:Nat) (J:Jm) (sp:Nat) (M:Mr) (k:Nat) (wr:World):Prop:=
 ∃ F,NtG wr N MB n (putg ms i ⟨d,some ⟨R,J,sp,lks c k M⟩,F,c,z⟩) v/\Turn (MB::L) w wr/\∀ y,y∈F->y∈L\/w.heap.size<=y
section
variable {w wr:World} {N MB n i d:Nat} {ms:Nat->MaG} {v:Value} {L:List Nat} {c:Nat->Int} {z:Dm} {R sp k:Nat} {J:Jm} {M:Mr}
theorem dh3 (hi:i<n) (h:Bootg w N MB n ms v i d L c z R J sp M k wr):wr.cell? (Y MB (i*10))=Np R:=by
 obtain ⟨F,h1,h2⟩:=h;exact h1.cell hi (j:=0) (by rw [ag0]; rfl)
theorem dh2 (hi:i<n) (hc:∀ k,0<=c k/\c k<=1000) (hk:k<8) (h:Bootg w N MB n ms v i d L c z R J sp M k wr):
  Q 78 #[K R,I k,I (c k)] wr fun e w'=>e= .returned (I 0)/\Bootg w N MB n ms v i d L c z R J sp M (k+1) w':=by
 obtain ⟨F,h1,h2,h3⟩:=h;have hz:=(h1.mas.ok i hi);rw [ag0] at hz;refine (du3 (hz.some rfl) hk (hc k).1 (hc k).2).mono ?_;rintro e w' ⟨rfl,hg⟩;obtain ⟨F',g1,g2,g3⟩:=h1.goes hi (m:=⟨d,none,[],c,z⟩) (x:=⟨R,J,sp,lks c k M⟩) (F:=F) (by rw [ag0]; rfl) hg (Mr.link_kin _ _ _).2;rw [bs8] at g1;refine ⟨rfl,F',g1,?_,fun y hy=>?_⟩
 ·exact h2.beyond g2 fun y hy=>(h3 y hy).imp (List.mem_cons_of_mem _) id
 ·rcases g3 y hy with e|e
  ·exact h3 y e
  ·exact .inr (Nat.le_trans h2.size e)
end
section
variable {w:World} {N MB n:Nat} {ms:Nat->MaG} {v:Value}
theorem dw7 (h:NtG w N MB n ms v) {i:Nat} (hi:i<n) {d S Mp id:Nat} {sm:Sm} {J:Jm} {D E:Dm} {ec:Int} {c:Nat->Int} (hm:ms i=⟨d,none,[d,S,Mp],c,D⟩) (hX:D.opened id=(ec,E,some (J,sm))) (hlow:∀ k,0<=c k/\c k<=1000) (h0:0<id) (h1:id<4294967296):
  Q 47 #[Qt MB (i*10),U id] w fun e w'=>∃ R F,e= .returned (I 0)/\NtG w' N MB n (putg ms i ⟨d,some ⟨R,J,100000000,lks c 8 (mr1 id d sm)⟩,F,c,D⟩) v/\Turn (MB::[d,S,Mp]) w w'/\(∀ y,y∈F->y∈[d,S,Mp]\/w.heap.size<=y):=by
 have hk0:=h.mas.ok i hi;rw [hm] at hk0;obtain ⟨S',Mp',e1,hLi0⟩:=hk0.none rfl;simp only [List.cons.injEq,and_true,true_and] at e1;obtain ⟨rfl,rfl⟩:=e1;have hLi:Dq w d S Mp D:=hLi0;have HR:=(gz_new hLi h0 h1 hX).mono (R':=fun e w'=>∃ R o fl,e= .returned (.tuple #[K R,I 0])/\Gz ([d,S,Mp]++rp R o fl none) w' R J 100000000 (mr1 id d sm)/\(∀ y,y∈rp R o fl none->w.heap.size<=y)/\Turn [d,S,Mp] w w') (fun e w' h=>h.2);clear hX hLi0;have c1:w.cell? (Y MB (i*10+1))=Np d:=h.cell hi (j:=1) (by rw [hm]; rfl);have H:=H3 h hm hlow;clear h hm hlow hLi hk0;go_enter Tryz.func47,Tryz.ntmps47;go_wp2_with fail;refine HR.mono ?_;rintro e w1 ⟨R,o,fl,rfl,hz,hR,ht⟩;have hMlt:=H.out.1.mas.lt;have hlt:w.heap.size<=w1.heap.size:=ht.size;have hF0:(ms i).F=[d,S,Mp]:=by rw [H.out.2.1]
 have hnew:∀ y,y∈[d,S,Mp]++rp R o fl none->y∈[d,S,Mp]\/w.heap.size<=y:=fun y hy=>(List.mem_append.1 hy).imp (fun e=>e) (hR y)
 have hS:=H.out.1.stored hi (w':=w1) (m:=⟨d,some ⟨R,J,100000000,mr1 id d sm⟩,[d,S,Mp]++rp R o fl none,c,D⟩) (by rw [hF0]; exact ht) (.of_some rfl hz rfl) (fun y hy=>by
  rw [hF0];exact hnew y hy) (j:=0) G (u:= K R) (by rw [H.out.2.1]; rfl)
 have hb1:w1.cell? (Y MB (i*10))=some (.pointer none):=by
  have:=ht.cell (H.out.1.cell hi (j:=0) (u:= .pointer none) (by rw [H.out.2.1]; rfl)) (by simp only; rw [<- hF0]; exact H.out.1.mas.mb i hi);exact this
 have fr1:w1.frozen? (Y MB (i*10))=false:=by
  obtain ⟨C,hC,_⟩:=H.out.1.mas.rows;exact (hC.turn ht (by rw [<- hF0]; exact H.out.1.mas.mb i hi)).free _
 rw [Nat.add_zero] at hS;have hT:Turn (MB::[d,S,Mp]) w (w1.setCell (Y MB (i*10)) (K R)):=(ht.mono fun x hx=>List.mem_cons_of_mem _ hx).trans (Turn.setCell w1 sn _);have hcs:∀ (k:Nat) (u:Value),(ms i).cells[2+k]?=some u->w1.cell? (Y MB (i*10+2+k))=some u:=fun k u hu=>by
  have:=ht.cell (H.out.1.cell hi (j:=2+k) hu) (by simp only; rw [<- hF0]; exact H.out.1.mas.mb i hi);rw [<- Nat.add_assoc] at this;exact this
 rw [H.out.2.1] at hcs;have k0:w1.cell? (Y MB (i*10+2))=some (I (c 0)):=hcs 0 _ rfl;have k1:w1.cell? (Y MB (i*10+2+1))=some (I (c 1)):=hcs 1 _ rfl;have k2:w1.cell? (Y MB (i*10+2+2))=some (I (c 2)):=hcs 2 _ rfl;have k3:w1.cell? (Y MB (i*10+2+3))=some (I (c 3)):=hcs 3 _ rfl;have k4:w1.cell? (Y MB (i*10+2+4))=some (I (c 4)):=hcs 4 _ rfl;have k5:w1.cell? (Y MB (i*10+2+5))=some (I (c 5)):=hcs 5 _ rfl;have k6:w1.cell? (Y MB (i*10+2+6))=some (I (c 6)):=hcs 6 _ rfl;have k7:w1.cell? (Y MB (i*10+2+7))=some (I (c 7)):=hcs 7 _ rfl;clear hcs;clear hz HR c1;have X:=H5 hS hT hnew ht hR;clear hS hT hnew ht hR;go_wp2_with fail;clear hb1 fr1 k0 k1 k2 k3 k4 k5 k6 k7;go_loopw [29] (fun ix wr=>∃ k:Nat,ix= I k/\k<=8/\Hid (Bootg w N MB n ms v i d [d,S,Mp] c D R J 100000000 (mr1 id d sm) k wr)) (fun ix _=>8 - (intOf ix).toNat)
 case atStart=>exact ⟨0,rfl,G,Z ⟨_,X.out.1,X.out.2.1,X.out.2.2.1⟩⟩
 case round=>
  obtain ⟨k,rfl,hk,hB⟩:=hrel;by_cases hk8:k<8
  ·have hlink:=dh2 hi H.out.2.2 hk8 hB.out
   have c0:=dh3 hi hB.out;clear hB X;have hix:=ax9 c hk8 wr;have hlt8:(k:Int)<8:=G
   go_wp2_with fail;refine hlink.mono ?_;rintro e w2 ⟨rfl,hB2⟩;have B2:=Z hB2;clear hB2 hlink c0 hix;go_wp2_with fail;go_roundw
   case rel=>exact ⟨k+1,by go_num,G,B2⟩
   case measure=>simp [intOf]; omega
  ·obtain rfl:k=8:=G
   obtain ⟨F,hB⟩:=hB.out;have B:=Z hB;clear hB;go_wp2_with fail;go_ret;exact ⟨R,F,rfl,B.out.1,B.out.2.1,B.out.2.2⟩
theorem ch9 (h:NtG w N MB n ms v) {i:Nat} (hi:i<n) {d S Mp id:Nat} {D E:Dm} {ec:Int} {c:Nat->Int} (hm:ms i=⟨d,none,[d,S,Mp],c,D⟩) (hX:D.opened id=(ec,E,none)) (h0:0<id) (h1:id<4294967296):
  Q 47 #[Qt MB (i*10),U id] w fun e w'=>e= .returned (I ec)/\NtG w' N MB n (putg ms i ⟨d,none,[d,S,Mp],c,E⟩) v/\Turn (MB::[d,S,Mp]) w w':=by
 have hk0:=h.mas.ok i hi;rw [hm] at hk0;obtain ⟨S',Mp',e1,hLi0⟩:=hk0.none rfl;simp only [List.cons.injEq,and_true,true_and] at e1;obtain ⟨rfl,rfl⟩:=e1;have hLi:Dq w d S Mp D:=hLi0;have HR:=bv2 hLi h0 h1 hX;have c1:w.cell? (Y MB (i*10+1))=Np d:=h.cell hi (j:=1) (by rw [hm]; rfl);have H:=H2 h hm;clear h hm hLi hk0 hX hLi0;go_enter Tryz.func47,Tryz.ntmps47;go_wp2_with fail;refine HR.mono ?_;rintro e w1 ⟨rfl,hc,hD,ht⟩;have hc0:(ec==0)=false:=beq_eq_false_iff_ne.2 hc;have hF0:(ms i).F=[d,S,Mp]:=by rw [H.out.2]
 have X:=H3 hD ht hF0;clear hD ht hF0 HR hc;go_wp2_with fail;go_ret;refine ⟨rfl,H.out.1.one hi (by rw [X.out.2.2]; exact X.out.2.1) (.of_none rfl rfl X.out.1) (fun y hy=> .inl (by rw [X.out.2.2]; exact hy)) (by rw [H.out.2]; rfl),X.out.2.1.mono fun x hx=>List.mem_cons_of_mem _ hx⟩
end
def MaG.linked (m:MaG) (k:Nat) (cost:Int) (F:List Nat):MaG:=⟨m.d,m.r.map fun x=>⟨x.R,x.J,x.sp,x.M.link k cost⟩,F,fun q=>if q=k then cost else m.c q,m.z⟩
theorem MaG.cost_cells (m:MaG) {k:Nat} (hk:k<8) (cost:Int):(⟨m.d,m.r,m.F,fun q=>if q=k then cost else m.c q,m.z⟩:MaG).cells=m.cells.set (2+k) (I cost):=by
 have:k=0\/k=1\/k=2\/k=3\/k=4\/k=5\/k=6\/k=7:=G
 rcases this with rfl|rfl|rfl|rfl|rfl|rfl|rfl|rfl<;>rfl
theorem MaG.cost_at (m:MaG) {k:Nat} (hk:k<8):m.cells[2+k]?=some (I (m.c k)):=by
 have:k=0\/k=1\/k=2\/k=3\/k=4\/k=5\/k=6\/k=7:=G
 rcases this with rfl|rfl|rfl|rfl|rfl|rfl|rfl|rfl<;>rfl
theorem MaG.ok.costs {w:World} {m:MaG} (h:m.ok w) (c:Nat->Int):(⟨m.d,m.r,m.F,c,m.z⟩:MaG).ok w:=by
 obtain ⟨d,r,F,c0,z⟩:=m;exact h
section
variable {w:World} {N MB n:Nat} {ms:Nat->MaG} {v:Value}
theorem ct9 (h:NtG w N MB n ms v) {i:Nat} (hi:i<n) {k:Nat} (hk:k<8) {cost:Int} (h0:0<=cost) (h1:cost<=1000):
  Q 48 #[Qt MB (i*10),I k,I cost] w fun e w'=>∃ F,e= .returned (.tuple #[])/\NtG w' N MB n (putg ms i ((ms i).linked k cost F)) v/\Turn (MB::(ms i).F) w w'/\(∀ y,y∈F->y∈(ms i).F\/w.heap.size<=y):=by
 have hS:=h.stored hi (w':=w) (m:=⟨(ms i).d,(ms i).r,(ms i).F,fun q=>if q=k then cost else (ms i).c q,(ms i).z⟩) (.refl _ _) ((h.mas.ok i hi).costs _) (fun y hy=> .inl hy) (j:=2+k) G (u:= I cost) (MaG.cost_cells _ hk cost);have c0:w.cell? (Aa MB (i*10+2+k))=some (I ((ms i).c k)):=by
  have:=h.cell hi (j:=2+k) (MaG.cost_at _ hk);rw [<- Nat.add_assoc] at this;exact this
 have f0:w.frozen? (Aa MB (i*10+2+k))=false:=by
  obtain ⟨C,hC,_⟩:=h.mas.rows;exact hC.free _
 have c1:w.cell? (Aa MB (i*10))=some (ms i).rv:=h.cell hi (j:=0) rfl;rw [<- Nat.add_assoc] at hS;have hT:Turn (MB::(ms i).F) w (w.setCell (Aa MB (i*10+2+k)) (I cost)):=Turn.setCell w sn _;have hk8:(k:Int)<8:=G
 unfold MaG.rv at c1
 cases hr:(ms i).r with
 |none=>
  rw [hr] at c1;replace c1:w.cell? (Aa MB (i*10))=some (.pointer none):=c1;have X:=H3 hS hT hr;clear hS hT h hr;go_enter Tryz.func48,Tryz.ntmps48;go_wp2_with fail;go_end0;refine ⟨(ms i).F,rfl,?_,X.out.2.1,fun y hy=> .inl hy⟩;have:=X.out.1;unfold MaG.linked;rw [X.out.2.2] at this ⊢;exact this
 |some x=>
  rw [hr] at c1;replace c1:w.cell? (Aa MB (i*10))=Np x.R:=c1;have hz:=hS.mas.ok i hi;rw [ag0] at hz;have HL:=du3 (hz.some hr) hk h0 h1;have X:=H3 hS hT hr;clear hS hT h hr hz;go_enter Tryz.func48,Tryz.ntmps48;go_wp2_with fail;refine HL.mono ?_;rintro e w2 ⟨rfl,hg⟩;obtain ⟨F',g1,g2,g3⟩:=X.out.1.goes hi (m:=⟨(ms i).d,none,[],fun q=>if q=k then cost else (ms i).c q,(ms i).z⟩) (x:=x) (F:=(ms i).F) (by rw [ag0,X.out.2.2]; rfl) hg (Mr.link_kin _ _ _).2;rw [bs8] at g1;have hsz:w.heap.size<=(w.setCell (Aa MB (i*10+2+k)) (I cost)).heap.size:=X.out.2.1.size;have Y:=Zq (And.intro g1 (And.intro (X.out.2.1.beyond g2 fun y hy=> .inl (List.mem_cons_of_mem _ hy)) (fun y hy=>(g3 y hy).imp id (Nat.le_trans hsz))));have Z:=Zq X.out.2.2;clear g1 g2 g3 hg HL X c0 f0 c1;go_wp2_with fail;go_end0;refine ⟨F',rfl,?_,Y.out.2.1,Y.out.2.2⟩;have:=Y.out.1;unfold MaG.linked;rw [Z.out];exact this
theorem dz3 (h:NtG w N MB n ms v) {i:Nat} (hi:i<n) {d S Mp:Nat} {sm:Sm} {J:Jm} {D E:Dm} {ec:Int} {c:Nat->Int} (hm:ms i=⟨d,none,[d,S,Mp],c,D⟩) (hX:D.opened (i+1)=(ec,E,some (J,sm))) (hlow:∀ k,0<=c k/\c k<=1000):
  Q 19 #[K N,I i] w fun e w'=>∃ R F,e= .returned (I 0)/\NtG w' N MB n (putg ms i ⟨d,some ⟨R,J,100000000,lks c 8 (mr1 (i+1) d sm)⟩,F,c,D⟩) v/\Turn (MB::[d,S,Mp]) w w'/\(∀ y,y∈F->y∈[d,S,Mp]\/w.heap.size<=y):=by
 have H1:=al0 h hi;have H2:=au6 h hi;have h8:=h.n8;rw [hm] at H2;replace H2:Q 44 #[K N,I i] w (Rw w (O false)):=H2
 have c0:w.cell? (Y N 0)=Xp MB n n:=h.head.at_ 0;have hin:(i:Int)<(n:Int):=G
 have e1:IntKind.u32.wrap (i:Int)=(i:Int):=by
  simp only [IntKind.wrap,IntKind.bits,IntKind.signed];simp;omega
 have e2:IntKind.u32.wrap ((i:Int)+1)=((i+1:Nat):Int):=by
  simp only [IntKind.wrap,IntKind.bits,IntKind.signed];simp;omega
 have HB:=dw7 h hi hm hX hlow G G;have H:=Z h;clear h hm hlow hX;go_enter Tryz.func19,Tryz.ntmps19;go_wp2_with fail;refine H1.mono ?_;rintro e w2 ⟨rfl,rfl⟩;go_wp2_with fail;refine H2.mono ?_;rintro e w3 ⟨rfl,rfl⟩;go_wp2_with fail;refine HB.mono ?_;rintro e w4 ⟨R,F,rfl,hB⟩;have B:=Z hB;clear hB HB c0;go_wp2_with fail;go_ret;exact ⟨R,F,rfl,B.out⟩
theorem dd9 (h:NtG w N MB n ms v) {i:Nat} (hi:i<n) {d S Mp:Nat} {D E:Dm} {ec:Int} {c:Nat->Int} (hm:ms i=⟨d,none,[d,S,Mp],c,D⟩) (hX:D.opened (i+1)=(ec,E,none)):
  Q 19 #[K N,I i] w fun e w'=>e= .returned (I ec)/\NtG w' N MB n (putg ms i ⟨d,none,[d,S,Mp],c,E⟩) v/\Turn (MB::[d,S,Mp]) w w':=by
 have H1:=al0 h hi;have H2:=au6 h hi;have h8:=h.n8;rw [hm] at H2;replace H2:Q 44 #[K N,I i] w (Rw w (O false)):=H2
 have c0:w.cell? (Y N 0)=Xp MB n n:=h.head.at_ 0;have hin:(i:Int)<(n:Int):=G
 have e1:IntKind.u32.wrap (i:Int)=(i:Int):=by
  simp only [IntKind.wrap,IntKind.bits,IntKind.signed];simp;omega
 have e2:IntKind.u32.wrap ((i:Int)+1)=((i+1:Nat):Int):=by
  simp only [IntKind.wrap,IntKind.bits,IntKind.signed];simp;omega
 have HB:=ch9 h hi hm hX G G;have H:=Z h;clear h hm hX;go_enter Tryz.func19,Tryz.ntmps19;go_wp2_with fail;refine H1.mono ?_;rintro e w2 ⟨rfl,rfl⟩;go_wp2_with fail;refine H2.mono ?_;rintro e w3 ⟨rfl,rfl⟩;go_wp2_with fail;refine HB.mono ?_;rintro e w4 ⟨rfl,hB⟩;have B:=Z hB;clear hB HB c0;go_wp2_with fail;go_ret;exact ⟨rfl,B.out⟩
end
structure Freg (w:World) (k i:Nat) (m:MaG):Prop where
 r:m.r=none
 c:m.c=fun _=>0
 z:m.z=⟨k,fun _=>List.replicate 48 0,fun _=>none,-1⟩
 ex:∃ S Mp,m.F=[m.d,S,Mp]/\Dk w m.d S Mp k (fun _=>List.replicate 48 0) (fun _=>none) (-1)
theorem Freg.held {w w':World} {k i:Nat} {m:MaG} (h:Freg w k i m) (hb:Below w.heap.size w w'):Freg w' k i m:=by
 obtain ⟨S,Mp,h1,h2⟩:=h.ex;exact ⟨h.r,h.c,h.z,S,Mp,h1,h2.held hb⟩
theorem Freg.ok {w:World} {k i:Nat} {m:MaG} (h:Freg w k i m):m.ok w:=by
 obtain ⟨S,Mp,h1,h2⟩:=h.ex;refine .of_none h.r h1 ?_;rw [h.z];exact h2
structure Layig (w:World) (MB N n sec k:Nat) (wr:World):Prop where
 head:Blk 84 wr N #[Lt MB n n,.slice none 0 0]
 ex:∃ ms:Nat->MaG,(∃ C,Blk 88 wr MB C/\C.size=n*10/\∀ i,i<n->∀ j v,(if i<k then (ms i).cells else zma)[j]?=some v->C[i*10+j]?=some v)/\(∀ i,i<k->Freg wr sec i (ms i))/\
  (∀ i x,i<k->x∈(ms i).F->MB<x/\N<x/\x<wr.heap.size)/\(∀ i j,i<k->j<k->i≠j->∀ x,x∈(ms i).F->x∉(ms j).F)
 below:Below w.heap.size w wr
 lt:MB<wr.heap.size/\N<wr.heap.size
 ne:N≠MB/\w.heap.size<=MB/\w.heap.size<=N
theorem Layig.next {w:World} {MB N n sec k:Nat} {wr w2:World} (h:Layig w MB N n sec k wr) (hk:k<n) {d S Mp:Nat} (hS:S=wr.heap.size) (hM:Mp=wr.heap.size+1) (hd:d=wr.heap.size+2)
  (hD:Dk w2 d S Mp sec (fun _=>List.replicate 48 0) (fun _=>none) (-1)) (hb:Below wr.heap.size wr w2):Layig w MB N n sec (k+1) (w2.setCell (Y MB (k*10+1)) (K d)):=by
 obtain ⟨ms,⟨C,hC,hs,hr⟩,hf,hx,ha⟩:=h.ex;have hlt:=h.lt;have hne:=h.ne;have hMB:Turn [MB] w2 (w2.setCell (Y MB (k*10+1)) (K d)):=Turn.setCell w2 sn _;have hdlt:=hD.head.lt;have hsz:(w2.setCell (Y MB (k*10+1)) (K d)).heap.size=w2.heap.size:=by simp [World.setCell]
 refine ⟨(h.head.held hb).turn hMB (by simp; exact hne.1),⟨putg ms k ⟨d,none,[d,S,Mp],fun _=>0,⟨sec,fun _=>List.replicate 48 0,fun _=>none,-1⟩⟩,⟨_,(hC.held hb).store _ _,by rw [Array.size_setIfInBounds,hs],fun i hi j v hv=>?_⟩,fun i hi=>?_,fun i x hi hxm=>?_,fun i j hi hj hij x hxm=>?_⟩,h.below.trans ((hb.mono h.below.size).trans (hMB.below (by simp; exact hne.2.1) (Nat.le_trans h.below.size hb.size))),?_,hne⟩
 ·have hj:j<10:=by
   split at hv
   ·obtain ⟨h1,_⟩:=List.getElem?_eq_some_iff.1 hv; exact h1
   ·obtain ⟨h1,_⟩:=List.getElem?_eq_some_iff.1 hv; exact h1
  rw [Array.getElem?_setIfInBounds];by_cases e:i=k
  ·subst e
   rw [if_pos G,ag0] at hv;by_cases e2:j=1
   ·subst e2
    rw [if_pos rfl,if_pos (by rw [hs]; omega)];exact hv
   ·rw [if_neg G]
    refine hr i hi j v ?_;rw [if_neg G];have:j=0\/j=2\/j=3\/j=4\/j=5\/j=6\/j=7\/j=8\/j=9:=G
    rcases this with rfl|rfl|rfl|rfl|rfl|rfl|rfl|rfl|rfl<;>exact hv
  ·rw [if_neg G]
   refine hr i hi j v ?_;by_cases e2:i<k
   ·rw [if_pos G,ac5 e] at hv
    rw [if_pos e2];exact hv
   ·rw [if_neg G] at hv
    rw [if_neg e2];exact hv
 ·by_cases e:i=k
  ·subst e
   rw [ag0];exact ⟨rfl,rfl,rfl,S,Mp,rfl,hD.turn hMB (by simp; omega) (by simp; omega) (by simp; omega)⟩
  ·rw [ac5 e]
   obtain ⟨f1,f2,f0,S',M',f3,f4⟩:=hf i G;refine ⟨f1,f2,f0,S',M',f3,(f4.held hb).turn hMB ?_ ?_ ?_⟩
   ·have:=hx i _ G (by rw [f3]; simp:(ms i).d∈(ms i).F); simp; omega
   ·have:=hx i S' G (by rw [f3]; simp); simp; omega
   ·have:=hx i M' G (by rw [f3]; simp); simp; omega
 ·rw [hsz]
  by_cases e:i=k
  ·subst e
   rw [ag0] at hxm;simp only [List.mem_cons,List.not_mem_nil,or_false] at hxm;rcases hxm with rfl|rfl|rfl<;>omega
  ·rw [ac5 e] at hxm
   have:=hx i x G hxm;have:=hb.size;omega
 ·by_cases e:i=k
  ·subst e
   rw [ag0] at hxm;rw [ac5 (Ne.symm hij)];intro h2;have:=hx j x G h2;simp only [List.mem_cons,List.not_mem_nil,or_false] at hxm;rcases hxm with rfl|rfl|rfl<;>omega
  ·rw [ac5 e] at hxm
   by_cases e2:j=k
   ·subst e2
    rw [ag0];intro h2;have:=hx i x G hxm;simp only [List.mem_cons,List.not_mem_nil,or_false] at h2;rcases h2 with rfl|rfl|rfl<;>omega
   ·rw [ac5 e2]
    exact ha i j G G hij x hxm
 ·rw [hsz]
  have:=hb.size;omega
theorem Layig.done {w:World} {MB N n sec:Nat} {wr:World} (h:Layig w MB N n sec n wr) (h1:1<=n) (h8:n<=8):∃ ms,NtG wr N MB n ms (.slice none 0 0)/\(∀ i,i<n->Freg wr sec i (ms i))/\(∀ i,i<n->∀ x,x∈(ms i).F->w.heap.size<=x):=by
 obtain ⟨ms,⟨C,hC,hs,hr⟩,hf,hx,ha⟩:=h.ex;have hne:=h.ne;refine ⟨ms,⟨h.head,⟨⟨C,hC,hs,fun i hi j v hv=>hr i hi j v (by rw [if_pos hi]; exact hv)⟩,fun i hi=>(hf i hi).ok,ha,fun i hi hm=>?_⟩,hne.1,fun i hi hm=>?_,h1,h8⟩,hf,fun i hi x hm=>?_⟩
 ·have:=hx i _ hi hm; omega
 ·have:=hx i _ hi hm; omega
 ·have:=hx i _ hi hm; omega
theorem Layig.start {w:World} {n sec:Nat}:Layig w w.heap.size (w.heap.size+1) n sec 0 ((w.alloc (.cells (zms n) 88)).alloc (.cells #[Lt w.heap.size n n,.slice none 0 0] 84)):=by
 have hs1:=aa1 w (.cells (zms n) 88);have hX:=Blk.new w 88 (zms n);have hb0:=aa0 w (.cells (zms n) 88);generalize w.alloc _=w1 at*;have hs2:=aa1 w1 (.cells #[Lt w.heap.size n n,.slice none 0 0] 84);obtain ⟨hb1,hH⟩:=nw w1 84 #[Lt w.heap.size n n,.slice none 0 0];rw [hs1] at hH;refine ⟨hH,⟨fun _=>⟨0,none,[],fun _=>0,⟨0,fun _=>[],fun _=>none,-1⟩⟩,⟨_,hX.held hb1,bp4 n,fun i hi j v hv=>?_⟩,fun i hi=>by omega,fun i x hi=>by omega,fun i j hi=>by omega⟩,hb0.trans (hb1.mono hb0.size),G,G⟩;rw [if_neg G] at hv;have hj:j<10:=by obtain ⟨h1,_⟩:=List.getElem?_eq_some_iff.1 hv; exact h1
 rw [cy2 hi hj];exact hv
theorem Layig.cell {w wr:World} {MB N n sec k:Nat} (h:Layig w MB N n sec k wr) (hk:k<n):wr.cell? (Y MB (k*10+1))=some (.pointer none):=by
 obtain ⟨ms,⟨C,hC,hs,hr⟩,_⟩:=h.ex;exact (hC.at_ _).trans (hr k hk 1 _ (by rw [if_neg G]; rfl))
theorem Layig.drew {w wr:World} {MB N n sec k:Nat} (h:Layig w MB N n sec k wr):Layig w MB N n sec k wr.drew:=by
 obtain ⟨ms,⟨C,hC,hs,hr⟩,hf,hx,ha⟩:=h.ex;exact ⟨h.head.drew,⟨ms,⟨C,hC.drew,hs,hr⟩,fun i hi=>(hf i hi).held (Below.refl _ _).drew,hx,ha⟩,h.below.drew,h.lt,h.ne⟩
theorem ng_new (n:Nat) (h1:1<=n) (h8:n<=8) (sec:Nat) (hs1:1<=sec) (hs2:sec<=512) (w:World):Q 18 #[I (n:Int),I (sec:Int)] w fun e w'=>
  ∃ ms,e= .returned (Pt (w.heap.size+1))/\NtG w' (w.heap.size+1) w.heap.size n ms (.slice none 0 0)/\(∀ i,i<n->Freg w' sec i (ms i))/\(∀ i,i<n->∀ x,x∈(ms i).F->w.heap.size<=x)/\Bw w w':=by
 have hmk:=ap5 n G;have e1:max (n:Int) 1=(n:Int):=G
 have e2:min (n:Int) 8=(n:Int):=G
 go_enter Tryz.func18,Tryz.ntmps18;go_wp2_with fail;have hL:=Layig.start (w:=w) (n:=n) (sec:=sec);generalize (w.alloc (.cells (zms n) 88)).alloc (.cells #[Lt w.heap.size n n,.slice none 0 0] 84)=w1 at*;have L:=Z hL;clear hL hmk e1 e2;go_loopw [18] (fun ix wr=>∃ k:Nat,ix= I k/\k<=n/\Hid (Layig w w.heap.size (w.heap.size+1) n sec k wr)) (fun ix _=>n - (intOf ix).toNat)
 case atStart=>exact ⟨0,rfl,G,L⟩
 case round=>
  obtain ⟨k,rfl,hk,hB⟩:=hrel;by_cases hkn:k<n
  ·have hin:(k:Int)<(n:Int):=G
   have c0:wr.drew.cell? (Y (w.heap.size+1) 0)=Xp w.heap.size n n:=hB.out.head.drew.at_ 0;have HD:=new_in sec G hs2 wr.drew;clear L;go_wp2_with fail;refine wp_region_held_drew (S:=fun u=>u.cell? (Y (w.heap.size+1) 0)=Xp w.heap.size n n) kr c0 (fun hHeld=>?_);refine tk 0 (Pt (w.heap.size+1)) rfl hHeld ?_;go_frame;refine tk 1 (Pt (w.heap.size+1)) rfl hHeld ?_;go_frame;refine tk 2 (Pt (w.heap.size+1)) rfl hHeld ?_;go_frame;refine tk 3 (Lt w.heap.size n n) rfl hHeld ?_;go_frame;refine tk 4 (I k) rfl hHeld ?_;go_frame;refine tk 5 (I sec) rfl hHeld ?_;go_frame;refine rl 6 rfl fun K hK=>?_
   go_simp;refine HD.mono ?_;rintro e w2 ⟨rfl,hD,hb⟩;have hN:=hB.out.drew.next hkn rfl rfl rfl hD hb;have c1:w2.cell? (Y w.heap.size (k*10+1))=some (.pointer none):=held hb (hB.out.drew.cell hkn);have f1:w2.frozen? (Y w.heap.size (k*10+1))=false:=by
    obtain ⟨ms,⟨C,hC,_⟩,_⟩:=hB.out.drew.ex;exact (hC.held hb).free _
   have hH2:=held hb c0;have M:=Z hN;clear hN hD;refine hK.out _ _ hH2 (fun hHeld=>?_);clear hK K HD c0 hb;try go_frame
   refine tk 7 (Qt w.heap.size (k*10)) rfl hHeld ?_;go_frame;refine tk 8 (Qt w.heap.size (k*10+1)) rfl hHeld ?_;go_frame;refine rl 9 rfl fun K hK=>?_
   go_simp;refine hK.out _ _ (M.out.head.at_ 0) (fun hHeld=>?_);clear hK K c1 f1 hH2;refine wpAnyH_done kr ?_ _;try go_frame
   clear hHeld;go_wp2_with fail;go_roundw
   case rel=>exact ⟨k+1,by go_num,G,M⟩
   case measure=>simp [intOf]; omega
  ·obtain rfl:k=n:=G
   have hB2:=hB.out.done h1 h8;have hbl:=hB.out.below;have X:=H2 hB2 hbl;clear L hB hB2 hbl;go_wp2_with fail;go_ret;obtain ⟨⟨ms,a1,a2,a3⟩,a4⟩:=X.out;exact ⟨ms,rfl,a1,a2,a3,a4⟩
theorem dx5 {w:World} {d S M:Nat} {D:Dm} (h:Dq w d S M D) {a:Int}:Q 51 #[K d,I a] w fun e w'=>e= .returned (.tuple #[])/\w'=w.setCell (Y d 2) (I (failAt a)):=by
 have c2:=(Dk.head h).at_ 2;have f2:=(Dk.head h).free 2;simp at c2;clear h;by_cases hn:-1<=a
 ·have E:Hid (failAt a=a):=Z (by unfold failAt; split<;>omega)
  go_enter Tryz.func51,Tryz.ntmps51;go_wp2;go_end0;exact ⟨rfl,by rw [E.out,show max a (-1)=a by omega]⟩
 ·have E:Hid (failAt a=-1):=Z (by unfold failAt; split<;>omega)
  go_enter Tryz.func51,Tryz.ntmps51;go_wp2;go_end0;exact ⟨rfl,by rw [E.out,show max a (-1)=-1 by omega]⟩
def Dm.crash (D:Dm) (ps:List Cr.Pk):Dm:=⟨D.n,Cr.crashed D.safe D.wn ps,fun _=>none,-1⟩
def Dm.fail (D:Dm) (a:Int):Dm:={ D with well:=failAt a }
def Jm.fail (J:Jm) (a:Int):Jm:={ J with D:=J.D.fail a }
def MaG.disk (m:MaG):Dm:=match m.r with
 |none=>m.z
 |some x=>x.J.D
theorem MaG.ok.lies {w:World} {m:MaG} (h:m.ok w):∃ S Mp rest,m.F=[m.d,S,Mp]++rest/\Dq w m.d S Mp m.disk:=by
 unfold MaG.disk
 cases hr:m.r with
 |none=>
  obtain ⟨S,Mp,e,hl⟩:=h.none hr;exact ⟨S,Mp,[],by simpa using e,hl⟩
 |some x=>
  obtain ⟨o,fl,tb,N,n,S,Mp,hF,hR,hD,hd,hJ,hN,hg,h5⟩:=(h.some hr).ex;rw [h.disk hr] at hF hD;exact ⟨S,Mp,_,hF,hD⟩
def MaG.failed (m:MaG) (a:Int):MaG:=match m.r with
 |none=>⟨m.d,none,m.F,m.c,m.z.fail a⟩
 |some x=>⟨m.d,some ⟨x.R,x.J.fail a,x.sp,x.M⟩,m.F,m.c,m.z⟩
theorem MaG.failed_F (m:MaG) (a:Int):(m.failed a).F=m.F:=by unfold MaG.failed; cases m.r<;>rfl
theorem MaG.failed_cells (m:MaG) (a:Int):(m.failed a).cells=m.cells:=by
 obtain ⟨d,r,F,c,z⟩:=m
 cases r<;>rfl
theorem Gz.fail {F:List Nat} {w w':World} {R sp:Nat} {J:Jm} {M:Mr} {a:Int} (h:Gz F w R J sp M) (t:Turn [M.d] w w') (hD:∀ S Mp D,Dq w M.d S Mp D->Dq w' M.d S Mp (D.fail a)):Gz F w' R (J.fail a) sp M:=by
 obtain ⟨o,fl,tb,N,n,S,Mp,hF,hR,hD0,hd,hJ,hN,hg,h5⟩:=h.ex;exact ⟨o,fl,tb,N,n,S,Mp,hF,hR.turn t (fun x hx=>by simp; exact fun e=>hd x hx (by simp [e])),hD S Mp _ hD0,hd,⟨hJ.fit,hJ.fit2,hJ.le,hJ.len,hJ.big,hJ.gen,hJ.n⟩,hN,hg,h5⟩
section
variable {w:World} {N MB n:Nat} {ms:Nat->MaG} {v:Value}
theorem dw8 (h:NtG w N MB n ms v) {i:Nat} (hi:i<n) {A:Option Addr} {ps:List Cr.Pk} {cap:Nat} (hps:Cr.PicksAt w A ps) (hA:∀ ad,A=some ad->ad.block≠MB/\ad.block∉(ms i).F) (hl:ps.length<=cap) (hc:cap<=9223372036854775807):
  Q 65 #[K N,I i,.slice A ps.length cap] w fun e w'=>e= .returned (I 0)/\∃ S Mp rest,(ms i).F=[(ms i).d,S,Mp]++rest/\NtG w' N MB n (putg ms i ⟨(ms i).d,none,[(ms i).d,S,Mp],(ms i).c,(ms i).disk.crash ps⟩) v/\Turn (MB::(ms i).F) w w':=by
 have H1:=al0 h hi;have c0:w.cell? (Y N 0)=Xp MB n n:=h.head.at_ 0;have hin:(i:Int)<(n:Int):=G
 have hk:=h.mas.ok i hi;obtain ⟨S,Mp,rest,hF,hLi⟩:=hk.lies;have c1:w.cell? (Y MB (i*10))=some (ms i).rv:=h.cell hi (j:=0) rfl;have c2:w.cell? (Y MB (i*10+1))=Np (ms i).d:=h.cell hi (j:=1) rfl;have f1:w.frozen? (Y MB (i*10))=false:=by
  obtain ⟨C,hC,_⟩:=h.mas.rows;exact hC.free _
 have t1:Turn [MB] w (w.setCell (Y MB (i*10)) (.pointer none)):=Turn.setCell w sn _;have hMF:=h.mas.mb i hi;have hD:=hLi.turnL t1 (fun x hx=>by
  have:x∈(ms i).F:=by rw [hF]; exact List.mem_append_left _ hx
  simp;exact fun e=>hMF (e ▸ this))
 have hps1:=hps.turn t1 (fun ad e=>by simp; exact (hA ad e).1);have HC:=Cr.crash_any hD A ps cap hps1 (.inr fun ad e hm=>(hA ad e).2 (by rw [hF]; exact List.mem_append_left _ hm)) hl hc;obtain ⟨C,hC,hs,hr⟩:=h.mas.rows;have hX:=And.intro (hC.store (i*10) (.pointer none)) (And.intro hs hr);have c2':(w.setCell (Y MB (i*10)) (.pointer none)).cell? (Y MB (i*10+1))=Np (ms i).d:=by
  rw [hX.1.at_,Array.getElem?_setIfInBounds,if_neg G,<- hC.at_];exact c2
 obtain ⟨dd,hdd⟩:∃ dd,(ms i).d=dd:=⟨_,rfl⟩;rw [hdd] at HC c2 c2';obtain ⟨rv,hrv⟩:∃ rv,(ms i).r.map (fun x=>(Y x.R 0:Addr))=rv:=⟨_,rfl⟩;have c1':w.cell? (Y MB (i*10))=some (.pointer rv):=by rw [<- hrv]; exact c1
 have X:=H6 h hF hX t1 hdd hMF;clear h hF hX t1 hdd hMF hD hLi hk hps hps1 hA hl hc hC hs hr c1 hrv c2;go_enter Tryz.func65,Tryz.ntmps65;go_wp2_with fail;refine H1.mono ?_;rintro e w2 ⟨rfl,rfl⟩;clear H1;go_wp2_with fail;refine HC.mono ?_;rintro e w3 ⟨rfl,hD3,t3⟩;have R:=H2 hD3 t3;clear HC hD3 t3 c0 c1' c2' f1;go_wp2_with fail;go_ret;obtain ⟨h,hF,⟨hC,hs,hr⟩,t1,hdd,hMF⟩:=X.out;obtain ⟨hD3,t3⟩:=R.out;have hM3:MB∉[dd,S,Mp]:=fun hm=>hMF (by rw [hF,hdd]; exact List.mem_append_left _ hm)
 have tt:Turn (MB::(ms i).F) w2 w3:=(t1.mono fun x hx=>by simp at hx; simp [hx]).trans (t3.mono fun x hx=>List.mem_cons_of_mem _ (by rw [hF,hdd]; exact List.mem_append_left _ hx));refine ⟨rfl,S,Mp,rest,hF,h.by_one hi ⟨_,hC.turn t3 hM3,by rw [Array.size_setIfInBounds,hs],fun k hk2 q x hx=>?_⟩ tt (.of_none rfl (by rw [hdd]) (by rw [hdd]; exact hD3)) (fun y hy=> .inl (by rw [hF]; exact List.mem_append_left _ hy)),tt⟩;have hq:q<10:=by
  obtain ⟨h1,_⟩:=List.getElem?_eq_some_iff.1 hx;exact h1
 rw [Array.getElem?_setIfInBounds];by_cases e:k=i
 ·rw [e,ag0] at hx
  by_cases e2:q=0
  ·subst e2
   rw [e,if_pos G,if_pos (by rw [hs]; omega)];exact hx
  ·rw [if_neg G,e]
   refine hr i hi q x ?_;have:q=1\/q=2\/q=3\/q=4\/q=5\/q=6\/q=7\/q=8\/q=9:=G
   rcases this with rfl|rfl|rfl|rfl|rfl|rfl|rfl|rfl|rfl<;>exact hx
 ·rw [ac5 e] at hx
  rw [if_neg G];exact hr k hk2 q x hx
theorem dz2 (h:NtG w N MB n ms v) {i:Nat} (hi:i<n) {a:Int} (ha:a<=9223372036854775807):
  Q 26 #[K N,I i,I a] w fun e w'=>e= .returned (I 0)/\NtG w' N MB n (putg ms i ((ms i).failed a)) v/\Turn (ms i).F w w':=by
 have H1:=al0 h hi;have c0:w.cell? (Y N 0)=Xp MB n n:=h.head.at_ 0;have hin:(i:Int)<(n:Int):=G
 have hk:=h.mas.ok i hi;obtain ⟨S,Mp,rest,hF,hLi⟩:=hk.lies;have c2:w.cell? (Y MB (i*10+1))=Np (ms i).d:=h.cell hi (j:=1) rfl;have HC:Q 51 #[K (ms i).d,I a] w fun e w'=>e= .returned (.tuple #[])/\(∀ S Mp D,Dq w (ms i).d S Mp D->Dq w' (ms i).d S Mp (D.fail a))/\Turn [(ms i).d] w w':=by
  refine (dx5 hLi (a:=a)).mono ?_;rintro e w' ⟨rfl,rfl⟩;refine ⟨rfl,fun S2 Mp2 D2 h2=>?_,Turn.setCell _ sn _⟩;exact Dk.setWell h2 (by unfold failAt; split<;>omega) (by unfold failAt; split<;>omega)
 obtain ⟨dd,hdd⟩:∃ dd,(ms i).d=dd:=⟨_,rfl⟩;rw [hdd] at c2;have X:=H4 h hk hF hdd;rw [hdd] at HC;clear h hk hF hdd hLi ha;go_enter Tryz.func26,Tryz.ntmps26;go_wp2_with fail;refine H1.mono ?_;rintro e w2 ⟨rfl,rfl⟩;clear H1;go_wp2_with fail;refine HC.mono ?_;rintro e w3 ⟨rfl,hD3,t3⟩;have R:=H2 hD3 t3;clear HC hD3 t3 c0 c2;go_wp2_with fail;go_ret;obtain ⟨h,hk,hF,rfl⟩:=X.out;obtain ⟨hD3,t3⟩:=R.out;have tt:Turn (ms i).F w2 w3:=t3.mono fun x hx=>by simp at hx; rw [hF,hx]; simp
 refine ⟨rfl,h.one hi tt ?_ (fun y hy=> .inl (by rw [MaG.failed_F] at hy; exact hy)) (MaG.failed_cells _ _),tt⟩;unfold MaG.failed
 cases hr:(ms i).r with
 |none=>
  obtain ⟨S,Mp,e,hl⟩:=hk.none hr;exact .of_none rfl e (hD3 _ _ _ hl)
 |some x=>
  have hz:=hk.some hr;have hd:=hk.disk hr;refine .of_some rfl (Gz.fail hz (by rw [hd]; exact t3) (fun S Mp D h=>?_)) hd;rw [hd] at h ⊢;exact hD3 _ _ _ h
end
section
variable {w:World} {N MB n:Nat} {ms:Nat->MaG} {v:Value}
theorem dz1 (h:NtG w N MB n ms v) {a b:Nat} (ha:a<n) (hb:b<n) (hab:a≠b) {cost:Int} (h0:0<=cost) (h1:cost<=1000):
  Q 20 #[K N,I a,I b,I cost] w fun e w'=>∃ F G,e= .returned (I 0)/\NtG w' N MB n (putg (putg ms a ((ms a).linked b cost F)) b ((ms b).linked a cost G)) v/\Turn (MB::((ms a).F++(ms b).F)) w w'/\(∀ y,y∈F->y∈(ms a).F\/w.heap.size<=y)/\(∀ y,y∈G->y∈(ms b).F\/w.heap.size<=y):=by
 have H1:=al0 h ha;have H2:=al0 h hb;have h8:=h.n8;have c0:w.cell? (Aa N 0)=Xp MB n n:=h.head.at_ 0;have hin:(a:Int)<(n:Int):=og;have hin2:(b:Int)<(n:Int):=og;have d1:=df (cost<0);have d2:=df ((1000:Int)<cost);have d3:((a:Int)==(b:Int))=false:=beq_eq_false_iff_ne.2 og;have HA:=ct9 h ha (k:=b) og h0 h1;have H:=H4 h hab h0 h1;clear h hab h0 h1;go_enter Tryz.func20,Tryz.ntmps20;go_wp2_with fail;refine H1.mono ?_;rintro e w2 ⟨rfl,rfl⟩;go_wp2_with fail;refine H2.mono ?_;rintro e w2 ⟨rfl,rfl⟩;go_wp2_with fail;refine HA.mono ?_;rintro e w1 ⟨F,rfl,hN,ht,hF⟩;have c1:w1.cell? (Aa N 0)=Xp MB n n:=hN.head.at_ 0;have HB:=ct9 hN hb (k:=a) og H.out.2.2.1 H.out.2.2.2;rw [ac5 (Ne.symm H.out.2.1)] at HB;have X:=Z (And.intro ht hF);clear H1 H2 HA hN ht hF c0;go_wp2_with fail;refine HB.mono ?_;rintro e w2 ⟨G,rfl,hN,ht,hG⟩;have Y:=H3 hN ht hG;clear HB hN ht hG c1;go_wp2_with fail;go_ret;have hsz:=X.out.1.size;refine ⟨F,G,rfl,Y.out.1,(X.out.1.mono fun x hx=>?_).trans (Y.out.2.1.mono fun x hx=>?_),X.out.2,fun y hy=>(Y.out.2.2 y hy).imp id (Nat.le_trans hsz)⟩
 ·rcases List.mem_cons.1 hx with e|e
  ·exact List.mem_cons.2 (.inl e)
  ·exact List.mem_cons_of_mem _ (List.mem_append_left _ e)
 ·rcases List.mem_cons.1 hx with e|e
  ·exact List.mem_cons.2 (.inl e)
  ·exact List.mem_cons_of_mem _ (List.mem_append_right _ e)
end
section
variable {w:World} {N MB n:Nat} {ms:Nat->MaG} {v:Value}
theorem dl9 (h:NtG w N MB n ms v) {i:Nat} (hi:i<n) {d R sp:Nat} {J J2:Jm} {M:Mr} {F:List Nat} {c:Nat->Int} {z:Dm} (hm:ms i=⟨d,some ⟨R,J,sp,M⟩,F,c,z⟩)
  {a:Nat} {len:Int} {on:Bool} {ec:Int} {M':Mr} (hd:M'.d=M.d) (HR:∀ W,Gz F W R J sp M->Q 49 #[Pt R,.agg #[U a,I len],O on] W fun e w'=>e= .returned (I ec)/\Goeg F W R J2 sp M' w'):
  Q 21 #[Pt N,I i,.agg #[U a,I len],O on] w fun e w'=>∃ F',e= .returned (I ec)/\NtG w' N MB n (putg ms i ⟨d,some ⟨R,J2,sp,M'⟩,F',c,z⟩) v/\Turn F w w'/\(∀ y,y∈F'->y∈F\/w.heap.size<=y):=by
 obtain ⟨hb,PB⟩:=nw w 28 #[U a,I len];have hsz:=aa1 w (.cells #[U a,I len] 28);have h1:=h.held hb;have hz:=h1.mas.ok i hi;rw [hm] at hz;have H2:=au6 h1 hi;rw [hm] at H2;replace H2:Q 44 #[Pt N,I i] (w.alloc (.cells #[U a,I len] 28)) fun e w'=>e= .returned (O true)/\w'=w.alloc (.cells #[U a,I len] 28):=H2
 have c0:(w.alloc (.cells #[U a,I len] 28)).cell? (Y N 0)=Xp MB n n:=h1.head.at_ 0;have c1:(w.alloc (.cells #[U a,I len] 28)).cell? (Y MB (i*10))=Np R:=h1.cell hi (j:=0) (by rw [hm]; rfl);have c2:(w.alloc (.cells #[U a,I len] 28)).cell? (Y w.heap.size 0)=some (U a):=PB.at_ 0;have c3:(w.alloc (.cells #[U a,I len] 28)).cell? (Y w.heap.size 1)=some (I len):=PB.at_ 1;have hin:(i:Int)<(n:Int):=og;have HO:=HR _ ((hz.some rfl).held (Below.refl _ _).drew);have hlt:∀ x,x∈F->x<w.heap.size:=fun x hx=>(h.mas.ok i hi).lt (by rw [hm]; exact hx)
 have hNF:N∉F:=by have:=h.nF i hi; rw [hm] at this; exact this
 have hMF:MB∉F:=by have:=h.mas.mb i hi; rw [hm] at this; exact this
 have X:=H7 h1 hm hb hlt hNF hMF hsz;clear hlt hNF hMF h h1 hm HR hz PB;go_enter Tryz.func21,Tryz.ntmps21;go_wp2_with fail;generalize w.alloc _=w1 at*;refine H2.mono ?_;rintro e w2 ⟨rfl,rfl⟩;go_wp2_with fail;clear H2;refine wp_region_held_drew (S:=fun u=>u.cell? (Y N 0)=Xp MB n n/\u.cell? (Y MB (i*10))=Np R/\u.cell? (Y w.heap.size 0)=some (U a)/\u.cell? (Y w.heap.size 1)=some (I len)) kr ⟨c0,c1,c2,c3⟩ (fun hHeld=>?_);refine tk 0 (Pt N) rfl hHeld ?_;go_frame;refine tk 1 (Pt N) rfl hHeld ?_;go_frame;refine tk 2 (Pt N) rfl hHeld ?_;go_frame;refine tk 3 (Lt MB n n) rfl hHeld ?_;go_frame;refine tk 4 (I i) rfl hHeld ?_;go_frame;refine tk 5 (Qt MB (i*10)) rfl hHeld ?_;go_frame;refine tk 6 (Qt MB (i*10)) rfl hHeld ?_;go_frame;refine tk 7 (Pt R) rfl hHeld ?_;go_frame;refine tk 8 (.agg #[U a,I len]) rfl hHeld ?_;go_frame;refine tk 9 (O on) rfl hHeld ?_;go_frame;refine rl 10 rfl fun K hK=>?_
 go_simp;refine HO.mono ?_;rintro e w4 ⟨rfl,hG⟩;obtain ⟨F4,hz4,t4,n4⟩:=hG;have hp4:w.heap.size∉F:=fun hx=>by have:=X.out.2.2.2.1 _ hx; omega
 refine hK.out _ _ ⟨t4.cell c0 X.out.2.2.2.2.1,t4.cell c1 X.out.2.2.2.2.2.1,t4.cell c2 hp4,t4.cell c3 hp4⟩ (fun hHeld=>?_);clear hK K HO c0 c1 c2 c3;obtain ⟨F',g1,g2,g3⟩:=(X.out.1.held (Below.refl _ _).drew).goes hi (m:=⟨d,none,[],c,z⟩) (x:=⟨R,J,sp,M⟩) (F:=F) (by rw [X.out.2.1]; rfl) ⟨F4,hz4,t4,n4⟩ hd;have G:=H3 g1 g2 g3;clear hz4 t4 n4 g1 g2 g3;refine tk 11 (I ec) rfl hHeld ?_;go_frame;refine wpAnyH_done kr ?_ _;try go_frame
 clear hHeld;go_wp2_with fail;go_ret;have hbd:=X.out.2.2.1.trans ((Below.refl _ _).drew.mono X.out.2.2.1.size);refine ⟨rfl,F',G.out.1,(Turn.of_below _ hbd).trans G.out.2.1,fun y hy=>(G.out.2.2 y hy).imp id (Nat.le_trans hbd.size)⟩
end
end
end Go.Proofs.YtafkfnodcemefaaGreat
