import Derived.Test.YtbepbkidkjblgaaGreatB39
import Derived.Test.YtbepbkidkjblgaaGreatB31
set_option maxHeartbeats 8000000
set_option maxRecDepth 100000
namespace Go.Proofs.YtbepbkidkjblgaaGreat
open _root_.Go.Proofs.Tryz (prog)
section
open Go.RowKit Go.Maps Rm Fm Sb
theorem Dq.turnL {w w':World} {d S M:Nat} {D:Dm} {L:List Nat} (h:Dq w d S M D) (t:Turn L w w') (hL:∀ x,x∈[d,S,M]->x∉L):Dq w' d S M D:=Dk.turn h t (hL _ (by simp)) (hL _ (by simp)) (hL _ (by simp))
theorem Dq.lt3 {w:World} {d S M:Nat} {D:Dm} (h:Dq w d S M D):d<w.heap.size/\S<w.heap.size/\M<w.heap.size:=⟨(Dk.head h).lt,Dk.ltS h,(Dk.map h).lt⟩
structure RnG where
 R:Nat
 J:Jm
 sp:Nat
 M:Mr
structure MaG where
 d:Nat
 r:Option RnG
 F:List Nat
 c:Nat->Int
 z:Dm
def MaG.rv (m:MaG):Value:= .pointer (m.r.map fun x=>⟨x.R,0,none⟩)
def MaG.cells (m:MaG):List Value:=[m.rv,.pointer (some ⟨m.d,0,none⟩),.int .i64 (m.c 0),.int .i64 (m.c 1),.int .i64 (m.c 2),.int .i64 (m.c 3),.int .i64 (m.c 4),.int .i64 (m.c 5),.int .i64 (m.c 6),.int .i64 (m.c 7)]
def MaG.ok (w:World) (m:MaG):Prop:=match m.r with
 |none=>∃ S Mp,m.F=[m.d,S,Mp]/\Dq w m.d S Mp m.z
 |some x=>Gz m.F w x.R x.J x.sp x.M/\x.M.d=m.d
section
variable {w w':World} {m:MaG}
theorem MaG.ok.of_none {S Mp:Nat} (hr:m.r=none) (hF:m.F=[m.d,S,Mp]) (hD:Dq w m.d S Mp m.z):m.ok w:=by
 unfold MaG.ok;rw [hr];exact ⟨S,Mp,hF,hD⟩
theorem MaG.ok.of_some {x:RnG} (hr:m.r=some x) (h:Gz m.F w x.R x.J x.sp x.M) (hd:x.M.d=m.d):m.ok w:=by
 unfold MaG.ok;rw [hr];exact ⟨h,hd⟩
theorem MaG.ok.none (h:m.ok w) (hr:m.r=none):∃ S Mp,m.F=[m.d,S,Mp]/\Dq w m.d S Mp m.z:=by
 unfold MaG.ok at h;rw [hr] at h;exact h
theorem MaG.ok.some (h:m.ok w) {x:RnG} (hr:m.r=some x):Gz m.F w x.R x.J x.sp x.M:=by
 unfold MaG.ok at h;rw [hr] at h;exact h.1
theorem MaG.ok.disk (h:m.ok w) {x:RnG} (hr:m.r=Option.some x):x.M.d=m.d:=by
 unfold MaG.ok at h;rw [hr] at h;exact h.2
theorem MaG.ok.turn {L:List Nat} (h:m.ok w) (t:Turn L w w') (hL:∀ x,x∈m.F->x∉L):m.ok w':=by
 cases hr:m.r with
 |none=>
  obtain ⟨S,Mp,hF,hD⟩:=h.none hr;exact .of_none hr hF (hD.turnL t (fun x hx=>hL x (by rw [hF]; exact hx)))
 |some x=>exact .of_some hr ((h.some hr).turn t hL) (h.disk hr)
theorem MaG.ok.held (h:m.ok w) (hb:Below w.heap.size w w'):m.ok w':=by
 cases hr:m.r with
 |none=>
  obtain ⟨S,Mp,hF,hD⟩:=h.none hr;exact .of_none hr hF (hD.held hb)
 |some x=>exact .of_some hr ((h.some hr).held hb) (h.disk hr)
theorem MaG.ok.lt (h:m.ok w) {x:Nat} (hx:x∈m.F):x<w.heap.size:=by
 cases hr:m.r with
 |none=>
  obtain ⟨S,Mp,hF,hD⟩:=h.none hr;simp only [hF,List.mem_cons,List.not_mem_nil,or_false] at hx;rcases hx with rfl|rfl|rfl
  ·exact hD.lt3.1
  ·exact hD.lt3.2.1
  ·exact hD.lt3.2.2
 |some y=>exact (h.some hr).lt hx
end
structure MasG (w:World) (MB n:Nat) (ms:Nat->MaG):Prop where
 rows:∃ C,Blk 68 w MB C/\C.size=n*10/\∀ i,i<n->∀ j v,(ms i).cells[j]?=some v->C[i*10+j]?=some v
 ok:∀ i,i<n->(ms i).ok w
 apart:∀ i k,i<n->k<n->i≠k->∀ x,x∈(ms i).F->x∉(ms k).F
 mb:∀ i,i<n->MB∉(ms i).F
structure NtG (w:World) (N MB n:Nat) (ms:Nat->MaG) (v:Value):Prop where
 head:Blk 56 w N #[.slice (some ⟨MB,0,none⟩) n n,v]
 mas:MasG w MB n ms
 ne:N≠MB
 nF:∀ i,i<n->N∉(ms i).F
 n1:1<=n
 n8:n<=8
section
variable {w w':World} {N MB n:Nat} {ms:Nat->MaG} {v:Value}
theorem MasG.lt (h:MasG w MB n ms):MB<w.heap.size:=by
 obtain ⟨C,h1,_⟩:=h.rows;exact h1.lt
theorem MasG.turn {L:List Nat} (h:MasG w MB n ms) (t:Turn L w w') (h1:MB∉L) (h2:∀ i,i<n->∀ x,x∈(ms i).F->x∉L):MasG w' MB n ms:=by
 obtain ⟨C,hC,hr⟩:=h.rows;exact ⟨⟨C,hC.turn t h1,hr⟩,fun i hi=>(h.ok i hi).turn t (h2 i hi),h.apart,h.mb⟩
theorem MasG.held (h:MasG w MB n ms) (hb:Below w.heap.size w w'):MasG w' MB n ms:=by
 obtain ⟨C,hC,hr⟩:=h.rows;exact ⟨⟨C,hC.held hb,hr⟩,fun i hi=>(h.ok i hi).held hb,h.apart,h.mb⟩
theorem NtG.turn {L:List Nat} (h:NtG w N MB n ms v) (t:Turn L w w') (h0:N∉L) (h1:MB∉L) (h2:∀ i,i<n->∀ x,x∈(ms i).F->x∉L):NtG w' N MB n ms v:=
 ⟨h.head.turn t h0,h.mas.turn t h1 h2,h.ne,h.nF,h.n1,h.n8⟩
theorem NtG.held (h:NtG w N MB n ms v) (hb:Below w.heap.size w w'):NtG w' N MB n ms v:=
 ⟨h.head.held hb,h.mas.held hb,h.ne,h.nF,h.n1,h.n8⟩
theorem NtG.cell (h:NtG w N MB n ms v) {i:Nat} (hi:i<n) {j:Nat} {u:Value} (hj:(ms i).cells[j]?=some u):w.cell? ⟨MB,i*10+j,none⟩=some u:=by
 obtain ⟨C,hC,_,hr⟩:=h.mas.rows;exact (hC.at_ _).trans (hr i hi j u hj)
def putg (ms:Nat->MaG) (i:Nat) (m:MaG):Nat->MaG:=fun k=>if k=i then m else ms k
theorem ag0 (ms:Nat->MaG) (i:Nat) (m:MaG):putg ms i m i=m:=by simp [putg]
theorem ac5 {ms:Nat->MaG} {i k:Nat} (h:k≠i) (m:MaG):putg ms i m k=ms k:=by simp [putg,h]
theorem bs8 (ms:Nat->MaG) (i:Nat) (m m':MaG):putg (putg ms i m) i m'=putg ms i m':=by
 funext k;unfold putg;split<;>rfl
theorem NtG.by_one (h:NtG w N MB n ms v) {i:Nat} (hi:i<n) {m:MaG} (hrows:∃ C,Blk 68 w' MB C/\C.size=n*10/\∀ k,k<n->∀ j v,(putg ms i m k).cells[j]?=some v->C[k*10+j]?=some v) (t:Turn (MB::(ms i).F) w w') (hk:m.ok w') (hF:∀ y,y∈m.F->y∈(ms i).F\/w.heap.size<=y):NtG w' N MB n (putg ms i m) v:=by
 have hN:=h.head.lt;have hM:=h.mas.lt;refine ⟨h.head.turn t (by simp only [List.mem_cons,not_or]; exact ⟨h.ne,h.nF i hi⟩),⟨hrows,fun k hk2=>?_,fun a b ha hb hab x hx=>?_,fun k hk2=>?_⟩,h.ne,fun k hk2=>?_,h.n1,h.n8⟩
 ·by_cases e:k=i
  ·subst e; rw [ag0]; exact hk
  ·rw [ac5 e]
   refine (h.mas.ok k hk2).turn t fun x hx=>?_
   simp only [List.mem_cons,not_or];exact ⟨fun e2=>h.mas.mb k hk2 (e2 ▸ hx),h.mas.apart k i hk2 hi e x hx⟩
 ·by_cases e:a=i
  ·subst e
   rw [ag0] at hx;rw [ac5 (Ne.symm hab)];rcases hF x hx with h1|h1
   ·exact h.mas.apart a b ha hb hab x h1
   ·intro h2; have:=(h.mas.ok b hb).lt h2; omega
  ·rw [ac5 e] at hx
   by_cases e2:b=i
   ·subst e2
    rw [ag0];intro h2;rcases hF x h2 with h1|h1
    ·exact h.mas.apart a b ha hb hab x hx h1
    ·have:=(h.mas.ok a ha).lt hx; omega
   ·rw [ac5 e2]; exact h.mas.apart a b ha hb hab x hx
 ·by_cases e:k=i
  ·subst e; rw [ag0]; intro h2
   rcases hF _ h2 with h1|h1
   ·exact h.mas.mb k hk2 h1
   ·omega
  ·rw [ac5 e]; exact h.mas.mb k hk2
 ·by_cases e:k=i
  ·subst e; rw [ag0]; intro h2
   rcases hF _ h2 with h1|h1
   ·exact h.nF k hk2 h1
   ·omega
  ·rw [ac5 e]; exact h.nF k hk2
theorem NtG.one (h:NtG w N MB n ms v) {i:Nat} (hi:i<n) {m:MaG} (t:Turn (ms i).F w w') (hk:m.ok w') (hF:∀ y,y∈m.F->y∈(ms i).F\/w.heap.size<=y) (hc:m.cells=(ms i).cells):NtG w' N MB n (putg ms i m) v:=by
 obtain ⟨C,hC,hs,hr⟩:=h.mas.rows;refine h.by_one hi ⟨C,hC.turn t (h.mas.mb i hi),hs,fun k hk2=>?_⟩ (t.mono fun x hx=>List.mem_cons_of_mem _ hx) hk hF;by_cases e:k=i
 ·subst e; rw [ag0,hc]; exact hr k hk2
 ·rw [ac5 e]; exact hr k hk2
theorem NtG.stored (h:NtG w N MB n ms v) {i:Nat} (hi:i<n) {m:MaG} (t:Turn (ms i).F w w') (hk:m.ok w') (hF:∀ y,y∈m.F->y∈(ms i).F\/w.heap.size<=y) {j:Nat} (hj:j<10) {u:Value} (hc:m.cells=(ms i).cells.set j u):NtG (w'.setCell ⟨MB,i*10+j,none⟩ u) N MB n (putg ms i m) v:=by
 obtain ⟨C,hC,hs,hr⟩:=h.mas.rows;have hC':=hC.turn t (h.mas.mb i hi);have hM:=h.mas.lt;have t2:Turn [MB] w' (w'.setCell ⟨MB,i*10+j,none⟩ u):=Turn.setCell w' (by simp) u;have hMm:MB∉m.F:=fun h2=>by
  rcases hF _ h2 with h1|h1
  ·exact h.mas.mb i hi h1
  ·omega
 refine h.by_one hi ⟨_,hC'.store _ u,by rw [Array.size_setIfInBounds,hs],fun k hk2 q x hx=>?_⟩ ((t.mono fun x hx=>List.mem_cons_of_mem _ hx).trans (t2.mono fun x hx=>by simp at hx; simp [hx])) (hk.turn t2 fun x hx=>by simp; exact fun e=>hMm (e ▸ hx)) hF;have hq:q<10:=by
  have:=List.getElem?_eq_some_iff.1 hx;obtain ⟨h1,_⟩:=this;exact h1
 rw [Array.getElem?_setIfInBounds];by_cases e:k=i
 ·subst e
  rw [ag0,hc,List.getElem?_set] at hx;by_cases e2:j=q
  ·subst e2
   rw [if_pos rfl] at hx;rw [if_pos rfl,if_pos (by rw [hs]; omega)];have h10:j<(ms k).cells.length:=hj;rw [if_pos h10] at hx;exact hx
  ·rw [if_neg e2] at hx
   rw [if_neg (by omega)];exact hr k hk2 q x hx
 ·rw [ac5 e] at hx
  rw [if_neg (by omega)];exact hr k hk2 q x hx
end
end
section
open Go.RowKit Go.Maps Rm Fm Sb
attribute [local go_sem] Oper.semAt_some
section
variable {w:World} {N MB n:Nat} {ms:Nat->MaG} {v:Value}
theorem di9 (h:NtG w N MB n ms v):Calls prog 9 #[.pointer (some ⟨N,0,none⟩)] w fun e w'=>e= .returned (.int .i64 n)/\w'=w:=by
 have c0:w.cell? ⟨N,0,none⟩=some (.slice (some ⟨MB,0,none⟩) n n):=h.head.at_ 0;have H:=Lib.hid h;clear h;go_enter Tryz.func9,Tryz.ntmps9;go_wp2;go_ret;exact ⟨rfl,rfl⟩
theorem cu0 (h:NtG w N MB n ms v) (z:Int):Calls prog 30 #[.pointer (some ⟨N,0,none⟩),.int .i64 z] w fun e w'=>e= .returned (.bool (decide (0<=z/\z<(n:Int))))/\w'=w:=by
 have HS:=di9 h;clear h;by_cases h0:0<=z
 ·have d0:decide (0<=z)=true:=decide_eq_true h0
  have E:=Lib.hid (show decide (0<=z/\z<(n:Int))=decide (z<(n:Int)) by simp [h0]);obtain ⟨q,hq⟩:∃ q,decide (z<(n:Int))=q:=⟨_,rfl⟩;rw [hq] at E;go_enter Tryz.func30,Tryz.ntmps30;go_wp2_with fail;refine HS.mono ?_;rintro e w2 ⟨rfl,rfl⟩;go_wp2_with fail;go_ret;exact ⟨aa4 E.out.symm,rfl⟩
 ·have d0:decide (0<=z)=false:=decide_eq_false h0
  have E:=Lib.hid (show decide (0<=z/\z<(n:Int))=false by simp [h0]);go_enter Tryz.func30,Tryz.ntmps30;go_wp2;go_ret;exact ⟨rfl,rfl⟩
theorem al0 (h:NtG w N MB n ms v) {i:Nat} (hi:i<n):Calls prog 30 #[.pointer (some ⟨N,0,none⟩),.int .i64 i] w fun e w'=>e= .returned (.bool true)/\w'=w:=
 (cu0 h i).mono fun _ _ ⟨he,hw⟩=>⟨by rw [he,decide_eq_true (by omega)],hw⟩
theorem av7 (h:NtG w N MB n ms v) {z:Int} (hz:¬ (0<=z/\z<(n:Int))):Calls prog 30 #[.pointer (some ⟨N,0,none⟩),.int .i64 z] w fun e w'=>e= .returned (.bool false)/\w'=w:=
 (cu0 h z).mono fun _ _ ⟨he,hw⟩=>⟨by rw [he,decide_eq_false hz],hw⟩
theorem bd0 (h:NtG w N MB n ms v) {i:Nat} (hi:i<n):Calls prog 13 #[.pointer (some ⟨N,0,none⟩),.int .i64 i] w fun e w'=>e= .returned (ms i).rv/\w'=w:=by
 have HS:=al0 h hi;have c0:w.cell? ⟨N,0,none⟩=some (.slice (some ⟨MB,0,none⟩) n n):=h.head.at_ 0;have c1:w.cell? ⟨MB,i*10,none⟩=some (ms i).rv:=h.cell hi (j:=0) rfl;have hin:(i:Int)<(n:Int):=by omega
 have H:=Lib.hid h;clear h;obtain ⟨r,hr⟩:∃ r,(ms i).r.map (fun x=>(⟨x.R,0,none⟩:Addr))=r:=⟨_,rfl⟩;have e:(ms i).rv= .pointer r:=by rw [MaG.rv,hr]
 rw [e] at c1 ⊢;go_enter Tryz.func13,Tryz.ntmps13;go_wp2_with fail;refine HS.mono ?_;rintro e w2 ⟨rfl,rfl⟩;go_wp2_with fail;go_ret;exact ⟨rfl,rfl⟩
theorem bl8 (h:NtG w N MB n ms v) {z:Int} (hz:¬ (0<=z/\z<(n:Int))):Calls prog 13 #[.pointer (some ⟨N,0,none⟩),.int .i64 z] w fun e w'=>e= .returned (.pointer none)/\w'=w:=by
 have HS:=av7 h hz;clear h;go_enter Tryz.func13,Tryz.ntmps13;go_wp2_with fail;refine HS.mono ?_;rintro e w2 ⟨rfl,rfl⟩;go_wp2_with fail;go_ret;exact ⟨rfl,rfl⟩
theorem au6 (h:NtG w N MB n ms v) {i:Nat} (hi:i<n):Calls prog 36 #[.pointer (some ⟨N,0,none⟩),.int .i64 i] w fun e w'=>e= .returned (.bool (ms i).r.isSome)/\w'=w:=by
 have HS:=bd0 h hi;clear h;unfold MaG.rv at HS
 cases hr:(ms i).r with
 |none=>
  rw [hr] at HS;replace HS:Calls prog 13 #[.pointer (some ⟨N,0,none⟩),.int .i64 i] w fun e w'=>e= .returned (.pointer none)/\w'=w:=HS
  go_enter Tryz.func36,Tryz.ntmps36;go_wp2_with fail;refine HS.mono ?_;rintro e w2 ⟨rfl,rfl⟩;go_wp2_with fail;go_ret;exact ⟨rfl,rfl⟩
 |some x=>
  rw [hr] at HS;replace HS:Calls prog 13 #[.pointer (some ⟨N,0,none⟩),.int .i64 i] w fun e w'=>e= .returned (.pointer (some ⟨x.R,0,none⟩))/\w'=w:=HS
  go_enter Tryz.func36,Tryz.ntmps36;go_wp2_with fail;refine HS.mono ?_;rintro e w2 ⟨rfl,rfl⟩;go_wp2_with fail;go_ret;exact ⟨rfl,rfl⟩
theorem aw3 (h:NtG w N MB n ms v) {z:Int} (hz:¬ (0<=z/\z<(n:Int))):Calls prog 36 #[.pointer (some ⟨N,0,none⟩),.int .i64 z] w fun e w'=>e= .returned (.bool false)/\w'=w:=by
 have HS:=bl8 h hz;clear h;go_enter Tryz.func36,Tryz.ntmps36;go_wp2_with fail;refine HS.mono ?_;rintro e w2 ⟨rfl,rfl⟩;go_wp2_with fail;go_ret;exact ⟨rfl,rfl⟩
end
def MaG.run (m:MaG) (x:RnG) (F:List Nat):MaG:=⟨m.d,some x,F,m.c,m.z⟩
theorem MaG.run_cells {m:MaG} {x x':RnG} {F F':List Nat} (hR:x.R=x'.R):(m.run x F).cells=(m.run x' F').cells:=by
 unfold MaG.cells MaG.rv MaG.run;simp only [Option.map_some,hR]
theorem NtG.goes {w w':World} {N MB n:Nat} {ms:Nat->MaG} {v:Value} (h:NtG w N MB n ms v) {i:Nat} (hi:i<n) {m:MaG} {x:RnG} {F:List Nat} (hm:ms i=m.run x F) {J:Jm} {sp:Nat} {M:Mr} (hg:Goeg F w x.R J sp M w') (hMd:M.d=x.M.d:=by rfl):∃ F',NtG w' N MB n (putg ms i (m.run ⟨x.R,J,sp,M⟩ F')) v/\Turn F w w'/\∀ y,y∈F'->y∈F\/w.heap.size<=y:=by
 obtain ⟨F',hz,t,hn⟩:=hg;have hF:(ms i).F=F:=by rw [hm]; rfl
 refine ⟨F',h.one hi (m:=m.run ⟨x.R,J,sp,M⟩ F') (by rw [hF]; exact t) (.of_some rfl hz (hMd.trans (by have:=(h.mas.ok i hi).disk (x:=x) (by rw [hm]; rfl); rw [this,hm]; rfl))) (by rw [hF]; exact hn) (by rw [hm]; exact MaG.run_cells rfl),t,hn⟩
def Bootg (w:World) (N MB n:Nat) (ms:Nat->MaG) (v:Value) (i d:Nat) (L:List Nat) (c:Nat->Int) (z:Dm) (R:Nat) (J:Jm) (sp:Nat) (M:Mr) (k:Nat) (wr:World):Prop:=
 ∃ F,NtG wr N MB n (putg ms i ⟨d,some ⟨R,J,sp,lks c k M⟩,F,c,z⟩) v/\Turn (MB::L) w wr/\∀ y,y∈F->y∈L\/w.heap.size<=y
section
variable {w wr:World} {N MB n i d:Nat} {ms:Nat->MaG} {v:Value} {L:List Nat} {c:Nat->Int} {z:Dm} {R sp k:Nat} {J:Jm} {M:Mr}
theorem dh3 (hi:i<n) (h:Bootg w N MB n ms v i d L c z R J sp M k wr):wr.cell? ⟨MB,i*10,none⟩=some (.pointer (some ⟨R,0,none⟩)):=by
 obtain ⟨F,h1,h2⟩:=h;exact h1.cell hi (j:=0) (by rw [ag0]; rfl)
theorem dh2 (hi:i<n) (hc:∀ k,0<=c k/\c k<=1000) (hk:k<8) (h:Bootg w N MB n ms v i d L c z R J sp M k wr):
  Calls prog 49 #[.pointer (some ⟨R,0,none⟩),.int .i64 k,.int .i64 (c k)] wr fun e w'=>e= .returned (.int .i64 0)/\Bootg w N MB n ms v i d L c z R J sp M (k+1) w':=by
 obtain ⟨F,h1,h2,h3⟩:=h;have hz:=(h1.mas.ok i hi);rw [ag0] at hz;refine (du3 (hz.some rfl) hk (hc k).1 (hc k).2).mono ?_;rintro e w' ⟨rfl,hg⟩;obtain ⟨F',g1,g2,g3⟩:=h1.goes hi (m:=⟨d,none,[],c,z⟩) (x:=⟨R,J,sp,lks c k M⟩) (F:=F) (by rw [ag0]; rfl) hg (Mr.link_kin _ _ _).2;rw [bs8] at g1;refine ⟨rfl,F',g1,?_,fun y hy=>?_⟩
 ·exact h2.beyond g2 fun y hy=>(h3 y hy).imp (List.mem_cons_of_mem _) id
 ·rcases g3 y hy with e|e
  ·exact h3 y e
  ·exact .inr (Nat.le_trans h2.size e)
end
section
variable {w:World} {N MB n:Nat} {ms:Nat->MaG} {v:Value}
theorem dw7 (h:NtG w N MB n ms v) {i:Nat} (hi:i<n) {d S Mp id:Nat} {sm:Sm} {J:Jm} {D E:Dm} {ec:Int} {c:Nat->Int} (hm:ms i=⟨d,none,[d,S,Mp],c,D⟩) (hX:D.opened id=(ec,E,some (J,sm))) (hlow:∀ k,0<=c k/\c k<=1000) (h0:0<id) (h1:id<4294967296):
  Calls prog 37 #[.pointer (some ⟨MB,i*10,none⟩),.int .u32 id] w fun e w'=>∃ R F,e= .returned (.int .i64 0)/\NtG w' N MB n (putg ms i ⟨d,some ⟨R,J,100000000,lks c 8 (mr1 id d sm)⟩,F,c,D⟩) v/\Turn (MB::[d,S,Mp]) w w'/\(∀ y,y∈F->y∈[d,S,Mp]\/w.heap.size<=y):=by
 have hk0:=h.mas.ok i hi;rw [hm] at hk0;obtain ⟨S',Mp',e1,hLi0⟩:=hk0.none rfl;simp only [List.cons.injEq,and_true,true_and] at e1;obtain ⟨rfl,rfl⟩:=e1;have hLi:Dq w d S Mp D:=hLi0;have HR:=(gz_new hLi h0 h1 hX).mono (R':=fun e w'=>∃ R o fl,e= .returned (.tuple #[.pointer (some ⟨R,0,none⟩),.int .i64 0])/\Gz ([d,S,Mp]++rp R o fl none) w' R J 100000000 (mr1 id d sm)/\(∀ y,y∈rp R o fl none->w.heap.size<=y)/\Turn [d,S,Mp] w w') (fun e w' h=>h.2);clear hX hLi0;have c1:w.cell? ⟨MB,i*10+1,none⟩=some (.pointer (some ⟨d,0,none⟩)):=h.cell hi (j:=1) (by rw [hm]; rfl);have H:=H3 h hm hlow;clear h hm hlow hLi hk0;go_enter Tryz.func37,Tryz.ntmps37;go_wp2_with fail;refine HR.mono ?_;rintro e w1 ⟨R,o,fl,rfl,hz,hR,ht⟩;have hMlt:=H.out.1.mas.lt;have hlt:w.heap.size<=w1.heap.size:=ht.size;have hF0:(ms i).F=[d,S,Mp]:=by rw [H.out.2.1]
 have hnew:∀ y,y∈[d,S,Mp]++rp R o fl none->y∈[d,S,Mp]\/w.heap.size<=y:=fun y hy=>(List.mem_append.1 hy).imp (fun e=>e) (hR y)
 have hS:=H.out.1.stored hi (w':=w1) (m:=⟨d,some ⟨R,J,100000000,mr1 id d sm⟩,[d,S,Mp]++rp R o fl none,c,D⟩) (by rw [hF0]; exact ht) (.of_some rfl hz rfl) (fun y hy=>by
  rw [hF0];exact hnew y hy) (j:=0) (by omega) (u:= .pointer (some ⟨R,0,none⟩)) (by rw [H.out.2.1]; rfl)
 have hb1:w1.cell? ⟨MB,i*10,none⟩=some (.pointer none):=by
  have:=ht.cell (H.out.1.cell hi (j:=0) (u:= .pointer none) (by rw [H.out.2.1]; rfl)) (by simp only; rw [<- hF0]; exact H.out.1.mas.mb i hi);exact this
 have fr1:w1.frozen? ⟨MB,i*10,none⟩=false:=by
  obtain ⟨C,hC,_⟩:=H.out.1.mas.rows;exact (hC.turn ht (by rw [<- hF0]; exact H.out.1.mas.mb i hi)).free _
 rw [Nat.add_zero] at hS;have hT:Turn (MB::[d,S,Mp]) w (w1.setCell ⟨MB,i*10,none⟩ (.pointer (some ⟨R,0,none⟩))):=(ht.mono fun x hx=>List.mem_cons_of_mem _ hx).trans (Turn.setCell w1 (by simp) _);have hcs:∀ (k:Nat) (u:Value),(ms i).cells[2+k]?=some u->w1.cell? ⟨MB,i*10+2+k,none⟩=some u:=fun k u hu=>by
  have:=ht.cell (H.out.1.cell hi (j:=2+k) hu) (by simp only; rw [<- hF0]; exact H.out.1.mas.mb i hi);rw [<- Nat.add_assoc] at this;exact this
 rw [H.out.2.1] at hcs;have k0:w1.cell? ⟨MB,i*10+2,none⟩=some (.int .i64 (c 0)):=hcs 0 _ rfl;have k1:w1.cell? ⟨MB,i*10+2+1,none⟩=some (.int .i64 (c 1)):=hcs 1 _ rfl;have k2:w1.cell? ⟨MB,i*10+2+2,none⟩=some (.int .i64 (c 2)):=hcs 2 _ rfl;have k3:w1.cell? ⟨MB,i*10+2+3,none⟩=some (.int .i64 (c 3)):=hcs 3 _ rfl;have k4:w1.cell? ⟨MB,i*10+2+4,none⟩=some (.int .i64 (c 4)):=hcs 4 _ rfl;have k5:w1.cell? ⟨MB,i*10+2+5,none⟩=some (.int .i64 (c 5)):=hcs 5 _ rfl;have k6:w1.cell? ⟨MB,i*10+2+6,none⟩=some (.int .i64 (c 6)):=hcs 6 _ rfl;have k7:w1.cell? ⟨MB,i*10+2+7,none⟩=some (.int .i64 (c 7)):=hcs 7 _ rfl;clear hcs;clear hz HR c1;have X:=H5 hS hT hnew ht hR;clear hS hT hnew ht hR;go_wp2_with fail;clear hb1 fr1 k0 k1 k2 k3 k4 k5 k6 k7;go_loopw [29] (fun ix wr=>∃ k:Nat,ix= .int .i64 k/\k<=8/\Hid (Bootg w N MB n ms v i d [d,S,Mp] c D R J 100000000 (mr1 id d sm) k wr)) (fun ix _=>8 - (intOf ix).toNat)
 case atStart=>exact ⟨0,rfl,by omega,Lib.hid ⟨_,X.out.1,X.out.2.1,X.out.2.2.1⟩⟩
 case round=>
  obtain ⟨k,rfl,hk,hB⟩:=hrel;by_cases hk8:k<8
  ·have hlink:=dh2 hi H.out.2.2 hk8 hB.out
   have c0:=dh3 hi hB.out;clear hB X;have hix:=ax9 c hk8 wr;have hlt8:(k:Int)<8:=by omega
   go_wp2_with fail;refine hlink.mono ?_;rintro e w2 ⟨rfl,hB2⟩;have B2:=Lib.hid hB2;clear hB2 hlink c0 hix;go_wp2_with fail;go_roundw
   case rel=>exact ⟨k+1,by go_num,by omega,B2⟩
   case measure=>simp [intOf]; omega
  ·obtain rfl:k=8:=by omega
   obtain ⟨F,hB⟩:=hB.out;have B:=Lib.hid hB;clear hB;go_wp2_with fail;go_ret;exact ⟨R,F,rfl,B.out.1,B.out.2.1,B.out.2.2⟩
theorem ch9 (h:NtG w N MB n ms v) {i:Nat} (hi:i<n) {d S Mp id:Nat} {D E:Dm} {ec:Int} {c:Nat->Int} (hm:ms i=⟨d,none,[d,S,Mp],c,D⟩) (hX:D.opened id=(ec,E,none)) (h0:0<id) (h1:id<4294967296):
  Calls prog 37 #[.pointer (some ⟨MB,i*10,none⟩),.int .u32 id] w fun e w'=>e= .returned (.int .i64 ec)/\NtG w' N MB n (putg ms i ⟨d,none,[d,S,Mp],c,E⟩) v/\Turn (MB::[d,S,Mp]) w w':=by
 have hk0:=h.mas.ok i hi;rw [hm] at hk0;obtain ⟨S',Mp',e1,hLi0⟩:=hk0.none rfl;simp only [List.cons.injEq,and_true,true_and] at e1;obtain ⟨rfl,rfl⟩:=e1;have hLi:Dq w d S Mp D:=hLi0;have HR:=bv2 hLi h0 h1 hX;have c1:w.cell? ⟨MB,i*10+1,none⟩=some (.pointer (some ⟨d,0,none⟩)):=h.cell hi (j:=1) (by rw [hm]; rfl);have H:=H2 h hm;clear h hm hLi hk0 hX hLi0;go_enter Tryz.func37,Tryz.ntmps37;go_wp2_with fail;refine HR.mono ?_;rintro e w1 ⟨rfl,hc,hD,ht⟩;have hc0:(ec==0)=false:=beq_eq_false_iff_ne.2 hc;have hF0:(ms i).F=[d,S,Mp]:=by rw [H.out.2]
 have X:=H3 hD ht hF0;clear hD ht hF0 HR hc;go_wp2_with fail;go_ret;refine ⟨rfl,H.out.1.one hi (by rw [X.out.2.2]; exact X.out.2.1) (.of_none rfl rfl X.out.1) (fun y hy=> .inl (by rw [X.out.2.2]; exact hy)) (by rw [H.out.2]; rfl),X.out.2.1.mono fun x hx=>List.mem_cons_of_mem _ hx⟩
end
def MaG.linked (m:MaG) (k:Nat) (cost:Int) (F:List Nat):MaG:=⟨m.d,m.r.map fun x=>⟨x.R,x.J,x.sp,x.M.link k cost⟩,F,fun q=>if q=k then cost else m.c q,m.z⟩
theorem MaG.cost_cells (m:MaG) {k:Nat} (hk:k<8) (cost:Int):(⟨m.d,m.r,m.F,fun q=>if q=k then cost else m.c q,m.z⟩:MaG).cells=m.cells.set (2+k) (.int .i64 cost):=by
 have:k=0\/k=1\/k=2\/k=3\/k=4\/k=5\/k=6\/k=7:=by omega
 rcases this with rfl|rfl|rfl|rfl|rfl|rfl|rfl|rfl<;>rfl
theorem MaG.cost_at (m:MaG) {k:Nat} (hk:k<8):m.cells[2+k]?=some (.int .i64 (m.c k)):=by
 have:k=0\/k=1\/k=2\/k=3\/k=4\/k=5\/k=6\/k=7:=by omega
 rcases this with rfl|rfl|rfl|rfl|rfl|rfl|rfl|rfl<;>rfl
theorem MaG.ok.costs {w:World} {m:MaG} (h:m.ok w) (c:Nat->Int):(⟨m.d,m.r,m.F,c,m.z⟩:MaG).ok w:=by
 obtain ⟨d,r,F,c0,z⟩:=m;exact h
section
variable {w:World} {N MB n:Nat} {ms:Nat->MaG} {v:Value}
theorem ct9 (h:NtG w N MB n ms v) {i:Nat} (hi:i<n) {k:Nat} (hk:k<8) {cost:Int} (h0:0<=cost) (h1:cost<=1000):
  Calls prog 40 #[.pointer (some ⟨MB,i*10,none⟩),.int .i64 k,.int .i64 cost] w fun e w'=>∃ F,e= .returned (.tuple #[])/\NtG w' N MB n (putg ms i ((ms i).linked k cost F)) v/\Turn (MB::(ms i).F) w w'/\(∀ y,y∈F->y∈(ms i).F\/w.heap.size<=y):=by
 have hS:=h.stored hi (w':=w) (m:=⟨(ms i).d,(ms i).r,(ms i).F,fun q=>if q=k then cost else (ms i).c q,(ms i).z⟩) (.refl _ _) ((h.mas.ok i hi).costs _) (fun y hy=> .inl hy) (j:=2+k) (by omega) (u:= .int .i64 cost) (MaG.cost_cells _ hk cost);have c0:w.cell? ⟨MB,i*10+2+k,none⟩=some (.int .i64 ((ms i).c k)):=by
  have:=h.cell hi (j:=2+k) (MaG.cost_at _ hk);rw [<- Nat.add_assoc] at this;exact this
 have f0:w.frozen? ⟨MB,i*10+2+k,none⟩=false:=by
  obtain ⟨C,hC,_⟩:=h.mas.rows;exact hC.free _
 have c1:w.cell? ⟨MB,i*10,none⟩=some (ms i).rv:=h.cell hi (j:=0) rfl;rw [<- Nat.add_assoc] at hS;have hT:Turn (MB::(ms i).F) w (w.setCell ⟨MB,i*10+2+k,none⟩ (.int .i64 cost)):=Turn.setCell w (by simp) _;have hk8:(k:Int)<8:=by omega
 unfold MaG.rv at c1
 cases hr:(ms i).r with
 |none=>
  rw [hr] at c1;replace c1:w.cell? ⟨MB,i*10,none⟩=some (.pointer none):=c1;have X:=H3 hS hT hr;clear hS hT h hr;go_enter Tryz.func40,Tryz.ntmps40;go_wp2_with fail;go_end0;refine ⟨(ms i).F,rfl,?_,X.out.2.1,fun y hy=> .inl hy⟩;have:=X.out.1;unfold MaG.linked;rw [X.out.2.2] at this ⊢;exact this
 |some x=>
  rw [hr] at c1;replace c1:w.cell? ⟨MB,i*10,none⟩=some (.pointer (some ⟨x.R,0,none⟩)):=c1;have hz:=hS.mas.ok i hi;rw [ag0] at hz;have HL:=du3 (hz.some hr) hk h0 h1;have X:=H3 hS hT hr;clear hS hT h hr hz;go_enter Tryz.func40,Tryz.ntmps40;go_wp2_with fail;refine HL.mono ?_;rintro e w2 ⟨rfl,hg⟩;obtain ⟨F',g1,g2,g3⟩:=X.out.1.goes hi (m:=⟨(ms i).d,none,[],fun q=>if q=k then cost else (ms i).c q,(ms i).z⟩) (x:=x) (F:=(ms i).F) (by rw [ag0,X.out.2.2]; rfl) hg (Mr.link_kin _ _ _).2;rw [bs8] at g1;have hsz:w.heap.size<=(w.setCell ⟨MB,i*10+2+k,none⟩ (.int .i64 cost)).heap.size:=X.out.2.1.size;have Y:=Lib.hid (And.intro g1 (And.intro (X.out.2.1.beyond g2 fun y hy=> .inl (List.mem_cons_of_mem _ hy)) (fun y hy=>(g3 y hy).imp id (Nat.le_trans hsz))));have Z:=Lib.hid X.out.2.2;clear g1 g2 g3 hg HL X c0 f0 c1;go_wp2_with fail;go_end0;refine ⟨F',rfl,?_,Y.out.2.1,Y.out.2.2⟩;have:=Y.out.1;unfold MaG.linked;rw [Z.out];exact this
theorem dz3 (h:NtG w N MB n ms v) {i:Nat} (hi:i<n) {d S Mp:Nat} {sm:Sm} {J:Jm} {D E:Dm} {ec:Int} {c:Nat->Int} (hm:ms i=⟨d,none,[d,S,Mp],c,D⟩) (hX:D.opened (i+1)=(ec,E,some (J,sm))) (hlow:∀ k,0<=c k/\c k<=1000):
  Calls prog 19 #[.pointer (some ⟨N,0,none⟩),.int .i64 i] w fun e w'=>∃ R F,e= .returned (.int .i64 0)/\NtG w' N MB n (putg ms i ⟨d,some ⟨R,J,100000000,lks c 8 (mr1 (i+1) d sm)⟩,F,c,D⟩) v/\Turn (MB::[d,S,Mp]) w w'/\(∀ y,y∈F->y∈[d,S,Mp]\/w.heap.size<=y):=by
 have H1:=al0 h hi;have H2:=au6 h hi;have h8:=h.n8;rw [hm] at H2;replace H2:Calls prog 36 #[.pointer (some ⟨N,0,none⟩),.int .i64 i] w fun e w'=>e= .returned (.bool false)/\w'=w:=H2
 have c0:w.cell? ⟨N,0,none⟩=some (.slice (some ⟨MB,0,none⟩) n n):=h.head.at_ 0;have hin:(i:Int)<(n:Int):=by omega
 have e1:IntKind.u32.wrap (i:Int)=(i:Int):=by
  simp only [IntKind.wrap,IntKind.bits,IntKind.signed];simp;omega
 have e2:IntKind.u32.wrap ((i:Int)+1)=((i+1:Nat):Int):=by
  simp only [IntKind.wrap,IntKind.bits,IntKind.signed];simp;omega
 have HB:=dw7 h hi hm hX hlow (by omega) (by omega);have H:=Lib.hid h;clear h hm hlow hX;go_enter Tryz.func19,Tryz.ntmps19;go_wp2_with fail;refine H1.mono ?_;rintro e w2 ⟨rfl,rfl⟩;go_wp2_with fail;refine H2.mono ?_;rintro e w3 ⟨rfl,rfl⟩;go_wp2_with fail;refine HB.mono ?_;rintro e w4 ⟨R,F,rfl,hB⟩;have B:=Lib.hid hB;clear hB HB c0;go_wp2_with fail;go_ret;exact ⟨R,F,rfl,B.out⟩
theorem dd9 (h:NtG w N MB n ms v) {i:Nat} (hi:i<n) {d S Mp:Nat} {D E:Dm} {ec:Int} {c:Nat->Int} (hm:ms i=⟨d,none,[d,S,Mp],c,D⟩) (hX:D.opened (i+1)=(ec,E,none)):
  Calls prog 19 #[.pointer (some ⟨N,0,none⟩),.int .i64 i] w fun e w'=>e= .returned (.int .i64 ec)/\NtG w' N MB n (putg ms i ⟨d,none,[d,S,Mp],c,E⟩) v/\Turn (MB::[d,S,Mp]) w w':=by
 have H1:=al0 h hi;have H2:=au6 h hi;have h8:=h.n8;rw [hm] at H2;replace H2:Calls prog 36 #[.pointer (some ⟨N,0,none⟩),.int .i64 i] w fun e w'=>e= .returned (.bool false)/\w'=w:=H2
 have c0:w.cell? ⟨N,0,none⟩=some (.slice (some ⟨MB,0,none⟩) n n):=h.head.at_ 0;have hin:(i:Int)<(n:Int):=by omega
 have e1:IntKind.u32.wrap (i:Int)=(i:Int):=by
  simp only [IntKind.wrap,IntKind.bits,IntKind.signed];simp;omega
 have e2:IntKind.u32.wrap ((i:Int)+1)=((i+1:Nat):Int):=by
  simp only [IntKind.wrap,IntKind.bits,IntKind.signed];simp;omega
 have HB:=ch9 h hi hm hX (by omega) (by omega);have H:=Lib.hid h;clear h hm hX;go_enter Tryz.func19,Tryz.ntmps19;go_wp2_with fail;refine H1.mono ?_;rintro e w2 ⟨rfl,rfl⟩;go_wp2_with fail;refine H2.mono ?_;rintro e w3 ⟨rfl,rfl⟩;go_wp2_with fail;refine HB.mono ?_;rintro e w4 ⟨rfl,hB⟩;have B:=Lib.hid hB;clear hB HB c0;go_wp2_with fail;go_ret;exact ⟨rfl,B.out⟩
end
structure Freg (w:World) (k i:Nat) (m:MaG):Prop where
 r:m.r=none
 c:m.c=fun _=>0
 z:m.z=⟨k,fun _=>List.replicate 48 0,fun _=>none,-1⟩
 ex:∃ S Mp,m.F=[m.d,S,Mp]/\Dk w m.d S Mp k (fun _=>List.replicate 48 0) (fun _=>none) (-1)
theorem Freg.held {w w':World} {k i:Nat} {m:MaG} (h:Freg w k i m) (hb:Below w.heap.size w w'):Freg w' k i m:=by
 obtain ⟨S,Mp,h1,h2⟩:=h.ex;exact ⟨h.r,h.c,h.z,S,Mp,h1,h2.held hb⟩
theorem Freg.ok {w:World} {k i:Nat} {m:MaG} (h:Freg w k i m):m.ok w:=by
 obtain ⟨S,Mp,h1,h2⟩:=h.ex;refine .of_none h.r h1 ?_;rw [h.z];exact h2
structure Layig (w:World) (MB N n sec k:Nat) (wr:World):Prop where
 head:Blk 56 wr N #[.slice (some ⟨MB,0,none⟩) n n,.slice none 0 0]
 ex:∃ ms:Nat->MaG,(∃ C,Blk 68 wr MB C/\C.size=n*10/\∀ i,i<n->∀ j v,(if i<k then (ms i).cells else zma)[j]?=some v->C[i*10+j]?=some v)/\(∀ i,i<k->Freg wr sec i (ms i))/\
  (∀ i x,i<k->x∈(ms i).F->MB<x/\N<x/\x<wr.heap.size)/\(∀ i j,i<k->j<k->i≠j->∀ x,x∈(ms i).F->x∉(ms j).F)
 below:Below w.heap.size w wr
 lt:MB<wr.heap.size/\N<wr.heap.size
 ne:N≠MB/\w.heap.size<=MB/\w.heap.size<=N
theorem Layig.next {w:World} {MB N n sec k:Nat} {wr w2:World} (h:Layig w MB N n sec k wr) (hk:k<n) {d S Mp:Nat} (hS:S=wr.heap.size) (hM:Mp=wr.heap.size+1) (hd:d=wr.heap.size+2)
  (hD:Dk w2 d S Mp sec (fun _=>List.replicate 48 0) (fun _=>none) (-1)) (hb:Below wr.heap.size wr w2):Layig w MB N n sec (k+1) (w2.setCell ⟨MB,k*10+1,none⟩ (.pointer (some ⟨d,0,none⟩))):=by
 obtain ⟨ms,⟨C,hC,hs,hr⟩,hf,hx,ha⟩:=h.ex;have hlt:=h.lt;have hne:=h.ne;have hMB:Turn [MB] w2 (w2.setCell ⟨MB,k*10+1,none⟩ (.pointer (some ⟨d,0,none⟩))):=Turn.setCell w2 (by simp) _;have hdlt:=hD.head.lt;have hsz:(w2.setCell ⟨MB,k*10+1,none⟩ (.pointer (some ⟨d,0,none⟩))).heap.size=w2.heap.size:=by simp [World.setCell]
 refine ⟨(h.head.held hb).turn hMB (by simp; exact hne.1),⟨putg ms k ⟨d,none,[d,S,Mp],fun _=>0,⟨sec,fun _=>List.replicate 48 0,fun _=>none,-1⟩⟩,⟨_,(hC.held hb).store _ _,by rw [Array.size_setIfInBounds,hs],fun i hi j v hv=>?_⟩,fun i hi=>?_,fun i x hi hxm=>?_,fun i j hi hj hij x hxm=>?_⟩,h.below.trans ((hb.mono h.below.size).trans (hMB.below (by simp; exact hne.2.1) (Nat.le_trans h.below.size hb.size))),?_,hne⟩
 ·have hj:j<10:=by
   split at hv
   ·obtain ⟨h1,_⟩:=List.getElem?_eq_some_iff.1 hv; exact h1
   ·obtain ⟨h1,_⟩:=List.getElem?_eq_some_iff.1 hv; exact h1
  rw [Array.getElem?_setIfInBounds];by_cases e:i=k
  ·subst e
   rw [if_pos (by omega),ag0] at hv;by_cases e2:j=1
   ·subst e2
    rw [if_pos rfl,if_pos (by rw [hs]; omega)];exact hv
   ·rw [if_neg (by omega)]
    refine hr i hi j v ?_;rw [if_neg (by omega)];have:j=0\/j=2\/j=3\/j=4\/j=5\/j=6\/j=7\/j=8\/j=9:=by omega
    rcases this with rfl|rfl|rfl|rfl|rfl|rfl|rfl|rfl|rfl<;>exact hv
  ·rw [if_neg (by omega)]
   refine hr i hi j v ?_;by_cases e2:i<k
   ·rw [if_pos (by omega),ac5 e] at hv
    rw [if_pos e2];exact hv
   ·rw [if_neg (by omega)] at hv
    rw [if_neg e2];exact hv
 ·by_cases e:i=k
  ·subst e
   rw [ag0];exact ⟨rfl,rfl,rfl,S,Mp,rfl,hD.turn hMB (by simp; omega) (by simp; omega) (by simp; omega)⟩
  ·rw [ac5 e]
   obtain ⟨f1,f2,f0,S',M',f3,f4⟩:=hf i (by omega);refine ⟨f1,f2,f0,S',M',f3,(f4.held hb).turn hMB ?_ ?_ ?_⟩
   ·have:=hx i _ (by omega) (by rw [f3]; simp:(ms i).d∈(ms i).F); simp; omega
   ·have:=hx i S' (by omega) (by rw [f3]; simp); simp; omega
   ·have:=hx i M' (by omega) (by rw [f3]; simp); simp; omega
 ·rw [hsz]
  by_cases e:i=k
  ·subst e
   rw [ag0] at hxm;simp only [List.mem_cons,List.not_mem_nil,or_false] at hxm;rcases hxm with rfl|rfl|rfl<;>omega
  ·rw [ac5 e] at hxm
   have:=hx i x (by omega) hxm;have:=hb.size;omega
 ·by_cases e:i=k
  ·subst e
   rw [ag0] at hxm;rw [ac5 (Ne.symm hij)];intro h2;have:=hx j x (by omega) h2;simp only [List.mem_cons,List.not_mem_nil,or_false] at hxm;rcases hxm with rfl|rfl|rfl<;>omega
  ·rw [ac5 e] at hxm
   by_cases e2:j=k
   ·subst e2
    rw [ag0];intro h2;have:=hx i x (by omega) hxm;simp only [List.mem_cons,List.not_mem_nil,or_false] at h2;rcases h2 with rfl|rfl|rfl<;>omega
   ·rw [ac5 e2]
    exact ha i j (by omega) (by omega) hij x hxm
 ·rw [hsz]
  have:=hb.size;omega
theorem Layig.done {w:World} {MB N n sec:Nat} {wr:World} (h:Layig w MB N n sec n wr) (h1:1<=n) (h8:n<=8):∃ ms,NtG wr N MB n ms (.slice none 0 0)/\(∀ i,i<n->Freg wr sec i (ms i))/\(∀ i,i<n->∀ x,x∈(ms i).F->w.heap.size<=x):=by
 obtain ⟨ms,⟨C,hC,hs,hr⟩,hf,hx,ha⟩:=h.ex;have hne:=h.ne;refine ⟨ms,⟨h.head,⟨⟨C,hC,hs,fun i hi j v hv=>hr i hi j v (by rw [if_pos hi]; exact hv)⟩,fun i hi=>(hf i hi).ok,ha,fun i hi hm=>?_⟩,hne.1,fun i hi hm=>?_,h1,h8⟩,hf,fun i hi x hm=>?_⟩
 ·have:=hx i _ hi hm; omega
 ·have:=hx i _ hi hm; omega
 ·have:=hx i _ hi hm; omega
theorem Layig.start {w:World} {n sec:Nat}:Layig w w.heap.size (w.heap.size+1) n sec 0 ((w.alloc (.cells (zms n) 68)).alloc (.cells #[.slice (some ⟨w.heap.size,0,none⟩) n n,.slice none 0 0] 56)):=by
 have hs1:=aa1 w (.cells (zms n) 68);have hX:=Blk.new w 68 (zms n);have hb0:=aa0 w (.cells (zms n) 68);generalize w.alloc _=w1 at*;have hs2:=aa1 w1 (.cells #[.slice (some ⟨w.heap.size,0,none⟩) n n,.slice none 0 0] 56);obtain ⟨hb1,hH⟩:=nw w1 56 #[.slice (some ⟨w.heap.size,0,none⟩) n n,.slice none 0 0];rw [hs1] at hH;refine ⟨hH,⟨fun _=>⟨0,none,[],fun _=>0,⟨0,fun _=>[],fun _=>none,-1⟩⟩,⟨_,hX.held hb1,bp4 n,fun i hi j v hv=>?_⟩,fun i hi=>by omega,fun i x hi=>by omega,fun i j hi=>by omega⟩,hb0.trans (hb1.mono hb0.size),by omega,by omega⟩;rw [if_neg (by omega)] at hv;have hj:j<10:=by obtain ⟨h1,_⟩:=List.getElem?_eq_some_iff.1 hv; exact h1
 rw [cy2 hi hj];exact hv
theorem Layig.cell {w wr:World} {MB N n sec k:Nat} (h:Layig w MB N n sec k wr) (hk:k<n):wr.cell? ⟨MB,k*10+1,none⟩=some (.pointer none):=by
 obtain ⟨ms,⟨C,hC,hs,hr⟩,_⟩:=h.ex;exact (hC.at_ _).trans (hr k hk 1 _ (by rw [if_neg (by omega)]; rfl))
theorem Layig.drew {w wr:World} {MB N n sec k:Nat} (h:Layig w MB N n sec k wr):Layig w MB N n sec k wr.drew:=by
 obtain ⟨ms,⟨C,hC,hs,hr⟩,hf,hx,ha⟩:=h.ex;exact ⟨h.head.drew,⟨ms,⟨C,hC.drew,hs,hr⟩,fun i hi=>(hf i hi).held (Below.refl _ _).drew,hx,ha⟩,h.below.drew,h.lt,h.ne⟩
theorem ng_new (n:Nat) (h1:1<=n) (h8:n<=8) (sec:Nat) (hs1:1<=sec) (hs2:sec<=512) (w:World):Calls prog 17 #[.int .i64 (n:Int),.int .i64 (sec:Int)] w fun e w'=>
  ∃ ms,e= .returned (.pointer (some ⟨w.heap.size+1,0,none⟩))/\NtG w' (w.heap.size+1) w.heap.size n ms (.slice none 0 0)/\(∀ i,i<n->Freg w' sec i (ms i))/\(∀ i,i<n->∀ x,x∈(ms i).F->w.heap.size<=x)/\Below w.heap.size w w':=by
 have hmk:=ap5 n (by omega);have e1:max (n:Int) 1=(n:Int):=by omega
 have e2:min (n:Int) 8=(n:Int):=by omega
 go_enter Tryz.func17,Tryz.ntmps17;go_wp2_with fail;have hL:=Layig.start (w:=w) (n:=n) (sec:=sec);generalize (w.alloc (.cells (zms n) 68)).alloc (.cells #[.slice (some ⟨w.heap.size,0,none⟩) n n,.slice none 0 0] 56)=w1 at*;have L:=Lib.hid hL;clear hL hmk e1 e2;go_loopw [18] (fun ix wr=>∃ k:Nat,ix= .int .i64 k/\k<=n/\Hid (Layig w w.heap.size (w.heap.size+1) n sec k wr)) (fun ix _=>n - (intOf ix).toNat)
 case atStart=>exact ⟨0,rfl,by omega,L⟩
 case round=>
  obtain ⟨k,rfl,hk,hB⟩:=hrel;by_cases hkn:k<n
  ·have hin:(k:Int)<(n:Int):=by omega
   have c0:wr.drew.cell? ⟨w.heap.size+1,0,none⟩=some (.slice (some ⟨w.heap.size,0,none⟩) n n):=hB.out.head.drew.at_ 0;have HD:=new_in sec (by omega) hs2 wr.drew;clear L;go_wp2_with fail;refine wp_region_held_drew (S:=fun u=>u.cell? ⟨w.heap.size+1,0,none⟩=some (.slice (some ⟨w.heap.size,0,none⟩) n n)) (by kernel_rfl) c0 (fun hHeld=>?_);refine tk 0 (.pointer (some ⟨w.heap.size+1,0,none⟩)) rfl hHeld ?_;go_frame;refine tk 1 (.pointer (some ⟨w.heap.size+1,0,none⟩)) rfl hHeld ?_;go_frame;refine tk 2 (.pointer (some ⟨w.heap.size+1,0,none⟩)) rfl hHeld ?_;go_frame;refine tk 3 (.slice (some ⟨w.heap.size,0,none⟩) n n) rfl hHeld ?_;go_frame;refine tk 4 (.int .i64 k) rfl hHeld ?_;go_frame;refine tk 5 (.int .i64 sec) rfl hHeld ?_;go_frame;refine rl 6 rfl fun K hK=>?_
   go_simp;refine HD.mono ?_;rintro e w2 ⟨rfl,hD,hb⟩;have hN:=hB.out.drew.next hkn rfl rfl rfl hD hb;have c1:w2.cell? ⟨w.heap.size,k*10+1,none⟩=some (.pointer none):=held hb (hB.out.drew.cell hkn);have f1:w2.frozen? ⟨w.heap.size,k*10+1,none⟩=false:=by
    obtain ⟨ms,⟨C,hC,_⟩,_⟩:=hB.out.drew.ex;exact (hC.held hb).free _
   have hH2:=held hb c0;have M:=Lib.hid hN;clear hN hD;refine hK.out _ _ hH2 (fun hHeld=>?_);clear hK K HD c0 hb;try go_frame
   refine tk 7 (.pointer (some ⟨w.heap.size,k*10,none⟩)) rfl hHeld ?_;go_frame;refine tk 8 (.pointer (some ⟨w.heap.size,k*10+1,none⟩)) rfl hHeld ?_;go_frame;refine rl 9 rfl fun K hK=>?_
   go_simp;refine hK.out _ _ (M.out.head.at_ 0) (fun hHeld=>?_);clear hK K c1 f1 hH2;refine wpAnyH_done (by kernel_rfl) ?_ _;try go_frame
   clear hHeld;go_wp2_with fail;go_roundw
   case rel=>exact ⟨k+1,by go_num,by omega,M⟩
   case measure=>simp [intOf]; omega
  ·obtain rfl:k=n:=by omega
   have hB2:=hB.out.done h1 h8;have hbl:=hB.out.below;have X:=H2 hB2 hbl;clear L hB hB2 hbl;go_wp2_with fail;go_ret;obtain ⟨⟨ms,a1,a2,a3⟩,a4⟩:=X.out;exact ⟨ms,rfl,a1,a2,a3,a4⟩
theorem dx5 {w:World} {d S M:Nat} {D:Dm} (h:Dq w d S M D) {a:Int}:Calls prog 39 #[.pointer (some ⟨d,0,none⟩),.int .i64 a] w fun e w'=>e= .returned (.tuple #[])/\w'=w.setCell ⟨d,2,none⟩ (.int .i64 (failAt a)):=by
 have c2:=(Dk.head h).at_ 2;have f2:=(Dk.head h).free 2;simp at c2;clear h;by_cases hn:-1<=a
 ·have E:Hid (failAt a=a):=Lib.hid (by unfold failAt; split<;>omega)
  go_enter Tryz.func39,Tryz.ntmps39;go_wp2;go_end0;exact ⟨rfl,by rw [E.out,show max a (-1)=a by omega]⟩
 ·have E:Hid (failAt a=-1):=Lib.hid (by unfold failAt; split<;>omega)
  go_enter Tryz.func39,Tryz.ntmps39;go_wp2;go_end0;exact ⟨rfl,by rw [E.out,show max a (-1)=-1 by omega]⟩
def Dm.crash (D:Dm) (ps:List Cr.Pk):Dm:=⟨D.n,Cr.crashed D.safe D.wn ps,fun _=>none,-1⟩
def Dm.fail (D:Dm) (a:Int):Dm:={ D with well:=failAt a }
def Jm.fail (J:Jm) (a:Int):Jm:={ J with D:=J.D.fail a }
def MaG.disk (m:MaG):Dm:=match m.r with
 |none=>m.z
 |some x=>x.J.D
theorem MaG.ok.lies {w:World} {m:MaG} (h:m.ok w):∃ S Mp rest,m.F=[m.d,S,Mp]++rest/\Dq w m.d S Mp m.disk:=by
 unfold MaG.disk
 cases hr:m.r with
 |none=>
  obtain ⟨S,Mp,e,hl⟩:=h.none hr;exact ⟨S,Mp,[],by simpa using e,hl⟩
 |some x=>
  obtain ⟨o,fl,tb,N,n,S,Mp,hF,hR,hD,hd,hJ,hN,hg,h5⟩:=(h.some hr).ex;rw [h.disk hr] at hF hD;exact ⟨S,Mp,_,hF,hD⟩
def MaG.failed (m:MaG) (a:Int):MaG:=match m.r with
 |none=>⟨m.d,none,m.F,m.c,m.z.fail a⟩
 |some x=>⟨m.d,some ⟨x.R,x.J.fail a,x.sp,x.M⟩,m.F,m.c,m.z⟩
theorem MaG.failed_F (m:MaG) (a:Int):(m.failed a).F=m.F:=by unfold MaG.failed; cases m.r<;>rfl
theorem MaG.failed_cells (m:MaG) (a:Int):(m.failed a).cells=m.cells:=by
 obtain ⟨d,r,F,c,z⟩:=m
 cases r<;>rfl
theorem Gz.fail {F:List Nat} {w w':World} {R sp:Nat} {J:Jm} {M:Mr} {a:Int} (h:Gz F w R J sp M) (t:Turn [M.d] w w') (hD:∀ S Mp D,Dq w M.d S Mp D->Dq w' M.d S Mp (D.fail a)):Gz F w' R (J.fail a) sp M:=by
 obtain ⟨o,fl,tb,N,n,S,Mp,hF,hR,hD0,hd,hJ,hN,hg,h5⟩:=h.ex;exact ⟨o,fl,tb,N,n,S,Mp,hF,hR.turn t (fun x hx=>by simp; exact fun e=>hd x hx (by simp [e])),hD S Mp _ hD0,hd,⟨hJ.fit,hJ.fit2,hJ.le,hJ.len,hJ.big,hJ.gen,hJ.n⟩,hN,hg,h5⟩
section
variable {w:World} {N MB n:Nat} {ms:Nat->MaG} {v:Value}
theorem dw8 (h:NtG w N MB n ms v) {i:Nat} (hi:i<n) {A:Option Addr} {ps:List Cr.Pk} {cap:Nat} (hps:Cr.PicksAt w A ps) (hA:∀ ad,A=some ad->ad.block≠MB/\ad.block∉(ms i).F) (hl:ps.length<=cap) (hc:cap<=9223372036854775807):
  Calls prog 20 #[.pointer (some ⟨N,0,none⟩),.int .i64 i,.slice A ps.length cap] w fun e w'=>e= .returned (.int .i64 0)/\∃ S Mp rest,(ms i).F=[(ms i).d,S,Mp]++rest/\NtG w' N MB n (putg ms i ⟨(ms i).d,none,[(ms i).d,S,Mp],(ms i).c,(ms i).disk.crash ps⟩) v/\Turn (MB::(ms i).F) w w':=by
 have H1:=al0 h hi;have c0:w.cell? ⟨N,0,none⟩=some (.slice (some ⟨MB,0,none⟩) n n):=h.head.at_ 0;have hin:(i:Int)<(n:Int):=by omega
 have hk:=h.mas.ok i hi;obtain ⟨S,Mp,rest,hF,hLi⟩:=hk.lies;have c1:w.cell? ⟨MB,i*10,none⟩=some (ms i).rv:=h.cell hi (j:=0) rfl;have c2:w.cell? ⟨MB,i*10+1,none⟩=some (.pointer (some ⟨(ms i).d,0,none⟩)):=h.cell hi (j:=1) rfl;have f1:w.frozen? ⟨MB,i*10,none⟩=false:=by
  obtain ⟨C,hC,_⟩:=h.mas.rows;exact hC.free _
 have t1:Turn [MB] w (w.setCell ⟨MB,i*10,none⟩ (.pointer none)):=Turn.setCell w (by simp) _;have hMF:=h.mas.mb i hi;have hD:=hLi.turnL t1 (fun x hx=>by
  have:x∈(ms i).F:=by rw [hF]; exact List.mem_append_left _ hx
  simp;exact fun e=>hMF (e ▸ this))
 have hps1:=hps.turn t1 (fun ad e=>by simp; exact (hA ad e).1);have HC:=Cr.crash_any hD A ps cap hps1 (.inr fun ad e hm=>(hA ad e).2 (by rw [hF]; exact List.mem_append_left _ hm)) hl hc;obtain ⟨C,hC,hs,hr⟩:=h.mas.rows;have hX:=And.intro (hC.store (i*10) (.pointer none)) (And.intro hs hr);have c2':(w.setCell ⟨MB,i*10,none⟩ (.pointer none)).cell? ⟨MB,i*10+1,none⟩=some (.pointer (some ⟨(ms i).d,0,none⟩)):=by
  rw [hX.1.at_,Array.getElem?_setIfInBounds,if_neg (by omega),<- hC.at_];exact c2
 obtain ⟨dd,hdd⟩:∃ dd,(ms i).d=dd:=⟨_,rfl⟩;rw [hdd] at HC c2 c2';obtain ⟨rv,hrv⟩:∃ rv,(ms i).r.map (fun x=>(⟨x.R,0,none⟩:Addr))=rv:=⟨_,rfl⟩;have c1':w.cell? ⟨MB,i*10,none⟩=some (.pointer rv):=by rw [<- hrv]; exact c1
 have X:=H6 h hF hX t1 hdd hMF;clear h hF hX t1 hdd hMF hD hLi hk hps hps1 hA hl hc hC hs hr c1 hrv c2;go_enter Tryz.func20,Tryz.ntmps20;go_wp2_with fail;refine H1.mono ?_;rintro e w2 ⟨rfl,rfl⟩;clear H1;go_wp2_with fail;refine HC.mono ?_;rintro e w3 ⟨rfl,hD3,t3⟩;have R:=H2 hD3 t3;clear HC hD3 t3 c0 c1' c2' f1;go_wp2_with fail;go_ret;obtain ⟨h,hF,⟨hC,hs,hr⟩,t1,hdd,hMF⟩:=X.out;obtain ⟨hD3,t3⟩:=R.out;have hM3:MB∉[dd,S,Mp]:=fun hm=>hMF (by rw [hF,hdd]; exact List.mem_append_left _ hm)
 have tt:Turn (MB::(ms i).F) w2 w3:=(t1.mono fun x hx=>by simp at hx; simp [hx]).trans (t3.mono fun x hx=>List.mem_cons_of_mem _ (by rw [hF,hdd]; exact List.mem_append_left _ hx));refine ⟨rfl,S,Mp,rest,hF,h.by_one hi ⟨_,hC.turn t3 hM3,by rw [Array.size_setIfInBounds,hs],fun k hk2 q x hx=>?_⟩ tt (.of_none rfl (by rw [hdd]) (by rw [hdd]; exact hD3)) (fun y hy=> .inl (by rw [hF]; exact List.mem_append_left _ hy)),tt⟩;have hq:q<10:=by
  obtain ⟨h1,_⟩:=List.getElem?_eq_some_iff.1 hx;exact h1
 rw [Array.getElem?_setIfInBounds];by_cases e:k=i
 ·rw [e,ag0] at hx
  by_cases e2:q=0
  ·subst e2
   rw [e,if_pos (by omega),if_pos (by rw [hs]; omega)];exact hx
  ·rw [if_neg (by omega),e]
   refine hr i hi q x ?_;have:q=1\/q=2\/q=3\/q=4\/q=5\/q=6\/q=7\/q=8\/q=9:=by omega
   rcases this with rfl|rfl|rfl|rfl|rfl|rfl|rfl|rfl|rfl<;>exact hx
 ·rw [ac5 e] at hx
  rw [if_neg (by omega)];exact hr k hk2 q x hx
theorem dz2 (h:NtG w N MB n ms v) {i:Nat} (hi:i<n) {a:Int} (ha:a<=9223372036854775807):
  Calls prog 22 #[.pointer (some ⟨N,0,none⟩),.int .i64 i,.int .i64 a] w fun e w'=>e= .returned (.int .i64 0)/\NtG w' N MB n (putg ms i ((ms i).failed a)) v/\Turn (ms i).F w w':=by
 have H1:=al0 h hi;have c0:w.cell? ⟨N,0,none⟩=some (.slice (some ⟨MB,0,none⟩) n n):=h.head.at_ 0;have hin:(i:Int)<(n:Int):=by omega
 have hk:=h.mas.ok i hi;obtain ⟨S,Mp,rest,hF,hLi⟩:=hk.lies;have c2:w.cell? ⟨MB,i*10+1,none⟩=some (.pointer (some ⟨(ms i).d,0,none⟩)):=h.cell hi (j:=1) rfl;have HC:Calls prog 39 #[.pointer (some ⟨(ms i).d,0,none⟩),.int .i64 a] w fun e w'=>e= .returned (.tuple #[])/\(∀ S Mp D,Dq w (ms i).d S Mp D->Dq w' (ms i).d S Mp (D.fail a))/\Turn [(ms i).d] w w':=by
  refine (dx5 hLi (a:=a)).mono ?_;rintro e w' ⟨rfl,rfl⟩;refine ⟨rfl,fun S2 Mp2 D2 h2=>?_,Turn.setCell _ (by simp) _⟩;exact Dk.setWell h2 (by unfold failAt; split<;>omega) (by unfold failAt; split<;>omega)
 obtain ⟨dd,hdd⟩:∃ dd,(ms i).d=dd:=⟨_,rfl⟩;rw [hdd] at c2;have X:=H4 h hk hF hdd;rw [hdd] at HC;clear h hk hF hdd hLi ha;go_enter Tryz.func22,Tryz.ntmps22;go_wp2_with fail;refine H1.mono ?_;rintro e w2 ⟨rfl,rfl⟩;clear H1;go_wp2_with fail;refine HC.mono ?_;rintro e w3 ⟨rfl,hD3,t3⟩;have R:=H2 hD3 t3;clear HC hD3 t3 c0 c2;go_wp2_with fail;go_ret;obtain ⟨h,hk,hF,rfl⟩:=X.out;obtain ⟨hD3,t3⟩:=R.out;have tt:Turn (ms i).F w2 w3:=t3.mono fun x hx=>by simp at hx; rw [hF,hx]; simp
 refine ⟨rfl,h.one hi tt ?_ (fun y hy=> .inl (by rw [MaG.failed_F] at hy; exact hy)) (MaG.failed_cells _ _),tt⟩;unfold MaG.failed
 cases hr:(ms i).r with
 |none=>
  obtain ⟨S,Mp,e,hl⟩:=hk.none hr;exact .of_none rfl e (hD3 _ _ _ hl)
 |some x=>
  have hz:=hk.some hr;have hd:=hk.disk hr;refine .of_some rfl (Gz.fail hz (by rw [hd]; exact t3) (fun S Mp D h=>?_)) hd;rw [hd] at h ⊢;exact hD3 _ _ _ h
end
section
variable {w:World} {N MB n:Nat} {ms:Nat->MaG} {v:Value}
theorem dz1 (h:NtG w N MB n ms v) {a b:Nat} (ha:a<n) (hb:b<n) (hab:a≠b) {cost:Int} (h0:0<=cost) (h1:cost<=1000):
  Calls prog 23 #[.pointer (some ⟨N,0,none⟩),.int .i64 a,.int .i64 b,.int .i64 cost] w fun e w'=>∃ F G,e= .returned (.int .i64 0)/\NtG w' N MB n (putg (putg ms a ((ms a).linked b cost F)) b ((ms b).linked a cost G)) v/\Turn (MB::((ms a).F++(ms b).F)) w w'/\(∀ y,y∈F->y∈(ms a).F\/w.heap.size<=y)/\(∀ y,y∈G->y∈(ms b).F\/w.heap.size<=y):=by
 have H1:=al0 h ha;have H2:=al0 h hb;have h8:=h.n8;have c0:w.cell? ⟨N,0,none⟩=some (.slice (some ⟨MB,0,none⟩) n n):=h.head.at_ 0;have hin:(a:Int)<(n:Int):=by omega
 have hin2:(b:Int)<(n:Int):=by omega
 have d1:decide (cost<0)=false:=decide_eq_false (by omega);have d2:decide ((1000:Int)<cost)=false:=decide_eq_false (by omega);have d3:((a:Int)==(b:Int))=false:=beq_eq_false_iff_ne.2 (by omega);have HA:=ct9 h ha (k:=b) (by omega) h0 h1;have H:=H4 h hab h0 h1;clear h hab h0 h1;go_enter Tryz.func23,Tryz.ntmps23;go_wp2_with fail;refine H1.mono ?_;rintro e w2 ⟨rfl,rfl⟩;go_wp2_with fail;refine H2.mono ?_;rintro e w2 ⟨rfl,rfl⟩;go_wp2_with fail;refine HA.mono ?_;rintro e w1 ⟨F,rfl,hN,ht,hF⟩;have c1:w1.cell? ⟨N,0,none⟩=some (.slice (some ⟨MB,0,none⟩) n n):=hN.head.at_ 0;have HB:=ct9 hN hb (k:=a) (by omega) H.out.2.2.1 H.out.2.2.2;rw [ac5 (Ne.symm H.out.2.1)] at HB;have X:=Lib.hid (And.intro ht hF);clear H1 H2 HA hN ht hF c0;go_wp2_with fail;refine HB.mono ?_;rintro e w2 ⟨G,rfl,hN,ht,hG⟩;have Y:=H3 hN ht hG;clear HB hN ht hG c1;go_wp2_with fail;go_ret;have hsz:=X.out.1.size;refine ⟨F,G,rfl,Y.out.1,(X.out.1.mono fun x hx=>?_).trans (Y.out.2.1.mono fun x hx=>?_),X.out.2,fun y hy=>(Y.out.2.2 y hy).imp id (Nat.le_trans hsz)⟩
 ·rcases List.mem_cons.1 hx with e|e
  ·exact List.mem_cons.2 (.inl e)
  ·exact List.mem_cons_of_mem _ (List.mem_append_left _ e)
 ·rcases List.mem_cons.1 hx with e|e
  ·exact List.mem_cons.2 (.inl e)
  ·exact List.mem_cons_of_mem _ (List.mem_append_right _ e)
end
section
variable {w:World} {N MB n:Nat} {ms:Nat->MaG} {v:Value}
theorem dl9 (h:NtG w N MB n ms v) {i:Nat} (hi:i<n) {d R sp:Nat} {J J2:Jm} {M:Mr} {F:List Nat} {c:Nat->Int} {z:Dm} (hm:ms i=⟨d,some ⟨R,J,sp,M⟩,F,c,z⟩)
  {a:Nat} {len:Int} {on:Bool} {ec:Int} {M':Mr} (hd:M'.d=M.d) (HR:∀ W,Gz F W R J sp M->Calls prog 41 #[.pointer (some ⟨R,0,none⟩),.agg #[.int .u32 a,.int .i64 len],.bool on] W fun e w'=>e= .returned (.int .i64 ec)/\Goeg F W R J2 sp M' w'):
  Calls prog 24 #[.pointer (some ⟨N,0,none⟩),.int .i64 i,.agg #[.int .u32 a,.int .i64 len],.bool on] w fun e w'=>∃ F',e= .returned (.int .i64 ec)/\NtG w' N MB n (putg ms i ⟨d,some ⟨R,J2,sp,M'⟩,F',c,z⟩) v/\Turn F w w'/\(∀ y,y∈F'->y∈F\/w.heap.size<=y):=by
 obtain ⟨hb,PB⟩:=nw w 42 #[.int .u32 a,.int .i64 len];have hsz:=aa1 w (.cells #[.int .u32 a,.int .i64 len] 42);have h1:=h.held hb;have hz:=h1.mas.ok i hi;rw [hm] at hz;have H2:=au6 h1 hi;rw [hm] at H2;replace H2:Calls prog 36 #[.pointer (some ⟨N,0,none⟩),.int .i64 i] (w.alloc (.cells #[.int .u32 a,.int .i64 len] 42)) fun e w'=>e= .returned (.bool true)/\w'=w.alloc (.cells #[.int .u32 a,.int .i64 len] 42):=H2
 have c0:(w.alloc (.cells #[.int .u32 a,.int .i64 len] 42)).cell? ⟨N,0,none⟩=some (.slice (some ⟨MB,0,none⟩) n n):=h1.head.at_ 0;have c1:(w.alloc (.cells #[.int .u32 a,.int .i64 len] 42)).cell? ⟨MB,i*10,none⟩=some (.pointer (some ⟨R,0,none⟩)):=h1.cell hi (j:=0) (by rw [hm]; rfl);have c2:(w.alloc (.cells #[.int .u32 a,.int .i64 len] 42)).cell? ⟨w.heap.size,0,none⟩=some (.int .u32 a):=PB.at_ 0;have c3:(w.alloc (.cells #[.int .u32 a,.int .i64 len] 42)).cell? ⟨w.heap.size,1,none⟩=some (.int .i64 len):=PB.at_ 1;have hin:(i:Int)<(n:Int):=by omega
 have HO:=HR _ ((hz.some rfl).held (Below.refl _ _).drew);have hlt:∀ x,x∈F->x<w.heap.size:=fun x hx=>(h.mas.ok i hi).lt (by rw [hm]; exact hx)
 have hNF:N∉F:=by have:=h.nF i hi; rw [hm] at this; exact this
 have hMF:MB∉F:=by have:=h.mas.mb i hi; rw [hm] at this; exact this
 have X:=H7 h1 hm hb hlt hNF hMF hsz;clear hlt hNF hMF h h1 hm HR hz PB;go_enter Tryz.func24,Tryz.ntmps24;go_wp2_with fail;generalize w.alloc _=w1 at*;refine H2.mono ?_;rintro e w2 ⟨rfl,rfl⟩;go_wp2_with fail;clear H2;refine wp_region_held_drew (S:=fun u=>u.cell? ⟨N,0,none⟩=some (.slice (some ⟨MB,0,none⟩) n n)/\u.cell? ⟨MB,i*10,none⟩=some (.pointer (some ⟨R,0,none⟩))/\u.cell? ⟨w.heap.size,0,none⟩=some (.int .u32 a)/\u.cell? ⟨w.heap.size,1,none⟩=some (.int .i64 len)) (by kernel_rfl) ⟨c0,c1,c2,c3⟩ (fun hHeld=>?_);refine tk 0 (.pointer (some ⟨N,0,none⟩)) rfl hHeld ?_;go_frame;refine tk 1 (.pointer (some ⟨N,0,none⟩)) rfl hHeld ?_;go_frame;refine tk 2 (.pointer (some ⟨N,0,none⟩)) rfl hHeld ?_;go_frame;refine tk 3 (.slice (some ⟨MB,0,none⟩) n n) rfl hHeld ?_;go_frame;refine tk 4 (.int .i64 i) rfl hHeld ?_;go_frame;refine tk 5 (.pointer (some ⟨MB,i*10,none⟩)) rfl hHeld ?_;go_frame;refine tk 6 (.pointer (some ⟨MB,i*10,none⟩)) rfl hHeld ?_;go_frame;refine tk 7 (.pointer (some ⟨R,0,none⟩)) rfl hHeld ?_;go_frame;refine tk 8 (.agg #[.int .u32 a,.int .i64 len]) rfl hHeld ?_;go_frame;refine tk 9 (.bool on) rfl hHeld ?_;go_frame;refine rl 10 rfl fun K hK=>?_
 go_simp;refine HO.mono ?_;rintro e w4 ⟨rfl,hG⟩;obtain ⟨F4,hz4,t4,n4⟩:=hG;have hp4:w.heap.size∉F:=fun hx=>by have:=X.out.2.2.2.1 _ hx; omega
 refine hK.out _ _ ⟨t4.cell c0 X.out.2.2.2.2.1,t4.cell c1 X.out.2.2.2.2.2.1,t4.cell c2 hp4,t4.cell c3 hp4⟩ (fun hHeld=>?_);clear hK K HO c0 c1 c2 c3;obtain ⟨F',g1,g2,g3⟩:=(X.out.1.held (Below.refl _ _).drew).goes hi (m:=⟨d,none,[],c,z⟩) (x:=⟨R,J,sp,M⟩) (F:=F) (by rw [X.out.2.1]; rfl) ⟨F4,hz4,t4,n4⟩ hd;have G:=H3 g1 g2 g3;clear hz4 t4 n4 g1 g2 g3;refine tk 11 (.int .i64 ec) rfl hHeld ?_;go_frame;refine wpAnyH_done (by kernel_rfl) ?_ _;try go_frame
 clear hHeld;go_wp2_with fail;go_ret;have hbd:=X.out.2.2.1.trans ((Below.refl _ _).drew.mono X.out.2.2.1.size);refine ⟨rfl,F',G.out.1,(Turn.of_below _ hbd).trans G.out.2.1,fun y hy=>(G.out.2.2 y hy).imp id (Nat.le_trans hbd.size)⟩
end
end
end Go.Proofs.YtbepbkidkjblgaaGreat
