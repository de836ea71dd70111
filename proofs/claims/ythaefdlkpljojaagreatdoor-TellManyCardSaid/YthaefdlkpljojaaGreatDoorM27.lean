import Derived.Test.YthaefdlkpljojaaGreatDoorM21
import Derived.Test.YthaefdlkpljojaaGreatDoorM18
import Derived.Test.YthaefdlkpljojaaGreatDoorM20
import Derived.Test.YthaefdlkpljojaaGreatDoorM10
import Derived.Test.YthaefdlkpljojaaGreatDoorM14
import Derived.Test.YthaefdlkpljojaaGreatDoorM03
import Derived.Laws.BitsAllLaws
import Derived.Deep.Cut
import Derived.Deep.RegionHeld3
import Derived.Deep.CutBlock
import Derived.Deep.CutRange
import Derived.Deep.Slices
import Derived.Test.YthaefdlkpljojaaGreatDoorM02
import Derived.Test.YthaefdlkpljojaaGreatDoorProg
set_option maxHeartbeats 8000000
namespace Go.Proofs.YthaefdlkpljojaaGreatDoor
open Go.RowKit Go.Maps Rm
attribute [local go_sem] Oper.semAt_some

section
variable {w w':World} {N MB n:Nat} {ms:Nat→Ma} {v:Value} {xs:List Pe} {os:List (Nat×Nat×List Nat)}
end
section
variable {w:World} {N MB n:Nat} {ms:Nat→Ma} {v:Value} {xs:List Pe} {os:List (Nat×Nat×List Nat)}
end
section
variable {w:World} {N MB n:Nat}
end
section
variable {w:World} {N MB n:Nat} {ms:Nat→Ma} {v:Value}
end
section
variable {w:World} {N MB n:Nat} {ms:Nat→Ma} {v:Value}
end
end Go.Proofs.YthaefdlkpljojaaGreatDoor
namespace Go.Proofs.YthaefdlkpljojaaGreatDoor
open Go.RowKit Go.Maps Rm
structure Rv where
 room:Nat
 sp:Nat
 M:Mr
structure Sv where
 d:Nat
 r:Option Rv
 c:Nat→Int
 z:Dz
def Ma.sv (m:Ma):Sv:=⟨m.d,m.r.map fun x=>⟨x.room,x.sp,x.M⟩,m.c,m.z⟩
theorem Ma.sv_none {m:Ma} {d:Nat} {c:Nat→Int} {z:Dz} (h:m.sv=⟨d,none,c,z⟩):m=⟨d,none,m.F,c,z⟩:=by
 obtain ⟨d',r,F,c',z'⟩:=m
 unfold Ma.sv at h
 simp only [Sv.mk.injEq,Option.map_eq_none_iff] at h
 obtain ⟨rfl,rfl,rfl,rfl⟩:=h
 rfl
theorem Ma.sv_some {m:Ma} {d room sp:Nat} {M:Mr} {c:Nat→Int} {z:Dz} (h:m.sv=⟨d,some ⟨room,sp,M⟩,c,z⟩):∃ R,m=⟨d,some ⟨R,room,sp,M⟩,m.F,c,z⟩:=by
 obtain ⟨d',r,F,c',z'⟩:=m
 unfold Ma.sv at h
 simp only [Sv.mk.injEq,Option.map_eq_some_iff] at h
 obtain ⟨rfl,⟨⟨R,a,b,e⟩,rfl,h2⟩,rfl,rfl⟩:=h
 simp only [Rv.mk.injEq] at h2
 obtain ⟨rfl,rfl,rfl⟩:=h2
 exact ⟨R,rfl⟩
def sets (st:Nat→Sv) (i:Nat) (s:Sv):Nat→Sv:=fun k=>if k=i then s else st k
theorem sets_same (st:Nat→Sv) (i:Nat) (s:Sv):sets st i s i=s:=by simp [sets]
theorem sets_other {st:Nat→Sv} {i k:Nat} (h:k≠i) (s:Sv):sets st i s k=st k:=by simp [sets,h]
abbrev Dg:=Nat×Nat×List Nat
section
variable {w0 w w':World} {N n:Nat} {st:Nat→Sv} {os:List Dg}
def mrB (id d:Nat) (sm:Sm) (c:Nat→Int):Mr:=lks c 8 (mr1 id d sm)
end
end Go.Proofs.YthaefdlkpljojaaGreatDoor
namespace Go.Proofs.YthaefdlkpljojaaGreatDoor
open Go.RowKit Go.Maps Rm Fm Sb
section
variable {w0 w w':World} {N n:Nat} {st:Nat→Sv} {os:List Dg}
end
def Ms (d id:Nat) (c:Nat→Int) (f:Ways) (now:Int):Mr:=⟨id,sm0,f,c,now,0,0,d⟩
theorem lessF_none (dead:Rk→Bool):lessF (fun _=>none) dead=fun _=>none:=by
 funext k
 unfold lessF
 split<;>rfl
section
variable {p:Pk} {d id:Nat} {c:Nat→Int} {now:Int} {seq:Nat} {since:Int} {lease:Nat}
end
theorem Ms.subj {d id:Nat} {c:Nat→Int} {now:Int} {rs:List En} (h:Subj (Ms d id c (fun _=>none) now) rs):rs=[]:=
 h.none (fun p ha=>by
  rcases ha with ⟨_,h⟩|⟨_,_,h⟩
  ·cases h
  ·cases h) (fun p ⟨_,_,h⟩=>by cases h)
theorem Ms.few {d id:Nat} {c:Nat→Int} {now:Int}:Few (Ms d id c (fun _=>none) now) 0 0:=⟨[],[],[],by simp,by simp,(fun p h=>by simp [Ms,sm0] at h),(fun k h=>by simp [Ms,sm0] at h),(fun k h=>by simp [Ms] at h)⟩
section
variable {d id:Nat} {c:Nat→Int} {now:Int}
end
theorem lks_mr1 (id d:Nat) (sm:Sm) (c:Nat→Int):∀ k,lks c k (mr1 id d sm)=⟨id,sm,fun _=>none,fun i=>if i<k then c i else 0,0,0,0,d⟩
 |0=>by simp [lks,mr1]
 |k+1=>by
  have e:(fun i=>if i=k then c k else if i<k then c i else 0)=fun i=>if i<k+1 then c i else 0:=by
   funext i
   by_cases h:i=k
   ·subst h; simp
   ·by_cases h2:i<k
    ·rw [if_neg h,if_pos h2,if_pos (by omega)]
    ·rw [if_neg h,if_neg h2,if_neg (by omega)]
  show (lks c k (mr1 id d sm)).link k (c k)=_
  rw [lks_mr1 id d sm c k]
  unfold Mr.link
  split
  ·unfold Mr.setCost
   simp only [lessF_none,e]
  ·unfold Mr.setCost
   simp only [e]
theorem mrB_ms (id d:Nat) (c:Nat→Int):mrB id d sm0 c=Ms d id (fun i=>if i<8 then c i else 0) (fun _=>none) 0:=lks_mr1 id d sm0 c 8
section
variable {w0 w w':World} {N n:Nat} {st:Nat→Sv} {os:List Dg}
end
end Go.Proofs.YthaefdlkpljojaaGreatDoor
namespace Go.Proofs.YthaefdlkpljojaaGreatDoor.Cr
open Go.RowKit
section
variable {P:Program} {Q:Exit→Act→World→Prop} {md:Region.Mode} {S:World→Prop}
end
section
variable {w:World} {d S M n:Nat} {safe:Nat→List UInt8} {wn:Int→Option (List UInt8)} {well:Int}
end
end Go.Proofs.YthaefdlkpljojaaGreatDoor.Cr
namespace Go.Proofs.YthaefdlkpljojaaGreatDoor
open Go.RowKit Go.Maps Rm
attribute [local go_sem] Oper.semAt_some
section
variable {w:World} {N MB n:Nat} {ms:Nat→Ma} {v:Value} {xs:List Pe} {os:List Dg}
end
section
variable {w0 w w':World} {N n:Nat} {st:Nat→Sv} {os:List Dg}
end
end Go.Proofs.YthaefdlkpljojaaGreatDoor
namespace Go.Proofs.YthaefdlkpljojaaGreatDoor
open Go.RowKit Go.Maps Rm Fm Sb
structure Tu (O:Nat→Prop) (w0 w:World):Prop where
 os:w.os=w0.os
 tape:w.tape=w0.tape
 output:w.output=w0.output
 size:w0.heap.size≤w.heap.size
 block:∀ i,i<w0.heap.size→¬ O i→w.heap[i]?=w0.heap[i]?
 wide:∀ x,w.heap.size≤x→O x
theorem Tu.step {O:Nat→Prop} {L:List Nat} {w0 w w':World} (h:Tu O w0 w) (t:Turn L w w') (hL:∀ y,y∈L→O y):Tu O w0 w':=
 ⟨t.os.trans h.os,t.tape.trans h.tape,t.output.trans h.output,Nat.le_trans h.size t.size,fun i hi hn=>(t.block i (Nat.lt_of_lt_of_le hi h.size) (fun hm=>hn (hL i hm))).trans (h.block i hi hn),fun x hx=>h.wide x (Nat.le_trans t.size hx)⟩
theorem Tu.held {O:Nat→Prop} {w0 w w':World} (h:Tu O w0 w) (hb:Below w.heap.size w w'):Tu O w0 w':=h.step (.of_below [] hb) (fun y hy=>by cases hy)
theorem Tu.refl {O:Nat→Prop} {w:World} (h:∀ x,w.heap.size≤x→O x):Tu O w w:=⟨rfl,rfl,rfl,Nat.le_refl _,fun _ _ _=>rfl,h⟩
theorem Tu.below {w0 w:World} (h:Tu (fun x=>w0.heap.size≤x) w0 w):Below w0.heap.size w0 w:=⟨h.os,h.tape,h.output,h.size,fun i hi=>h.block i hi (by omega)⟩
theorem Tu.of_below {w0 w:World} (h:Below w0.heap.size w0 w):Tu (fun x=>w0.heap.size≤x) w0 w:=⟨h.os,h.tape,h.output,h.size,fun i hi _=>h.block i hi,fun _ hx=>Nat.le_trans h.size hx⟩
structure Bo (O:Nat→Prop) (w0 w:World) (N n:Nat) (st:Nat→Sv) (os:List Dg):Prop where
 ex:∃ MB ms v xs,Nw w N MB n ms v xs os∧(∀ i,i<n→(ms i).sv=st i)∧O N∧O MB∧(∀ i,i<n→∀ x,x∈(ms i).F→O x)∧(∀ x,v.ownBlock=some x→O x)∧Tu O w0 w∧os.length≤256
section
variable {O:Nat→Prop} {w0 w w':World} {N n:Nat} {st:Nat→Sv} {os:List Dg}
theorem Bo.tu (h:Bo O w0 w N n st os):Tu O w0 w:=by
 obtain ⟨MB,ms,v,xs,hW,hst,b1,b2,b3,b4,hB,hl⟩:=h.ex
 exact hB
theorem Bo.n8 (h:Bo O w0 w N n st os):n≤8:=by
 obtain ⟨MB,ms,v,xs,hW,hst,b1,b2,b3,b4,hB,hl⟩:=h.ex
 exact hW.nt.n8
theorem Bo.held (h:Bo O w0 w N n st os) (hb:Below w.heap.size w w'):Bo O w0 w' N n st os:=by
 obtain ⟨MB,ms,v,xs,hW,hst,b1,b2,b3,b4,hB,hl⟩:=h.ex
 exact ⟨MB,ms,v,xs,hW.held hb,hst,b1,b2,b3,b4,hB.held hb,hl⟩
theorem Bo.one {MB:Nat} {ms:Nat→Ma} {v:Value} {xs:List Pe} (hW:Nw w N MB n ms v xs os) (hst:∀ i,i<n→(ms i).sv=st i) (b1:O N) (b2:O MB) (b3:∀ i,i<n→∀ x,x∈(ms i).F→O x) (b4:∀ x,v.ownBlock=some x→O x) (hB:Tu O w0 w) (hl:os.length≤256)
  {i:Nat} (hi:i<n) {m:Ma} {s:Sv} (hs:m.sv=s) (hN:Nt w' N MB n (puts ms i m) v) (t:Turn (MB::(ms i).F) w w') (hF:∀ y,y∈m.F→y∈(ms i).F∨w.heap.size≤y):Bo O w0 w' N n (sets st i s) os:=by
 refine ⟨MB,puts ms i m,v,xs,hW.one hi hN t (fun x hx=>by simpa using hx) hF,fun k hk=>?_,b1,b2,fun k hk x hx=>?_,b4,hB.step t (fun y hy=>?_),hl⟩
 ·by_cases e:k=i
  ·subst e; rw [puts_same,sets_same]; exact hs
  ·rw [puts_other e,sets_other e]; exact hst k hk
 ·by_cases e:k=i
  ·subst e
   rw [puts_same] at hx
   rcases hF x hx with e2|e2
   ·exact b3 k hk x e2
   ·exact hB.wide _ e2
  ·rw [puts_other e] at hx; exact b3 k hk x hx
 ·rcases List.mem_cons.1 hy with e|e
  ·rw [e]; exact b2
  ·exact b3 i hi y e
theorem bo_new (n:Nat) (h1:1≤n) (h8:n≤8) (sec:Nat) (hs1:4≤sec) (hs2:sec≤512) (w:World):Calls Tryz.prog 51 #[.int .i64 (n:Int),.int .i64 (sec:Int)] w fun e w'=>
  ∃ (N:Nat) (d:Nat→Nat),e= .returned (.pointer (some ⟨N,0,none⟩))∧Bo (fun x=>w.heap.size≤x) w w' N n (fun i=>⟨d i,none,fun _=>0,⟨i+1,sec / 2 - 1,sm0⟩⟩) []:=by
 refine (net_new n h1 h8 sec hs1 hs2 w).mono ?_
 rintro e w' ⟨ms,rfl,hN,hF,hb,hB⟩
 refine ⟨_,fun i=>(ms i).d,rfl,w.heap.size,ms,_,[],⟨hN,Wy.nil _,fun x hx=>?_⟩,fun i hi=>?_,(by show w.heap.size≤_; omega),Nat.le_refl _,hb,fun x hx=>(by cases hx),.of_below hB,by simp⟩
 ·rcases hx with e|⟨p,hp,-⟩
  ·cases e
  ·cases hp
 ·have f:=hF i hi
  unfold Ma.sv
  rw [f.r,f.c,f.z]
  rfl
theorem bo_size (h:Bo O w0 w N n st os):Calls Tryz.prog 35 #[.pointer (some ⟨N,0,none⟩)] w fun e w'=>e= .returned (.int .i64 n)∧w'=w:=by
 obtain ⟨MB,ms,v,xs,hW,hst,b1,b2,b3,b4,hB,hl⟩:=h.ex
 exact net_size hW.nt
theorem bo_router_down (h:Bo O w0 w N n st os) {i:Nat} (hi:i<n) (hr:(st i).r=none):Calls Tryz.prog 21 #[.pointer (some ⟨N,0,none⟩),.int .i64 i] w fun e w'=>e= .returned (.pointer none)∧w'=w:=by
 obtain ⟨MB,ms,v,xs,hW,hst,b1,b2,b3,b4,hB,hl⟩:=h.ex
 have hm:=Ma.sv_none (d:=(st i).d) (c:=(st i).c) (z:=(st i).z) ((hst i hi).trans (by rw [← hr]))
 have:=net_router_in hW.nt hi
 rw [hm] at this
 exact this
theorem bo_boot (h:Bo O w0 w N n st os) {i:Nat} (hi:i<n) {d room:Nat} {sm:Sm} {c:Nat→Int} (hs:st i=⟨d,none,c,⟨i+1,room,sm⟩⟩) (hlow:∀ k,0≤c k∧c k≤1000):
  Calls Tryz.prog 77 #[.pointer (some ⟨N,0,none⟩),.int .i64 i] w fun e w'=>e= .returned (.int .i64 0)∧Bo O w0 w' N n (sets st i ⟨d,some ⟨room,90000,mrB (i+1) d sm c⟩,c,⟨i+1,room,sm⟩⟩) os:=by
 obtain ⟨MB,ms,v,xs,hW,hst,b1,b2,b3,b4,hB,hl⟩:=h.ex
 have hm:=Ma.sv_none ((hst i hi).trans hs)
 have hk:=hW.nt.mas.ok i hi
 rw [hm] at hk
 obtain ⟨S,Mp,e1,-⟩:=hk.none rfl
 have e1':(ms i).F=[d,S,Mp]:=e1
 rw [e1'] at hm
 refine (net_boot hW.nt hi hm hlow).mono ?_
 rintro e w' ⟨R,F,rfl,hN,t,hF⟩
 exact ⟨rfl,.one hW hst b1 b2 b3 b4 hB hl hi rfl hN (by rw [e1']; exact t) (by rw [e1']; exact hF)⟩
end
section
variable {O O':Nat→Prop} {w0 w w':World} {N n:Nat} {st:Nat→Sv} {os:List Dg}
theorem Bo.beside (h:Bo O w0 w N n st os) {L:List Nat} (t:Turn L w w') (hL:∀ x,x∈L→¬ O x∧∃ tg C,tg≠5∧Blk tg w x C) (hO:∀ x,x<w.heap.size→O x→O' x) (hw:∀ x,w'.heap.size≤x→O' x):Bo O' w' w' N n st os:=by
 obtain ⟨MB,ms,v,xs,hW,hst,b1,b2,b3,b4,hB,hl⟩:=h.ex
 have f1:∀ x,O x→x∉L:=fun x hx hm=>(hL x hm).1 hx
 refine ⟨MB,ms,v,xs,⟨hW.nt.turn t (f1 _ b1) (f1 _ b2) (fun i hi x hx=>f1 _ (b3 i hi x hx)),hW.wy.turn t (fun x hx hm=>?_),hW.apart⟩,hst,hO _ hW.nt.head.lt b1,hO _ hW.nt.mas.lt b2,fun i hi x hx=>hO _ ((hW.nt.mas.ok i hi).lt hx) (b3 i hi x hx),fun x hx=>hO _ (hW.wy.lt (.inl hx)) (b4 x hx),.refl hw,hl⟩
 rcases hx with e|⟨p,hp,rfl⟩
 ·exact f1 _ (b4 x e) hm
 ·obtain ⟨i,hi,rfl⟩:=List.getElem_of_mem hp
  obtain ⟨-,tg,C,ht,hC⟩:=hL _ hm
  have hr:=(hW.wy.row i hi (by rw [← hW.wy.len]; exact hi)).2.2.2.1
  obtain ⟨cur,q1,q2⟩:=hr
  unfold Blk at hC q1
  rw [hC] at q1
  injection q1 with q1
  injection q1 with q1 q3
  exact ht q3
end
end Go.Proofs.YthaefdlkpljojaaGreatDoor
namespace Go.Proofs.YthaefdlkpljojaaGreatDoor
open Go.RowKit Go.Maps Rm Sb
attribute [local go_sem] Oper.semAt_some
structure Fibd (s:Sv) (fe:List Fe):Prop where
 down:s.r=none→fe=[]
 up:∀ d room sp M c z,s=⟨d,some ⟨room,sp,M⟩,c,z⟩→(∃ p r,Few M p r∧2*p+r<20)∧∀ rs,Subj M rs→rs.flatMap M.entry=fe
theorem fib_parts:∃ i,Tryz.prog.info? 81=some i∧i.zero=some (.slice none 0 0)∧i.size=1∧i.bytes=24:=by
 have h:(Tryz.prog.info? 81).map (fun i=>(i.zero,i.size,i.bytes))=some (some (.slice none 0 0),1,24):=by kernel_rfl
 exact info_parts h
def fibZ (n:Nat):Array Value:=madeCells #[.slice none 0 0] n
theorem fibZ_size (n:Nat):(fibZ n).size=n:=size_madeCells _ _
theorem fibZ_get {n k:Nat} (h:k<n):(fibZ n)[k]?=some (.slice none 0 0):=by
 rw [Array.getElem?_eq_getElem (by rw [fibZ_size]; exact h)]
 simp [fibZ,madeCells,Nat.mod_one]
theorem run_make_fibs (n:Nat) (hn:n≤512) (w:World):(Instr.makeSlice 76 (.int .i64 (n:Int)) (.int .i64 (n:Int))).run Tryz.prog w= .ok (.slice (some ⟨w.heap.size,0,none⟩) n n) (w.alloc (.cells (fibZ n) 81)):=by
 obtain ⟨i,h1,h2,h3,h4⟩:=fib_parts
 have h:=run_make (P:=Tryz.prog) w 76 81 i _ (by kernel_rfl) h1 h2 .i64 .i64 (n:Int) (n:Int) (by omega) (by omega) (by rw [h4]; omega) (by omega)
 simpa [h3,fibZ,Value.cells] using h
structure FbL (w:World) (W n:Nat) (fe:Nat→List Fe) (k:Nat) (wr:World):Prop where
 le:w.heap.size≤W
 ex:∃ C,Blk 81 wr W C∧C.size=n∧(∀ j,j<k→∃ v,C[j]?=some v∧Lf (W+1) v (fe j) wr)∧∀ j,k≤j→j<n→C[j]?=some (.slice none 0 0)
 below:Below w.heap.size w wr
section
variable {w wr w2:World} {W n k:Nat} {fe:Nat→List Fe}
theorem FbL.start (w:World) (n:Nat) (fe:Nat→List Fe):FbL w w.heap.size n fe 0 (w.alloc (.cells (fibZ n) 81)):=
 ⟨Nat.le_refl _,⟨_,Blk.new w _ _,fibZ_size n,fun j h=>absurd h (by omega),fun j _ h=>fibZ_get h⟩,below_new _ _⟩
theorem FbL.held (h:FbL w W n fe k wr) (hb:Below wr.heap.size wr w2):FbL w W n fe k w2:=by
 obtain ⟨C,h1,h2,h3,h4⟩:=h.ex
 exact ⟨h.le,⟨C,h1.held hb,h2,fun j hj=>by obtain ⟨v,q1,q2⟩:=h3 j hj; exact ⟨v,q1,q2.held hb⟩,h4⟩,h.below.trans (hb.mono h.below.size)⟩
theorem FbL.skip (h:FbL w W n fe k wr) (hk:k<n) (he:fe k=[]):FbL w W n fe (k+1) wr:=by
 obtain ⟨C,h1,h2,h3,h4⟩:=h.ex
 refine ⟨h.le,⟨C,h1,h2,fun j hj=>?_,fun j hj=>h4 j (by omega)⟩,h.below⟩
 by_cases e:j=k
 ·subst e
  exact ⟨_,h4 j (Nat.le_refl _) hk,by rw [he]; exact Lf.nil _ _⟩
 ·exact h3 j (by omega)
theorem FbL.put (h:FbL w W n fe k wr) (hk:k<n) {v:Value} (hv:Lf (W+1) v (fe k) wr):FbL w W n fe (k+1) (wr.setCell ⟨W,k,none⟩ v):=by
 obtain ⟨C,h1,h2,h3,h4⟩:=h.ex
 have far:∀ b,b≠W→(wr.setCell ⟨W,k,none⟩ v).heap[b]?=wr.heap[b]?:=fun b hb=>Below.heap_setCell _ _ _ _ hb
 have keep:∀ {u:Value} {us:List Fe},Lf (W+1) u us wr→Lf (W+1) u us (wr.setCell ⟨W,k,none⟩ v):=fun hu=>hu.of_block fun b e=>far b (by have:=(hu.lt e).2; omega)
 refine ⟨h.le,⟨_,h1.store k v,by rw [Array.size_setIfInBounds,h2],fun j hj=>?_,fun j hj hj2=>?_⟩,h.below.setCell h.le v⟩
 ·rw [Array.getElem?_setIfInBounds]
  by_cases e:k=j
  ·subst e
   rw [if_pos rfl,if_pos (by omega)]
   exact ⟨v,rfl,keep hv⟩
  ·rw [if_neg e]
   obtain ⟨u,q1,q2⟩:=h3 j (by omega)
   exact ⟨u,q1,keep q2⟩
 ·rw [Array.getElem?_setIfInBounds,if_neg (by omega)]
  exact h4 j (by omega) hj2
theorem FbL.cell (h:FbL w W n fe k wr) (hk:k<n):wr.cell? ⟨W,k,none⟩=some (.slice none 0 0)∧wr.frozen? ⟨W,k,none⟩=false:=by
 obtain ⟨C,h1,h2,h3,h4⟩:=h.ex
 exact ⟨(h1.at_ k).trans (h4 k (Nat.le_refl _) hk),h1.free k⟩
end
theorem Nt.row {w:World} {N MB n:Nat} {ms:Nat→Ma} {v:Value} (h:Nt w N MB n ms v) {i:Nat} (hi:i<n):
  w.cell? ⟨MB,i*10,none⟩=some (ms i).rv∧w.cell? ⟨MB,i*10+1,none⟩=some (.pointer (some ⟨(ms i).d,0,none⟩))∧w.cell? ⟨MB,i*10+2,none⟩=some (.int .i64 ((ms i).c 0))∧w.cell? ⟨MB,i*10+3,none⟩=some (.int .i64 ((ms i).c 1))∧w.cell? ⟨MB,i*10+4,none⟩=some (.int .i64 ((ms i).c 2))∧w.cell? ⟨MB,i*10+5,none⟩=some (.int .i64 ((ms i).c 3))∧w.cell? ⟨MB,i*10+6,none⟩=some (.int .i64 ((ms i).c 4))∧w.cell? ⟨MB,i*10+7,none⟩=some (.int .i64 ((ms i).c 5))∧w.cell? ⟨MB,i*10+8,none⟩=some (.int .i64 ((ms i).c 6))∧w.cell? ⟨MB,i*10+9,none⟩=some (.int .i64 ((ms i).c 7)):=
 ⟨h.cell hi (j:=0) rfl,h.cell hi (j:=1) rfl,h.cell hi (j:=2) rfl,h.cell hi (j:=3) rfl,h.cell hi (j:=4) rfl,h.cell hi (j:=5) rfl,h.cell hi (j:=6) rfl,h.cell hi (j:=7) rfl,h.cell hi (j:=8) rfl,h.cell hi (j:=9) rfl⟩
section
variable {O:Nat→Prop} {w0 w:World} {N n:Nat} {st:Nat→Sv} {os:List Dg}
theorem Bo.at_machine (h:Bo O w0 w N n st os) {MB:Nat} (hMB:w.cell? ⟨N,0,none⟩=some (.slice (some ⟨MB,0,none⟩) n n)) {i:Nat} (hi:i<n) {fe:List Fe} (hF:Fibd (st i) fe):
  ∃ rv d c0 c1 c2 c3 c4 c5 c6 c7,(∀ w',Below w.heap.size w w'→w'.cell? ⟨N,0,none⟩=some (.slice (some ⟨MB,0,none⟩) n n)∧w'.cell? ⟨MB,i*10,none⟩=some (.pointer rv)∧w'.cell? ⟨MB,i*10+1,none⟩=some (.pointer (some ⟨d,0,none⟩))∧w'.cell? ⟨MB,i*10+2,none⟩=some (.int .i64 c0)∧w'.cell? ⟨MB,i*10+3,none⟩=some (.int .i64 c1)∧w'.cell? ⟨MB,i*10+4,none⟩=some (.int .i64 c2)∧w'.cell? ⟨MB,i*10+5,none⟩=some (.int .i64 c3)∧w'.cell? ⟨MB,i*10+6,none⟩=some (.int .i64 c4)∧w'.cell? ⟨MB,i*10+7,none⟩=some (.int .i64 c5)∧w'.cell? ⟨MB,i*10+8,none⟩=some (.int .i64 c6)∧w'.cell? ⟨MB,i*10+9,none⟩=some (.int .i64 c7))∧
   ((rv=none∧fe=[])∨∃ R,rv=some ⟨R,0,none⟩∧∀ w',Below w.heap.size w w'→Calls Tryz.prog 53 #[.pointer (some ⟨R,0,none⟩)] w' fun e w2=>∃ v,e= .returned v∧Lf w'.heap.size v fe w2∧Below w'.heap.size w' w2):=by
 obtain ⟨MB',ms,v,xs,hW,hst,b1,b2,b3,b4,hB,hl⟩:=h.ex
 obtain rfl:MB'=MB:=by
  have e:=(hW.nt.head.at_ 0).symm.trans hMB
  simpa using e
 refine ⟨(ms i).r.map (fun x:Rn=>(⟨x.R,0,none⟩:Addr)),(ms i).d,(ms i).c 0,(ms i).c 1,(ms i).c 2,(ms i).c 3,(ms i).c 4,(ms i).c 5,(ms i).c 6,(ms i).c 7,fun w' hb=>⟨(hW.nt.held hb).head.at_ 0,(hW.nt.held hb).row hi⟩,?_⟩
 have hk:=hW.nt.mas.ok i hi
 cases hr:(ms i).r with
 |none=>
  refine .inl ⟨by rfl,hF.down ?_⟩
  rw [← hst i hi]
  unfold Ma.sv
  rw [hr]
  rfl
 |some x=>
  obtain ⟨R,room,sp,M⟩:=x
  refine .inr ⟨R,rfl,fun w' hb=>?_⟩
  obtain ⟨⟨p,r,hf,hlt⟩,hS⟩:=hF.up (ms i).d room sp M (ms i).c (ms i).z (by
   rw [← hst i hi]
   unfold Ma.sv
   rw [hr]
   rfl)
  refine (rz_fib ((hk.some hr).held hb) hf hlt).mono ?_
  rintro e w2 ⟨v,rs,rfl,h1,h2,h3⟩
  exact ⟨v,rfl,by rw [← hS rs h1]; exact h2,h3⟩
set_option maxRecDepth 100000 in
theorem bo_fibs (h:Bo O w0 w N n st os) {fe:Nat→List Fe} (hF:∀ i,i<n→Fibd (st i) (fe i)):
  Calls Tryz.prog 34 #[.pointer (some ⟨N,0,none⟩)] w fun e w'=>e= .returned (.slice (some ⟨w.heap.size,0,none⟩) n n)∧FbL w w.heap.size n fe n w':=by
 have hn8:=h.n8
 have HS:=bo_size h
 have hmk:=run_make_fibs n (by omega) w
 have S0:=Lib.hid (FbL.start w n fe)
 obtain ⟨MB,hMB⟩:∃ MB,w.cell? ⟨N,0,none⟩=some (.slice (some ⟨MB,0,none⟩) n n):=by
  obtain ⟨MB,ms,v,xs,hW,-⟩:=h.ex
  exact ⟨MB,hW.nt.head.at_ 0⟩
 have q0:(w.alloc (.cells (fibZ n) 81)).cell? ⟨N,0,none⟩=some (.slice (some ⟨MB,0,none⟩) n n):=held (below_new _ _) hMB
 have H:=Lib.hid (And.intro h (And.intro hF hMB))
 clear h hF hMB
 go_enter Tryz.func34,Tryz.ntmps34
 go_wp2_with (first|(go_at_call 35; refine HS.mono ?_; rintro e w1 ⟨rfl,hw1⟩; have hw2:=hw1.symm; subst hw2; clear hw1)|fail)
 go_loopw [14] (fun i wr=>∃ k:Nat,i= .int .i64 (k:Nat)∧k≤n∧Hid (FbL w w.heap.size n fe k wr)) (fun i _=>n - (intOf i).toNat)
 case atStart=>exact ⟨0,rfl,Nat.zero_le _,S0⟩
 case round=>
  clear S0 q0
  obtain ⟨k,rfl,hkn,R⟩:=hrel
  by_cases hk:k<n
  ·have hkz:(k:Int)<(n:Int):=by omega
   obtain ⟨rv,d,z0,z1,z2,z3,z4,z5,z6,z7,hc,hcase⟩:=H.out.1.at_machine H.out.2.2 hk (H.out.2.1 k hk)
   obtain ⟨a,a0,a1,a2,a3,a4,a5,a6,a7,a8,a9⟩:=hc wr R.out.below
   have hbx:=below_new wr (.cells #[.pointer rv,.pointer (some ⟨d,0,none⟩),.int .i64 z0,.int .i64 z1,.int .i64 z2,.int .i64 z3,.int .i64 z4,.int .i64 z5,.int .i64 z6,.int .i64 z7] 92)
   have BX:=Blk.new wr 92 #[.pointer rv,.pointer (some ⟨d,0,none⟩),.int .i64 z0,.int .i64 z1,.int .i64 z2,.int .i64 z3,.int .i64 z4,.int .i64 z5,.int .i64 z6,.int .i64 z7]
   have R1:=Lib.hid (R.out.held hbx)
   have hW:w.heap.size<wr.heap.size:=by
    obtain ⟨C,h1,-⟩:=R.out.ex
    exact h1.lt
   rcases hcase with ⟨rfl,he⟩|⟨R0,rfl,HFib⟩
   ·have R2:=Lib.hid (R1.out.skip hk he)
    clear R R1 he hc hbx hW
    go_upto_region 5 with fail
    generalize wr.alloc _=w2 at*
    have x0:w2.cell? ⟨wr.heap.size,0,none⟩=some (.pointer none):=BX.at_ 0
    clear BX
    go_wp2_with fail
    go_roundw
    case rel=>exact ⟨k+1,by go_num,by omega,R2⟩
    case measure=>simp [intOf]; omega
   ·have HFb:=HFib _ (R.out.below.trans (hbx.mono R.out.below.size))
    have hW2:=Lib.hid hW
    clear R hc hbx HFib hW
    go_upto_region 5 with fail
    have hs2:=Lib.hid (size_new wr (.cells #[.pointer (some ⟨R0,0,none⟩),.pointer (some ⟨d,0,none⟩),.int .i64 z0,.int .i64 z1,.int .i64 z2,.int .i64 z3,.int .i64 z4,.int .i64 z5,.int .i64 z6,.int .i64 z7] 92))
    generalize wr.alloc _=w2 at*
    have x0:w2.cell? ⟨wr.heap.size,0,none⟩=some (.pointer (some ⟨R0,0,none⟩)):=BX.at_ 0
    clear BX a a0 a1 a2 a3 a4 a5 a6 a7 a8 a9
    go_wp2_with (first|(go_at_call 53; refine HFb.mono ?_; rintro e w3 ⟨v,rfl,hL,hb3⟩; obtain ⟨vp,vc,rfl,-⟩:=hL.form; have R3:=R1.out.held hb3; have C9:=(R3.cell hk).1; have F9:=(R3.cell hk).2; have R4:=Lib.hid (R3.put hk (hL.mono (by have:=hs2.out; have:=hW2.out; omega))); clear hL hb3 R3 HFb; generalize (fe k).length=fl at*)|fail)
    go_roundw
    case rel=>exact ⟨k+1,by go_num,by omega,R4⟩
    case measure=>simp [intOf]; omega
  ·obtain rfl:k=n:=by omega
   go_wp2_with fail
   go_ret
   exact ⟨rfl,R.out⟩
end
end Go.Proofs.YthaefdlkpljojaaGreatDoor
namespace Go.Proofs.YthaefdlkpljojaaGreatDoor
open Go.RowKit
attribute [local go_sem] Oper.semAt_some

end Go.Proofs.YthaefdlkpljojaaGreatDoor
namespace Go.Proofs.YthaefdlkpljojaaGreatDoor
open Go.RowKit Go.Maps Rm Fm Sb
def two (a b:Sv):Nat→Sv:=fun i=>if i=0 then a else b
def pz (i:Nat):Pk:=⟨167772160+i*65536,16⟩
theorem mrB_zero (id d:Nat):mrB id d sm0 (fun _=>0)=Ms d id (fun _=>0) (fun _=>none) 0:=by
 rw [mrB_ms]
 congr 1
 funext i
 simp
section
variable {w0 w:World} {N n:Nat} {st:Nat→Sv} {os:List Dg}
end
def pg (p:Pk) (id s:Nat):List Nat:=T.Tm.page (T.Tm.parts ⟨p.a,p.n,id,s,0⟩ 0)
section
variable {p:Pk} {id s:Nat}
end
section
variable {w0 w:World} {N n:Nat} {st:Nat→Sv} {os:List Dg}
end
end Go.Proofs.YthaefdlkpljojaaGreatDoor
namespace Go.Proofs.YthaefdlkpljojaaGreatDoor
open Go.RowKit Go.Maps Rm Fm Sb
attribute [local go_sem] Oper.semAt_some
def svS (d id room sp:Nat) (c:Nat→Int) (f:Ways) (now:Int) (z:Dz):Sv:=⟨d,some ⟨room,sp,Ms d id c f now⟩,c,z⟩
end Go.Proofs.YthaefdlkpljojaaGreatDoor
namespace Go.Proofs.YthaefdlkpljojaaGreatDoor
open Go.RowKit Go.Maps Rm Fm Sb

def way1 (p:Pk) (r:Rt):Ways:=putR (fun _=>none) ⟨p.a,p.n,r.fr⟩ r
section
variable {p:Pk} {d id fr k s m:Nat} {c:Nat→Int} {now e:Int}
end
section
variable {O:Nat→Prop} {w0 w w':World} {N n:Nat} {st:Nat→Sv} {os:List Dg}
end
section
variable {p:Pk} {k s m:Nat}
end
section
variable {O:Nat→Prop} {w0 w:World} {N n:Nat} {st:Nat→Sv} {os:List Dg}
end
def three (a b c:Sv):Nat→Sv:=fun i=>if i=0 then a else if i=1 then b else c
def fN:Ways:=fun _=>none
section
variable {O:Nat→Prop} {w0 w:World} {N:Nat} {d:Nat→Nat}
end
def w2 (e:Int):Ways:=way1 (pz 2) ⟨2,3,1,0,e⟩
section
variable {O:Nat→Prop} {w0 w:World} {N:Nat} {d:Nat→Nat}
end

end Go.Proofs.YthaefdlkpljojaaGreatDoor
