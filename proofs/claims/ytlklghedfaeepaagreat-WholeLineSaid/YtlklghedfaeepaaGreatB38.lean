import Derived.Test.YtlklghedfaeepaaGreatB30
import Derived.Test.YtlklghedfaeepaaGreatB34
set_option maxHeartbeats 8000000
namespace Go.Proofs.YtlklghedfaeepaaGreat
open _root_.Go.Proofs.Tryz (prog)
section
open Go.RowKit Go.Maps Rm Fm Sb
structure FbAt (w:World) (g T n:Nat) (fe:Nat->List Fe):Prop where
 ex:∃ C,Blk 97 w g C/\C.size=n/\∀ j,j<n->∃ v,C[j]?=some v/\Lf (g+1) v (fe j) w/\∀ b,v.ownBlock=some b->b<T
 lt:g<T
theorem FbL.at {w wr:World} {g n:Nat} {fe:Nat->List Fe} (h:FbL w g n fe n wr):FbAt wr g wr.heap.size n fe:=by
 obtain ⟨C,h1,h2,h3,-⟩:=h.ex;exact ⟨⟨C,h1,h2,fun j hj=>by obtain ⟨v,q1,q2⟩:=h3 j hj; exact ⟨v,q1,q2,fun b e=>(q2.lt e).1⟩⟩,h1.lt⟩
theorem FbAt.turn {w w':World} {g T n:Nat} {fe:Nat->List Fe} (h:FbAt w g T n fe) {L:List Nat} (t:Turn L w w') (hL:∀ x,x∈L->x<g\/T<=x):FbAt w' g T n fe:=by
 obtain ⟨C,h1,h2,h3⟩:=h.ex;have hlt:=h.lt;refine ⟨⟨C,h1.turn t (fun hm=>by rcases hL _ hm with e|e<;>omega),h2,fun j hj=>?_⟩,h.lt⟩;obtain ⟨v,q1,q2,q3⟩:=h3 j hj;exact ⟨v,q1,q2.turn t (fun b e hm=>by
  have a1:=(q2.lt e).2;have a2:=q3 b e;rcases hL _ hm with e|e<;>omega),q3⟩
theorem FbAt.held {w w':World} {g T n:Nat} {fe:Nat->List Fe} (h:FbAt w g T n fe) (hb:Below w.heap.size w w'):FbAt w' g T n fe:=h.turn (L:=[]) (.of_below [] hb) (fun x hx=>by cases hx)
theorem FbAt.row {w:World} {g T n:Nat} {fe:Nat->List Fe} (h:FbAt w g T n fe) {j:Nat} (hj:j<n):∃ p cap,w.cell? ⟨g,j,none⟩=some (.slice p (fe j).length cap)/\Lf (g+1) (.slice p (fe j).length cap) (fe j) w:=by
 obtain ⟨C,h1,h2,h3⟩:=h.ex;obtain ⟨v,q1,q2,-⟩:=h3 j hj;obtain ⟨p,cap,rfl,-⟩:=q2.form;exact ⟨p,cap,(h1.at_ j).trans q1,q2⟩
theorem Fibd.run {d room sp:Nat} {M:Mr} {c:Nat->Int} {z:Dz} {fe:List Fe} {N n:Nat} (hf:Few M N n) (hn:2*N+n<20) (h:∀ rs,Subj M rs->rs.flatMap M.entry=fe):Fibd ⟨d,some ⟨room,sp,M⟩,c,z⟩ fe:=⟨fun h=>(by cases h),fun d' room' sp' M' c' z' e=>by
 injection e with e1 e2 e3 e4;injection e2 with e2;injection e2 with e5 e6 e7;subst e7;exact ⟨⟨N,n,hf,hn⟩,h⟩⟩
end
end Go.Proofs.YtlklghedfaeepaaGreat
namespace Go.Proofs.YtlklghedfaeepaaGreat.Lo
open _root_.Go.Proofs.Tryz (prog)
section
open Go.RowKit Go.Maps Lm
def toE (e:Fe):En:=⟨e.a,e.n,e.how,e.nx⟩
theorem df3 {w:World} {B cap:Nat} {A:Option Addr} {fe:List Fe} (h:Lf B (.slice A fe.length cap) fe w) (hl:fe.length<=1000) (hf:∀ e∈fe,(toE e).Fits):InE w A fe.length cap (fe.map toE):=by
 have hO:Ol 95 fcl 4 B (.slice A fe.length cap) fe w:=h.1;obtain ⟨p,c,e,hc⟩:=Ol.form hO;injection e with e1 e2 e3;subst e1 e3;refine ⟨List.length_map ..,by unfold maxLen; omega,hc,fun h0=>?_,fun e he=>?_,fun b off e=>?_⟩
 ·obtain ⟨g,c',e,-⟩:=Ol.at_ al3 hO h0
  injection e with e1 e2 e3;exact ⟨g,0,e1⟩
 ·obtain ⟨x,hx,rfl⟩:=List.mem_map.1 he
  exact hf x hx
 ·intro i hi j hj
  have hi2:i<fe.length:=by rw [List.length_map] at hi; exact hi
  obtain ⟨g,c',e',-,-,hat⟩:=Ol.at_ al3 hO hi2;injection e' with e1 e2 e3;rw [e] at e1;injection e1 with e1;injection e1 with e1 e4 e5;subst e1 e4;rw [Nat.zero_add,hat j hj,List.getElem_map];rfl
end
end Go.Proofs.YtlklghedfaeepaaGreat.Lo
namespace Go.Proofs.YtlklghedfaeepaaGreat
open _root_.Go.Proofs.Tryz (prog)
section
open Go.RowKit Go.Maps Rm Fm Sb
attribute [local go_sem] Oper.semAt_some
theorem elemN:Elem prog 22 3 icl 1 8:=⟨by kernel_rfl,ae2 (z:= .int .i64 0) (by kernel_rfl) rfl,by omega,fun _=>rfl,fun x v hv=>by simp only [icl,List.mem_cons,List.not_mem_nil,or_false] at hv; subst hv; rfl,by omega⟩
theorem Bo.here' {O:Nat->Prop} {w2 w3:World} {N n:Nat} {st:Nat->Sv} {os:List Dg} (h:Bo O w2 w3 N n st os):Bo O w3 w3 N n st os:=h.beside (.refl [] _) (fun x hx=>by cases hx) (fun _ _ h=>h) h.tu.wide
structure Fr (w:World) (N n:Nat) (v:Value) (zs:List Int) (st:Nat->Sv) (wr:World):Prop where
 net:Bo (Ov w v) wr wr N n st []
 far:Ol 3 icl 1 w.heap.size v zs wr
 below:Below w.heap.size w wr
section
variable {w wr w1:World} {N n:Nat} {v:Value} {zs:List Int} {st:Nat->Sv}
theorem Fr.held (h:Fr w N n v zs st wr) (hb:Below wr.heap.size wr w1):Fr w N n v zs st w1:=⟨(h.net.held hb).here,h.far.held hb,h.below.trans (hb.mono h.below.size)⟩
theorem Fr.call (h:Fr w N n v zs st wr) {f:Nat} {args:Array Value} {r:Ending} {S:(Nat->Sv)->Prop}
  (hs:∀ O w0,Bo O w0 wr N n st []->Calls prog f args wr fun e w'=>e=r/\∃ st',S st'/\Bo O w0 w' N n st' []):
  Calls prog f args wr fun e w'=>e=r/\∃ st',S st'/\Fr w N n v zs st' w':=by
 refine (hs _ _ h.net).mono ?_;rintro e w' ⟨rfl,st',hS,hN'⟩;have T:=hN'.tu;have hB':Below w.heap.size w w':=h.below.trans ⟨T.os,T.tape,T.output,T.size,fun i hi=>T.block i (Nat.lt_of_lt_of_le hi h.below.size) (fun ho=>by have:=ho.1; omega)⟩;exact ⟨rfl,st',hS,hN'.here,h.far.of_block (fun b e=>T.block b (h.far.lt e).1 (fun ho=>ho.2 e)),hB'⟩
theorem Fr.push (h:Fr w N n v zs st wr) (z:Int) (hbig:zs.length<=100000):
  ∃ g' cap' W',(Builtin.append_ #[22,22] 22 #[v,.slice (some ⟨wr.heap.size,0,none⟩) 1 1]).run prog (wr.alloc (.cells #[.int .i64 z] 3))= .ok (.slice (some ⟨g',0,none⟩) (zs.length+1) cap') W'/\Fr w N n (.slice (some ⟨g',0,none⟩) (zs.length+1) cap') (zs++[z]) st W':=by
 obtain ⟨g',cap',W',hrun,h6,t,hat⟩:=h.far.push1 elemN h.below.size z (by omega) 22;have hb:(Value.slice (some ⟨g',0,none⟩) (zs.length+1) cap').ownBlock=some g':=rfl;have hg:=h6.lt hb;refine ⟨g',cap',W',hrun,h.net.beside t (fun x hx=>?_) (fun x hx ho=>⟨ho.1,fun e=>?_⟩) (fun x hx=>⟨Nat.le_trans h.below.size (Nat.le_trans t.size hx),fun e=>?_⟩),h6,own_below h.far h.below h.below.size t⟩
 ·have hx':v.ownBlock=some x:=by simpa using hx
  obtain ⟨C,hC⟩:=h.far.blk hx';exact ⟨fun ho=>ho.2 hx',_,C,by decide,hC⟩
 ·rw [hb] at e
  injection e with e;rcases hat with h|h
  ·exact ho.2 (by rw [h,e])
  ·omega
 ·rw [hb] at e
  injection e with e;omega
theorem Fr.first {O:Nat->Prop} {w0:World} (h:Bo O w0 wr N n st []) (hO:∀ x,O x->w.heap.size<=x) (hb:Below w.heap.size w wr) (z:Int):
  Fr w N n (.slice (some ⟨wr.heap.size,0,none⟩) 1 1) [z] st (wr.alloc (.cells #[.int .i64 z] 3)):=by
 have hbn:=aa0 wr (.cells #[.int .i64 z] 3);have hsz:=aa1 wr (.cells #[.int .i64 z] 3);refine ⟨h.beside (.of_below [] hbn) (fun x hx=>by cases hx) (fun x hx ho=>⟨hO x ho,fun e=>?_⟩) (fun x hx=>⟨by have:=hb.size; omega,fun e=>?_⟩),⟨rfl,.inr ⟨wr.heap.size,1,#[.int .i64 z],rfl,hb.size,Blk.new wr _ _,Nat.le_refl _,by unfold maxLen; omega,rfl,rfl⟩⟩,hb.trans (hbn.mono hb.size)⟩
 ·have e':some wr.heap.size=some x:=e
  injection e' with e';omega
 ·have e':some wr.heap.size=some x:=e
  injection e' with e';omega
theorem Fr.at_ {p:Option Addr} {m c:Nat} (h:Fr w N n (.slice p m c) zs st wr) {i:Nat} (hi:i<zs.length):m=zs.length/\∃ g,p=some ⟨g,0,none⟩/\m<=c/\wr.cell? ⟨g,i,none⟩=some (.int .i64 zs[i]):=by
 obtain ⟨g,cap,e,hle,-,hat⟩:=Ol.at_ (k:=1) (fun _=>rfl) h.far hi;injection e with e1 e2 e3;subst e1 e2 e3;have:=hat 0 (by omega);rw [Nat.mul_one,Nat.add_zero] at this;exact ⟨rfl,g,rfl,hle,this⟩
structure Ft (w:World) (N n:Nat) (L:List Nat) (st:Nat->Sv) (wr:World):Prop where
 net:Bo (fun x=>w.heap.size<=x/\x∉L) wr wr N n st []
 lt:∀ x,x∈L->x<wr.heap.size
 below:Below w.heap.size w wr
theorem Fr.ft {p:Option Addr} {m c:Nat} (h:Fr w N n (.slice p m c) zs st wr) {g:Nat} (hp:p=some ⟨g,0,none⟩) (o:Obj):Ft w N n [g,wr.heap.size] st (wr.alloc o):=by
 have hbn:=aa0 wr o;have hsz:=aa1 wr o;have hg:g<wr.heap.size:=(h.far.lt (b:=g) (by rw [hp]; rfl)).1;refine ⟨h.net.beside (.of_below [] hbn) (fun x hx=>by cases hx) (fun x hx ho=>⟨ho.1,fun e=>?_⟩) (fun x hx=>⟨by have:=h.below.size; omega,fun e=>?_⟩),fun x hx=>?_,h.below.trans (hbn.mono h.below.size)⟩
 ·simp only [List.mem_cons,List.not_mem_nil,or_false] at e
  rcases e with rfl|rfl
  ·exact ho.2 (by rw [hp]; rfl)
  ·omega
 ·simp only [List.mem_cons,List.not_mem_nil,or_false] at e
  omega
 ·simp only [List.mem_cons,List.not_mem_nil,or_false] at hx
  omega
theorem Ft.held {L:List Nat} (h:Ft w N n L st wr) (hb:Below wr.heap.size wr w1):Ft w N n L st w1:=⟨(h.net.held hb).here',fun x hx=>Nat.lt_of_lt_of_le (h.lt x hx) hb.size,h.below.trans (hb.mono h.below.size)⟩
theorem Ft.call {L:List Nat} (h:Ft w N n L st wr) {f:Nat} {args:Array Value} {r:Ending} {S:(Nat->Sv)->Prop}
  (hs:∀ O w0,Bo O w0 wr N n st []->Calls prog f args wr fun e w'=>e=r/\∃ st',S st'/\Bo O w0 w' N n st' []):
  Calls prog f args wr fun e w'=>e=r/\∃ st',S st'/\Ft w N n L st' w'/\∀ x,x∈L->w'.heap[x]?=wr.heap[x]?:=by
 refine (hs _ _ h.net).mono ?_;rintro e w' ⟨rfl,st',hS,hN'⟩;have T:=hN'.tu;have hB':Below w.heap.size w w':=h.below.trans ⟨T.os,T.tape,T.output,T.size,fun i hi=>T.block i (Nat.lt_of_lt_of_le hi h.below.size) (fun ho=>by have:=ho.1; omega)⟩;exact ⟨rfl,st',hS,⟨hN'.here',fun x hx=>Nat.lt_of_lt_of_le (h.lt x hx) T.size,hB'⟩,fun x hx=>T.block x (h.lt x hx) (fun ho=>ho.2 hx)⟩
end
end
end Go.Proofs.YtlklghedfaeepaaGreat
