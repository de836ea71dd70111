import Derived.Test.YtafkfnodcemefaaGreatB29
import Derived.Test.YtafkfnodcemefaaGreatB30
set_option maxHeartbeats 8000000
set_option maxRecDepth 100000
namespace Go.Proofs.YtafkfnodcemefaaGreat
open _root_.Go.Proofs.Tryz (prog)
section
open Go.RowKit Go.Maps Rm
attribute [local go_sem] Oper.semAt_some
section
variable {w:World} {N MB n:Nat} {ms:Nat->Ma} {v:Value}
end
end
section
open Go.RowKit Go.Maps Rm
structure Rv where
 room:Nat
 sp:Nat
 M:Mr
structure Sv where
 d:Nat
 r:Option Rv
 c:Nat->Int
 z:Dz
def Ma.sv (m:Ma):Sv:=⟨m.d,m.r.map fun x=>⟨x.room,x.sp,x.M⟩,m.c,m.z⟩
abbrev Dg:=Nat×Nat×List Nat
section
variable {w0 w w':World} {N n:Nat} {st:Nat->Sv} {os:List Dg}
def mrB (id d:Nat) (sm:Sm) (c:Nat->Int):Mr:=lks c 8 (mr1 id d sm)
end
end
section
open Go.RowKit Go.Maps Rm Fm Sb
section
variable {w0 w w':World} {N n:Nat} {st:Nat->Sv} {os:List Dg}
end
def Mo1 (p:Pk) (d id:Nat) (c:Nat->Int) (now:Int) (seq:Nat) (since:Int) (lease:Nat):Mr:=⟨id,⟨lease,fun q=>if q=p then some true else none,fun _=>none⟩,fun _=>none,c,now,seq,since,d⟩
def Ms (d id:Nat) (c:Nat->Int) (f:Ways) (now:Int):Mr:=⟨id,sm0,f,c,now,0,0,d⟩
theorem ak9 (dead:Rk->Bool):lessF (fun _=>none) dead=fun _=>none:=by
 funext k;unfold lessF;split<;>rfl
section
variable {p:Pk} {d id:Nat} {c:Nat->Int} {now:Int} {seq:Nat} {since:Int} {lease:Nat}
theorem Mo1.owns_ten:(Mo1 p d id c now seq since lease).owns ⟨p.a,p.n⟩=true:=by unfold Mr.owns Mo1; simp
theorem Mo1.any (hp:p.ok):(Mo1 p d id c now seq since lease).ownsAny:=⟨p,hp,by simp [Mo1]⟩
theorem Mo1.aged:(Mo1 p d id c now seq since lease).aged=Mo1 p d id c (now+1) seq since lease:=by
 unfold Mr.aged Mo1;simp only [ak9]
theorem Mo1.subj (hp:p.ok) {rs:List En} (h:Subj (Mo1 p d id c now seq since lease) rs):rs=[⟨p.a,p.n,true⟩]:=by
 refine h.one (a:=p.a) (len:=p.n) (fun q=>⟨fun ha=>?_,fun e=>?_⟩) (fun q ⟨fr,_,hw⟩=>by cases hw)
 ·rcases ha with ⟨_,h⟩|⟨_,_,h⟩
  ·by_cases e:q=p
   ·exact e
   ·simp [Mo1,e] at h
  ·cases h
 ·subst e
  exact .inl ⟨hp,by simp [Mo1]⟩
theorem Mo1.tell (hs:seq≠0):(Mo1 p d id c now seq since lease).tellS [⟨p.a,p.n,true⟩]=([⟨p.a,p.n,id,seq,0⟩],Mo1 p d id c now seq since lease):=by
 have h1:=Mr.tell1_own (M:=Mo1 p d id c now seq since lease) (e:=⟨p.a,p.n,true⟩) Mo1.owns_ten;simp only [Mr.tellS,h1,List.append_nil];rw [if_neg (show ¬ (Mo1 p d id c now seq since lease).seq=0 from hs)];rfl
theorem Mo1.next_big (h:seq≠0/\now - since<12):(Mo1 p d id c now seq since lease).advance=Mo1 p d id c now seq since lease:=by unfold Mr.advance; rw [if_pos (show ((Mo1 p d id c now seq since lease).seq≠0/\(Mo1 p d id c now seq since lease).now - (Mo1 p d id c now seq since lease).since<12) from h)]
theorem Mo1.advance_to {nx:Nat} (h:¬ (seq≠0/\now - since<12)) (hn:(if seq=0 then lease+1 else seq+1)=nx) (hb:nx+7<=1073741824):(Mo1 p d id c now seq since lease).advance=Mo1 p d id c now nx now (if nx<=lease then lease else max lease (nx+7)):=by
 have e:(Mo1 p d id c now seq since lease).next=nx:=hn;unfold Mr.advance;rw [if_neg (show ¬ ((Mo1 p d id c now seq since lease).seq≠0/\(Mo1 p d id c now seq since lease).now - (Mo1 p d id c now seq since lease).since<12) from h),e,if_pos G];unfold Mr.leased;by_cases hl:nx<=lease
 ·rw [if_pos (show nx<=(Mo1 p d id c now seq since lease).sm.lease from hl),if_pos hl]
  rfl
 ·rw [if_neg (show ¬ nx<=(Mo1 p d id c now seq since lease).sm.lease from hl),if_neg hl,show min (nx+7) 1073741824=nx+7 by omega]
  rfl
end
theorem cu8 (d id:Nat) (c:Nat->Int) (now:Int) (k:Nat) (z:Int):(Ms d id c (fun _=>none) now).link k z=Ms d id (fun i=>if i=k then z else c i) (fun _=>none) now:=by
 unfold Mr.link;split
 ·unfold Ms Mr.setCost
  simp only [ak9]
 ·rfl
theorem own_ms (p:Pk) (d id:Nat) (c:Nat->Int) (now:Int):({ Ms d id c (fun _=>none) now with sm:=app (Ms d id c (fun _=>none) now).sm ⟨2,0,0,0,p.a,p.n,true,0,0⟩ }:Mr)=Mo1 p d id c now 0 0 0:=by
 unfold Ms Mo1;congr 1
theorem Ms.subj {d id:Nat} {c:Nat->Int} {now:Int} {rs:List En} (h:Subj (Ms d id c (fun _=>none) now) rs):rs=[]:=
 h.none (fun p ha=>by
  rcases ha with ⟨_,h⟩|⟨_,_,h⟩
  ·cases h
  ·cases h) (fun p ⟨_,_,h⟩=>by cases h)
theorem cb3 {u:T.Tm.Up} (h:T.Tm.right u=true):T.Tm.encode [u]=[T.Tm.page (T.Tm.parts u 0)]:=by
 have hl:=T.Tm.bd9 h 0;unfold T.Tm.encode;rw [T.ct5 h (by simp; omega)];rw [T.Tm.pages];have:=T.Tm.cq7 u 0;simp [this]
theorem decode_one {u:T.Tm.Up} (h:T.Tm.right u=true) (hf:u.Fits):T.Tm.decode (T.Tm.page (T.Tm.parts u 0))=some [u]:=by
 have hl:=T.Tm.bd9 h 0;rw [T.Tm.decode_page G];have:=T.Tm.walk_parts h hf 0 [];rw [List.append_nil] at this;rw [this,T.Tm.walk_nil];rfl
theorem cb4:T.Tm.encode []=[]:=by
 unfold T.Tm.encode;rw [T.Tm.pages];rfl
theorem ce3 (c:Nat->Int) (k:Nat):sends c [] k=[]:=by simp [sends]
section
variable {d id:Nat} {c:Nat->Int} {now:Int}
theorem Ms.ticks {M2:Mr} (h:Ticks (Ms d id c (fun _=>none) now) M2):M2=Ms d id c (fun _=>none) (now+1):=by
 rcases h with ⟨⟨p,-,hp⟩,-⟩|⟨-,rfl⟩
 ·cases hp
 ·unfold Mr.aged Ms
  simp only [ak9]
end
theorem ch6 (id d:Nat) (sm:Sm) (c:Nat->Int):∀ k,lks c k (mr1 id d sm)=⟨id,sm,fun _=>none,fun i=>if i<k then c i else 0,0,0,0,d⟩
 |0=>by simp [lks,mr1]
 |k+1=>by
  have e:(fun i=>if i=k then c k else if i<k then c i else 0)=fun i=>if i<k+1 then c i else 0:=by
   funext i;by_cases h:i=k
   ·subst h; simp
   ·by_cases h2:i<k
    ·rw [if_neg h,if_pos h2,if_pos G]
    ·rw [if_neg h,if_neg h2,if_neg G]
  show (lks c k (mr1 id d sm)).link k (c k)=_;rw [ch6 id d sm c k];unfold Mr.link;split
  ·unfold Mr.setCost
   simp only [ak9,e]
  ·unfold Mr.setCost
   simp only [e]
theorem mrB_ms (id d:Nat) (c:Nat->Int):mrB id d sm0 c=Ms d id (fun i=>if i<8 then c i else 0) (fun _=>none) 0:=ch6 id d sm0 c 8
section
variable {w0 w w':World} {N n:Nat} {st:Nat->Sv} {os:List Dg}
end
end
section
open Go.RowKit Go.Maps Rm
attribute [local go_sem] Oper.semAt_some
section
variable {w:World} {N MB n:Nat} {ms:Nat->Ma} {v:Value} {xs:List Pe} {os:List Dg}
end
section
variable {w0 w w':World} {N n:Nat} {st:Nat->Sv} {os:List Dg}
end
end
section
open Go.RowKit Go.Maps Rm Fm Sb
structure Tu (O:Nat->Prop) (w0 w:World):Prop where
 os:w.os=w0.os
 tape:w.tape=w0.tape
 output:w.output=w0.output
 size:w0.heap.size<=w.heap.size
 block:∀ i,i<w0.heap.size->¬ O i->w.heap[i]?=w0.heap[i]?
 wide:∀ x,w.heap.size<=x->O x
theorem Tu.step {O:Nat->Prop} {L:List Nat} {w0 w w':World} (h:Tu O w0 w) (t:Turn L w w') (hL:∀ y,y∈L->O y):Tu O w0 w':=
 ⟨t.os.trans h.os,t.tape.trans h.tape,t.output.trans h.output,Nat.le_trans h.size t.size,fun i hi hn=>(t.block i (Nat.lt_of_lt_of_le hi h.size) (fun hm=>hn (hL i hm))).trans (h.block i hi hn),fun x hx=>h.wide x (Nat.le_trans t.size hx)⟩
theorem Tu.held {O:Nat->Prop} {w0 w w':World} (h:Tu O w0 w) (hb:Below w.heap.size w w'):Tu O w0 w':=h.step (.of_below [] hb) (fun y hy=>by cases hy)
theorem Tu.refl {O:Nat->Prop} {w:World} (h:∀ x,w.heap.size<=x->O x):Tu O w w:=⟨rfl,rfl,rfl,Nat.le_refl _,fun _ _ _=>rfl,h⟩
theorem Tu.below {w0 w:World} (h:Tu (fun x=>w0.heap.size<=x) w0 w):Below w0.heap.size w0 w:=⟨h.os,h.tape,h.output,h.size,fun i hi=>h.block i hi G⟩
theorem Tu.of_below {w0 w:World} (h:Below w0.heap.size w0 w):Tu (fun x=>w0.heap.size<=x) w0 w:=⟨h.os,h.tape,h.output,h.size,fun i hi _=>h.block i hi,fun _ hx=>Nat.le_trans h.size hx⟩
structure Bo (O:Nat->Prop) (w0 w:World) (N n:Nat) (st:Nat->Sv) (os:List Dg):Prop where
 ex:∃ MB ms v xs,Nw w N MB n ms v xs os/\(∀ i,i<n->(ms i).sv=st i)/\O N/\O MB/\(∀ i,i<n->∀ x,x∈(ms i).F->O x)/\(∀ x,v.ownBlock=some x->O x)/\Tu O w0 w/\os.length<=256
section
variable {O:Nat->Prop} {w0 w w':World} {N n:Nat} {st:Nat->Sv} {os:List Dg}
end
section
variable {O O':Nat->Prop} {w0 w w':World} {N n:Nat} {st:Nat->Sv} {os:List Dg}
end
end
section
open Go.RowKit
attribute [local go_sem] Oper.semAt_some
theorem cg9 (i:Nat) (hi:i<=7) (w:World):Q 22 #[I i,I 0] w (Rr0 w (.agg #[U ((167772160+i*65536:Nat):Int),I 16])):=by
 obtain ⟨hb,PB⟩:=nw w 28 #[U 0,I 0];have c0:=PB.at_ 0;have c1:=PB.at_ 1;have f0:=PB.free 0;have f1:=PB.free 1;have hi2:i=0\/i=1\/i=2\/i=3\/i=4\/i=5\/i=6\/i=7:=G
 have e0:bits .and .i64 0 3=0:=by decide+kernel
 clear PB hi;rcases hi2 with rfl|rfl|rfl|rfl|rfl|rfl|rfl|rfl
 all_goals
  go_enter Tryz.func22,Tryz.ntmps22;go_wp2_with fail
 ·refine bodyPost_ret (v:= .agg #[U ((167772160+0*65536:Nat):Int),I 16]) ?_ rfl ⟨rfl,aa0 _ _⟩
  simp [results,Tryz.results22,go_sem]
 ·refine bodyPost_ret (v:= .agg #[U ((167772160+1*65536:Nat):Int),I 16]) ?_ rfl ⟨rfl,aa0 _ _⟩
  simp [results,Tryz.results22,go_sem]
 ·refine bodyPost_ret (v:= .agg #[U ((167772160+2*65536:Nat):Int),I 16]) ?_ rfl ⟨rfl,aa0 _ _⟩
  simp [results,Tryz.results22,go_sem]
 ·refine bodyPost_ret (v:= .agg #[U ((167772160+3*65536:Nat):Int),I 16]) ?_ rfl ⟨rfl,aa0 _ _⟩
  simp [results,Tryz.results22,go_sem]
 ·refine bodyPost_ret (v:= .agg #[U ((167772160+4*65536:Nat):Int),I 16]) ?_ rfl ⟨rfl,aa0 _ _⟩
  simp [results,Tryz.results22,go_sem]
 ·refine bodyPost_ret (v:= .agg #[U ((167772160+5*65536:Nat):Int),I 16]) ?_ rfl ⟨rfl,aa0 _ _⟩
  simp [results,Tryz.results22,go_sem]
 ·refine bodyPost_ret (v:= .agg #[U ((167772160+6*65536:Nat):Int),I 16]) ?_ rfl ⟨rfl,aa0 _ _⟩
  simp [results,Tryz.results22,go_sem]
 ·refine bodyPost_ret (v:= .agg #[U ((167772160+7*65536:Nat):Int),I 16]) ?_ rfl ⟨rfl,aa0 _ _⟩
  simp [results,Tryz.results22,go_sem]
end
section
open Go.RowKit Go.Maps Rm Fm Sb
def two (a b:Sv):Nat->Sv:=fun i=>if i=0 then a else b
def pz (i:Nat):Pk:=⟨167772160+i*65536,16⟩
theorem bl6 {i:Nat} (hi:i<=7):(pz i).ok:=⟨by show 167772160+i*65536<4294967296; omega,by show (-9223372036854775808:Int)<=16; decide,by show (16:Int)<=9223372036854775807; decide⟩
theorem ac3 {i:Nat} (hi:i<=7):Am.right (pz i).a (pz i).n=true:=by
 have:i=0\/i=1\/i=2\/i=3\/i=4\/i=5\/i=6\/i=7:=G
 rcases this with rfl|rfl|rfl|rfl|rfl|rfl|rfl|rfl<;>decide+kernel
theorem co3 (id d:Nat):mrB id d sm0 (fun _=>0)=Ms d id (fun _=>0) (fun _=>none) 0:=by
 rw [mrB_ms];congr 1;funext i;simp
section
variable {w0 w:World} {N n:Nat} {st:Nat->Sv} {os:List Dg}
end
def pg (p:Pk) (id s:Nat):List Nat:=T.Tm.page (T.Tm.parts ⟨p.a,p.n,id,s,0⟩ 0)
section
variable {p:Pk} {id s:Nat}
end
section
variable {w0 w:World} {N n:Nat} {st:Nat->Sv} {os:List Dg}
end
end
section
open Go.RowKit Go.Maps Rm Fm Sb
attribute [local go_sem] Oper.semAt_some
def cL (k:Nat) (z:Int):Nat->Int:=fun i=>if i=k then z else 0
theorem by0 {k:Nat} (hk:k<8) {z:Int} (hz:z≠0) (b:List Nat):sends (cL k z) [b] 8=[(k,b)]:=by
 have:k=0\/k=1\/k=2\/k=3\/k=4\/k=5\/k=6\/k=7:=G
 rcases this with rfl|rfl|rfl|rfl|rfl|rfl|rfl|rfl<;>simp [sends,cL,List.range_succ,hz]
theorem Mo1.first {p:Pk} {d id:Nat} {c:Nat->Int} {now:Int}:(Mo1 p d id c now 0 0 0).advance=Mo1 p d id c now 1 now 8:=Mo1.advance_to (nx:=1) sn rfl G
end
section
open Go.RowKit Go.Maps Rm Fm Sb
theorem bz1 {M:Mr} {a:Nat} {n:Int} {fr:Nat} {r:Rt} {v:Int} (hfr:fr<9) (hf:∀ k:Nat,k≠fr->M.f ⟨a,n,k⟩=none) (hr:M.reachF a n fr=some (r,v)):M.pick a n=some r:=by
 have h:∀ k,k≠fr->M.reachF a n k=none:=fun k hk=>by
  unfold Mr.reachF;rw [hf k hk]
 have e:M.openL a n 9=[(r,v)]:=by
  unfold Mr.openL;rw [show List.range 9=[0,1,2,3,4,5,6,7,8] from rfl];have:fr=0\/fr=1\/fr=2\/fr=3\/fr=4\/fr=5\/fr=6\/fr=7\/fr=8:=G
  rcases this with rfl|rfl|rfl|rfl|rfl|rfl|rfl|rfl|rfl<;>
   simp [hr,h 0,h 1,h 2,h 3,h 4,h 5,h 6,h 7,h 8]
 unfold Mr.pick;rw [e];simp [pickL,nearest]
theorem cv0 {d id:Nat} {now':Int} {p:Pk} {k fr s:Nat} {c:Nat->Int} {f:Ways} (hid:k≠id):
  ((Ms d id c f now').hear fr p.a p.n k s 0)=Ms d id c (putR f ⟨p.a,p.n,fr⟩ ⟨fr,k,s,0,now'+3⟩) now':=by
 unfold Mr.hear;have ho:(Ms d id c f now').owns ⟨p.a,p.n⟩=false:=rfl;have h1:¬ ((Ms d id c f now').owns ⟨p.a,p.n⟩=true\/k=(Ms d id c f now').id):=by
  rw [ho];rintro (e|e)
  ·cases e
  ·exact hid e
 rw [if_neg h1,if_neg (by decide)];exact if_pos rfl
end
end Go.Proofs.YtafkfnodcemefaaGreat
