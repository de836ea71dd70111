import Derived.Test.YtlklghedfaeepaaGreatB29
import Derived.Test.YtlklghedfaeepaaGreatB32
set_option maxHeartbeats 8000000
set_option maxRecDepth 100000
namespace Go.Proofs.YtlklghedfaeepaaGreat
open _root_.Go.Proofs.Tryz (prog)
section
open Go.RowKit Go.Maps Rm
attribute [local go_sem] Oper.semAt_some
section
variable {w:World} {N MB n:Nat} {ms:Nat->Ma} {v:Value}
theorem dj1 (h:Nt w N MB n ms v) {i:Nat} (hi:i<n) {d R room sp:Nat} {M:Mr} {F:List Nat} {c:Nat->Int} {z:Dz} (hm:ms i=⟨d,some ⟨R,room+1,sp,M⟩,F,c,z⟩)
  {a:Nat} {len:Int} {on:Bool} {M':Mr} (hd:M'.d=M.d) (HR:∀ W,Rz F W R (room+1) sp M->Calls prog 31 #[.pointer (some ⟨R,0,none⟩),.agg #[.int .u32 a,.int .i64 len],.bool on] W fun e w'=>e= .returned (.int .i64 0)/\Goes F W R room sp M' w'):
  Calls prog 10 #[.pointer (some ⟨N,0,none⟩),.int .i64 i,.agg #[.int .u32 a,.int .i64 len],.bool on] w fun e w'=>∃ F',e= .returned (.int .i64 0)/\Nt w' N MB n (puts ms i ⟨d,some ⟨R,room,sp,M'⟩,F',c,z⟩) v/\Turn F w w'/\(∀ y,y∈F'->y∈F\/w.heap.size<=y):=by
 obtain ⟨hb,PB⟩:=nw w 31 #[.int .u32 a,.int .i64 len];have hsz:=aa1 w (.cells #[.int .u32 a,.int .i64 len] 31);have h1:=h.held hb;have hz:=h1.mas.ok i hi;rw [hm] at hz;have H2:=as3 h1 hi;rw [hm] at H2;replace H2:Calls prog 28 #[.pointer (some ⟨N,0,none⟩),.int .i64 i] (w.alloc (.cells #[.int .u32 a,.int .i64 len] 31)) fun e w'=>e= .returned (.bool true)/\w'=w.alloc (.cells #[.int .u32 a,.int .i64 len] 31):=H2
 have c0:(w.alloc (.cells #[.int .u32 a,.int .i64 len] 31)).cell? ⟨N,0,none⟩=some (.slice (some ⟨MB,0,none⟩) n n):=h1.head.at_ 0;have c1:(w.alloc (.cells #[.int .u32 a,.int .i64 len] 31)).cell? ⟨MB,i*10,none⟩=some (.pointer (some ⟨R,0,none⟩)):=h1.cell hi (j:=0) (by rw [hm]; rfl);have c2:(w.alloc (.cells #[.int .u32 a,.int .i64 len] 31)).cell? ⟨w.heap.size,0,none⟩=some (.int .u32 a):=PB.at_ 0;have c3:(w.alloc (.cells #[.int .u32 a,.int .i64 len] 31)).cell? ⟨w.heap.size,1,none⟩=some (.int .i64 len):=PB.at_ 1;have hin:(i:Int)<(n:Int):=by omega
 have HO:=HR _ ((hz.some rfl).held (Below.refl _ _).drew);have hlt:∀ x,x∈F->x<w.heap.size:=fun x hx=>(h.mas.ok i hi).lt (by rw [hm]; exact hx)
 have hNF:N∉F:=by have:=h.nF i hi; rw [hm] at this; exact this
 have hMF:MB∉F:=by have:=h.mas.mb i hi; rw [hm] at this; exact this
 have X:=H7 h1 hm hb hlt hNF hMF hsz;clear hlt hNF hMF h h1 hm HR hz PB;go_enter Tryz.func10,Tryz.ntmps10;go_wp2_with fail;generalize w.alloc _=w1 at*;refine H2.mono ?_;rintro e w2 ⟨rfl,rfl⟩;go_wp2_with fail;clear H2;refine wp_region_held_drew (S:=fun u=>u.cell? ⟨N,0,none⟩=some (.slice (some ⟨MB,0,none⟩) n n)/\u.cell? ⟨MB,i*10,none⟩=some (.pointer (some ⟨R,0,none⟩))/\u.cell? ⟨w.heap.size,0,none⟩=some (.int .u32 a)/\u.cell? ⟨w.heap.size,1,none⟩=some (.int .i64 len)) (by kernel_rfl) ⟨c0,c1,c2,c3⟩ (fun hHeld=>?_);refine tk 0 (.pointer (some ⟨N,0,none⟩)) rfl hHeld ?_;go_frame;refine tk 1 (.pointer (some ⟨N,0,none⟩)) rfl hHeld ?_;go_frame;refine tk 2 (.pointer (some ⟨N,0,none⟩)) rfl hHeld ?_;go_frame;refine tk 3 (.slice (some ⟨MB,0,none⟩) n n) rfl hHeld ?_;go_frame;refine tk 4 (.int .i64 i) rfl hHeld ?_;go_frame;refine tk 5 (.pointer (some ⟨MB,i*10,none⟩)) rfl hHeld ?_;go_frame;refine tk 6 (.pointer (some ⟨MB,i*10,none⟩)) rfl hHeld ?_;go_frame;refine tk 7 (.pointer (some ⟨R,0,none⟩)) rfl hHeld ?_;go_frame;refine tk 8 (.agg #[.int .u32 a,.int .i64 len]) rfl hHeld ?_;go_frame;refine tk 9 (.bool on) rfl hHeld ?_;go_frame;refine rl 10 rfl fun K hK=>?_
 go_simp;refine HO.mono ?_;rintro e w4 ⟨rfl,hG⟩;obtain ⟨F4,hz4,t4,n4⟩:=hG;have hp4:w.heap.size∉F:=fun hx=>by have:=X.out.2.2.2.1 _ hx; omega
 refine hK.out _ _ ⟨t4.cell c0 X.out.2.2.2.2.1,t4.cell c1 X.out.2.2.2.2.2.1,t4.cell c2 hp4,t4.cell c3 hp4⟩ (fun hHeld=>?_);clear hK K HO c0 c1 c2 c3;obtain ⟨F',g1,g2,g3⟩:=(X.out.1.held (Below.refl _ _).drew).goes hi (m:=⟨d,none,[],c,z⟩) (x:=⟨R,room+1,sp,M⟩) (F:=F) (by rw [X.out.2.1]; rfl) ⟨F4,hz4,t4,n4⟩ hd;have G:=H3 g1 g2 g3;clear hz4 t4 n4 g1 g2 g3;refine tk 11 (.int .i64 0) rfl hHeld ?_;go_frame;refine wpAnyH_done (by kernel_rfl) ?_ _;try go_frame
 clear hHeld;go_wp2_with fail;go_ret;have hbd:=X.out.2.2.1.trans ((Below.refl _ _).drew.mono X.out.2.2.1.size);refine ⟨rfl,F',G.out.1,(Turn.of_below _ hbd).trans G.out.2.1,fun y hy=>(G.out.2.2 y hy).imp id (Nat.le_trans hbd.size)⟩
theorem dc0 (h:Nt w N MB n ms v) {i:Nat} (hi:i<n) {d R room sp:Nat} {M:Mr} {F:List Nat} {c:Nat->Int} {z:Dz} (hm:ms i=⟨d,some ⟨R,room+1,sp,M⟩,F,c,z⟩)
  {a:Nat} {len:Int} (hp:Pk.ok ⟨a,len⟩) (hright:Am.right a len=true) (hrt:right ⟨2,0,0,0,a,len,true,0,0⟩=true) (hn:M.sm.own ⟨a,len⟩=none)
  (hfew:∀ xs:List Pk,xs.Pairwise ltP->(∀ x,x∈xs↔x.ok/\(M.sm.own x).isSome=true)->xs.length<16):
  Calls prog 10 #[.pointer (some ⟨N,0,none⟩),.int .i64 i,.agg #[.int .u32 a,.int .i64 len],.bool true] w fun e w'=>∃ F',e= .returned (.int .i64 0)/\Nt w' N MB n (puts ms i ⟨d,some ⟨R,room,sp,{ M with sm:=app M.sm ⟨2,0,0,0,a,len,true,0,0⟩ }⟩,F',c,z⟩) v/\Turn F w w'/\(∀ y,y∈F'->y∈F\/w.heap.size<=y):=
 dj1 h hi hm rfl fun _ hz=>dr0 hz hp hright hrt hn hfew
end
end
section
open Go.RowKit Go.Maps Rm
variable {m:Ma}{d:Nat}{z:Dz}
structure Rv where
 room:Nat
 sp:Nat
 M:Mr
structure Sv where
 d:Nat
 r:Option Rv
 c:Nat->Int
 z:Dz
def Ma.sv (m:Ma):Sv:=⟨m.d,m.r.map fun x=>⟨x.room,x.sp,x.M⟩,m.c,m.z⟩
theorem Ma.sv_none {c:Nat->Int} (h:m.sv=⟨d,none,c,z⟩):m=⟨d,none,m.F,c,z⟩:=by
 obtain ⟨d',r,F,c',z'⟩:=m;unfold Ma.sv at h;simp only [Sv.mk.injEq,Option.map_eq_none_iff] at h;obtain ⟨rfl,rfl,rfl,rfl⟩:=h;rfl
theorem Ma.sv_some {room sp:Nat} {M:Mr} {c:Nat->Int} (h:m.sv=⟨d,some ⟨room,sp,M⟩,c,z⟩):∃ R,m=⟨d,some ⟨R,room,sp,M⟩,m.F,c,z⟩:=by
 obtain ⟨d',r,F,c',z'⟩:=m;unfold Ma.sv at h;simp only [Sv.mk.injEq,Option.map_eq_some_iff] at h;obtain ⟨rfl,⟨⟨R,a,b,e⟩,rfl,h2⟩,rfl,rfl⟩:=h;simp only [Rv.mk.injEq] at h2;obtain ⟨rfl,rfl,rfl⟩:=h2;exact ⟨R,rfl⟩
def sets (st:Nat->Sv) (i:Nat) (s:Sv):Nat->Sv:=fun k=>if k=i then s else st k
theorem ab5 (st:Nat->Sv) (i:Nat) (s:Sv):sets st i s i=s:=by simp [sets]
theorem ab1 {st:Nat->Sv} {i k:Nat} (h:k≠i) (s:Sv):sets st i s k=st k:=by simp [sets,h]
abbrev Dg:=Nat×Nat×List Nat
structure Bn (w0 w:World) (N n:Nat) (st:Nat->Sv) (os:List Dg):Prop where
 ex:∃ MB ms v xs,Nw w N MB n ms v xs os/\(∀ i,i<n->(ms i).sv=st i)/\w0.heap.size<=N/\w0.heap.size<=MB/\(∀ i,i<n->∀ x,x∈(ms i).F->w0.heap.size<=x)/\(∀ x,v.ownBlock=some x->w0.heap.size<=x)/\Below w0.heap.size w0 w/\os.length<=256
section
variable {w0 w w':World} {N n:Nat} {st:Nat->Sv} {os:List Dg}
theorem Bn.below (h:Bn w0 w N n st os):Below w0.heap.size w0 w:=by
 obtain ⟨MB,ms,v,xs,hW,hst,b1,b2,b3,b4,hB,hl⟩:=h.ex;exact hB
theorem Bn.len (h:Bn w0 w N n st os):os.length<=256:=by
 obtain ⟨MB,ms,v,xs,hW,hst,b1,b2,b3,b4,hB,hl⟩:=h.ex;exact hl
theorem Bn.held (h:Bn w0 w N n st os) (hb:Below w.heap.size w w'):Bn w0 w' N n st os:=by
 obtain ⟨MB,ms,v,xs,hW,hst,b1,b2,b3,b4,hB,hl⟩:=h.ex;exact ⟨MB,ms,v,xs,hW.held hb,hst,b1,b2,b3,b4,hB.trans (hb.mono hB.size),hl⟩
theorem Bn.one {MB:Nat} {ms:Nat->Ma} {v:Value} {xs:List Pe} (hW:Nw w N MB n ms v xs os) (hst:∀ i,i<n->(ms i).sv=st i) (b1:w0.heap.size<=N) (b2:w0.heap.size<=MB) (b3:∀ i,i<n->∀ x,x∈(ms i).F->w0.heap.size<=x) (b4:∀ x,v.ownBlock=some x->w0.heap.size<=x) (hB:Below w0.heap.size w0 w) (hl:os.length<=256)
  {i:Nat} (hi:i<n) {m:Ma} {s:Sv} (hs:m.sv=s) (hN:Nt w' N MB n (puts ms i m) v) (t:Turn (MB::(ms i).F) w w') (hF:∀ y,y∈m.F->y∈(ms i).F\/w.heap.size<=y):Bn w0 w' N n (sets st i s) os:=by
 refine ⟨MB,puts ms i m,v,xs,hW.one hi hN t (fun x hx=>by simpa using hx) hF,fun k hk=>?_,b1,b2,fun k hk x hx=>?_,b4,hB.trans (t.below (fun y hy=>?_) hB.size),hl⟩
 ·by_cases e:k=i
  ·subst e; rw [aa3,ab5]; exact hs
  ·rw [aa2 e,ab1 e]; exact hst k hk
 ·by_cases e:k=i
  ·subst e
   rw [aa3] at hx;rcases hF x hx with e2|e2
   ·exact b3 k hk x e2
   ·exact Nat.le_trans hB.size e2
  ·rw [aa2 e] at hx; exact b3 k hk x hx
 ·rcases List.mem_cons.1 hy with e|e
  ·rw [e]; exact b2
  ·exact b3 i hi y e
def mrB (id d:Nat) (sm:Sm) (c:Nat->Int):Mr:=lks c 8 (mr1 id d sm)
end
end
section
open Go.RowKit Go.Maps Rm Fm Sb
variable {d id:Nat}{now:Int}{u:T.Tm.Up}
section
variable {w0 w w':World} {N n:Nat} {st:Nat->Sv} {os:List Dg}
theorem Bn.fewer {MB:Nat} {ms:Nat->Ma} {v v':Value} {xs':List Pe} {os':List Dg} (hst:∀ i,i<n->(ms i).sv=st i) (b1:w0.heap.size<=N) (b2:w0.heap.size<=MB) (b3:∀ i,i<n->∀ x,x∈(ms i).F->w0.heap.size<=x) (b4:∀ x,v.ownBlock=some x->w0.heap.size<=x) (hB:Below w0.heap.size w0 w)
  (hW:Nw w' N MB n ms v' xs' os') (t:Turn (N::v.ownBlock.toList) w w') (hv:v'.ownBlock=v.ownBlock) (hl:os'.length<=256):Bn w0 w' N n st os':=by
 refine ⟨MB,ms,v',xs',hW,hst,b1,b2,b3,fun x hx=>b4 x (by rw [<- hv]; exact hx),hB.trans (t.below (fun y hy=>?_) hB.size),hl⟩;rcases List.mem_cons.1 hy with e|e
 ·rw [e]; exact b1
 ·exact b4 y (by simpa using e)
end
def Mo1 (p:Pk) (d id:Nat) (c:Nat->Int) (now:Int) (seq:Nat) (since:Int) (lease:Nat):Mr:=⟨id,⟨lease,fun q=>if q=p then some true else none,fun _=>none⟩,fun _=>none,c,now,seq,since,d⟩
def Ms (d id:Nat) (c:Nat->Int) (f:Ways) (now:Int):Mr:=⟨id,sm0,f,c,now,0,0,d⟩
theorem ak9 (dead:Rk->Bool):lessF (fun _=>none) dead=fun _=>none:=by
 funext k;unfold lessF;split<;>rfl
section
variable {p:Pk} {d id:Nat} {c:Nat->Int} {now:Int} {seq:Nat} {since:Int} {lease:Nat}
theorem Mo1.owns_ten:(Mo1 p d id c now seq since lease).owns ⟨p.a,p.n⟩=true:=by unfold Mr.owns Mo1; simp
theorem Mo1.good:(Mo1 p d id c now seq since lease).Good:=fun k r h=>by cases h
theorem Mo1.few:Few (Mo1 p d id c now seq since lease) 1 0:=⟨[p],[],[],by simp,by simp,fun q h=>by
 by_cases e:q=p
 ·simp [e]
 ·simp [Mo1,e] at h,fun k h=>by simp [Mo1] at h,fun k h=>by simp [Mo1] at h⟩
theorem Mo1.any (hp:p.ok):(Mo1 p d id c now seq since lease).ownsAny:=⟨p,hp,by simp [Mo1]⟩
theorem Mo1.aged:(Mo1 p d id c now seq since lease).aged=Mo1 p d id c (now+1) seq since lease:=by
 unfold Mr.aged Mo1;simp only [ak9]
theorem Mo1.subj (hp:p.ok) {rs:List En} (h:Subj (Mo1 p d id c now seq since lease) rs):rs=[⟨p.a,p.n,true⟩]:=by
 refine h.one (a:=p.a) (len:=p.n) (fun q=>⟨fun ha=>?_,fun e=>?_⟩) (fun q ⟨fr,_,hw⟩=>by cases hw)
 ·rcases ha with ⟨_,h⟩|⟨_,_,h⟩
  ·by_cases e:q=p
   ·exact e
   ·simp [Mo1,e] at h
  ·cases h
 ·subst e
  exact .inl ⟨hp,by simp [Mo1]⟩
theorem Mo1.tell (hs:seq≠0):(Mo1 p d id c now seq since lease).tellS [⟨p.a,p.n,true⟩]=([⟨p.a,p.n,id,seq,0⟩],Mo1 p d id c now seq since lease):=by
 have h1:=Mr.tell1_own (M:=Mo1 p d id c now seq since lease) (e:=⟨p.a,p.n,true⟩) Mo1.owns_ten;simp only [Mr.tellS,h1,List.append_nil];rw [if_neg (show ¬ (Mo1 p d id c now seq since lease).seq=0 from hs)];rfl
theorem Mo1.need:(Mo1 p d id c now seq since lease).needS [⟨p.a,p.n,true⟩]=0:=by
 simp only [Mr.needS,Nat.add_zero];exact Mr.need_own Mo1.owns_ten
theorem Mo1.next_big (h:seq≠0/\now - since<12):(Mo1 p d id c now seq since lease).advance=Mo1 p d id c now seq since lease:=by unfold Mr.advance; rw [if_pos (show ((Mo1 p d id c now seq since lease).seq≠0/\(Mo1 p d id c now seq since lease).now - (Mo1 p d id c now seq since lease).since<12) from h)]
theorem Mo1.advance_to {nx:Nat} (h:¬ (seq≠0/\now - since<12)) (hn:(if seq=0 then lease+1 else seq+1)=nx) (hb:nx+7<=1073741824):(Mo1 p d id c now seq since lease).advance=Mo1 p d id c now nx now (if nx<=lease then lease else max lease (nx+7)):=by
 have e:(Mo1 p d id c now seq since lease).next=nx:=hn;unfold Mr.advance;rw [if_neg (show ¬ ((Mo1 p d id c now seq since lease).seq≠0/\(Mo1 p d id c now seq since lease).now - (Mo1 p d id c now seq since lease).since<12) from h),e,if_pos (by omega)];unfold Mr.leased;by_cases hl:nx<=lease
 ·rw [if_pos (show nx<=(Mo1 p d id c now seq since lease).sm.lease from hl),if_pos hl]
  rfl
 ·rw [if_neg (show ¬ nx<=(Mo1 p d id c now seq since lease).sm.lease from hl),if_neg hl,show min (nx+7) 1073741824=nx+7 by omega]
  rfl
theorem Mo1.advN_zero (h:seq≠0/\now - since<12):(Mo1 p d id c now seq since lease).advN=0:=by unfold Mr.advN; rw [if_pos (show ((Mo1 p d id c now seq since lease).seq≠0/\(Mo1 p d id c now seq since lease).now - (Mo1 p d id c now seq since lease).since<12) from h)]
end
theorem aq5 (d id:Nat) (c:Nat->Int) (now:Int) (k:Nat) (z:Int):(Ms d id c (fun _=>none) now).link k z=Ms d id (fun i=>if i=k then z else c i) (fun _=>none) now:=by
 unfold Mr.link;split
 ·unfold Ms Mr.setCost
  simp only [ak9]
 ·rfl
theorem own_ms (p:Pk) (d id:Nat) (c:Nat->Int) (now:Int):({ Ms d id c (fun _=>none) now with sm:=app (Ms d id c (fun _=>none) now).sm ⟨2,0,0,0,p.a,p.n,true,0,0⟩ }:Mr)=Mo1 p d id c now 0 0 0:=by
 unfold Ms Mo1;congr 1
theorem Ms.subj {c:Nat->Int} {rs:List En} (h:Subj (Ms d id c (fun _=>none) now) rs):rs=[]:=
 h.none (fun p ha=>by
  rcases ha with ⟨_,h⟩|⟨_,_,h⟩
  ·cases h
  ·cases h) (fun p ⟨_,_,h⟩=>by cases h)
theorem Ms.few {c:Nat->Int} :Few (Ms d id c (fun _=>none) now) 0 0:=⟨[],[],[],by simp,by simp,(fun p h=>by simp [Ms,sm0] at h),(fun k h=>by simp [Ms,sm0] at h),(fun k h=>by simp [Ms] at h)⟩
theorem bz1 (h:T.Tm.right u=true):T.Tm.encode [u]=[T.Tm.page (T.Tm.parts u 0)]:=by
 have hl:=T.Tm.parts_le h 0;unfold T.Tm.encode;rw [T.pages_on h (by simp; omega)];rw [T.Tm.pages];have:=T.Tm.parts_ne u 0;simp [this]
theorem decode_one (h:T.Tm.right u=true) (hf:u.Fits):T.Tm.decode (T.Tm.page (T.Tm.parts u 0))=some [u]:=by
 have hl:=T.Tm.parts_le h 0;rw [T.Tm.decode_page (by omega)];have:=T.Tm.walk_parts h hf 0 [];rw [List.append_nil] at this;rw [this,T.Tm.walk_nil];rfl
theorem cg7 {p:Pk} (hp:Am.right p.a p.n=true) {i s:Nat} (hi:i≠0) (hs:s<=1073741824):T.Tm.right ⟨p.a,p.n,i,s,0⟩=true:=by
 unfold T.Tm.right;simp [hi,hs,hp]
theorem bz2:T.Tm.encode []=[]:=by
 unfold T.Tm.encode;rw [T.Tm.pages];rfl
theorem cd5 (c:Nat->Int) (k:Nat):sends c [] k=[]:=by simp [sends]
theorem Mr.advN_le1 (M:Mr):M.advN<=1:=by
 unfold Mr.advN
 (repeat' split)<;>omega
section
variable {d id:Nat} {c:Nat->Int} {now:Int}
theorem Ms.ticks {M2:Mr} (h:Ticks (Ms d id c (fun _=>none) now) M2):M2=Ms d id c (fun _=>none) (now+1):=by
 rcases h with ⟨⟨p,-,hp⟩,-⟩|⟨-,rfl⟩
 ·cases hp
 ·unfold Mr.aged Ms
  simp only [ak9]
theorem Ms.good:(Ms d id c (fun _=>none) now).Good:=fun k r h=>by cases h
end
theorem bm1 (id d:Nat) (sm:Sm) (c:Nat->Int):∀ k,lks c k (mr1 id d sm)=⟨id,sm,fun _=>none,fun i=>if i<k then c i else 0,0,0,0,d⟩
 |0=>by simp [lks,mr1]
 |k+1=>by
  have e:(fun i=>if i=k then c k else if i<k then c i else 0)=fun i=>if i<k+1 then c i else 0:=by
   funext i;by_cases h:i=k
   ·subst h; simp
   ·by_cases h2:i<k
    ·rw [if_neg h,if_pos h2,if_pos (by omega)]
    ·rw [if_neg h,if_neg h2,if_neg (by omega)]
  show (lks c k (mr1 id d sm)).link k (c k)=_;rw [bm1 id d sm c k];unfold Mr.link;split
  ·unfold Mr.setCost
   simp only [ak9,e]
  ·unfold Mr.setCost
   simp only [e]
theorem mrB_ms (id d:Nat) (c:Nat->Int):mrB id d sm0 c=Ms d id (fun i=>if i<8 then c i else 0) (fun _=>none) 0:=bm1 id d sm0 c 8
section
variable {w0 w w':World} {N n:Nat} {st:Nat->Sv} {os:List Dg}
end
end
section
open Go.RowKit Go.Maps Rm
attribute [local go_sem] Oper.semAt_some
def Ma.dead (m:Ma):Dz:=match m.r with
 |none=>m.z
 |some x=>⟨x.M.id,x.room,x.M.sm⟩
def Sv.dead (s:Sv):Dz:=match s.r with
 |none=>s.z
 |some x=>⟨x.M.id,x.room,x.M.sm⟩
theorem Ma.dead_sv (m:Ma):m.sv.dead=m.dead:=by
 obtain ⟨d,r,F,c,z⟩:=m
 cases r<;>rfl
theorem Ma.ok.lies {w:World} {m:Ma} (h:m.ok w):∃ S Mp rest,m.F=[m.d,S,Mp]++rest/\Lies w m.d S Mp m.dead.id m.dead.room m.dead.sm:=by
 unfold Ma.dead
 cases hr:m.r with
 |none=>
  obtain ⟨S,Mp,e,hl⟩:=h.none hr;exact ⟨S,Mp,[],by simpa using e,hl⟩
 |some x=>
  obtain ⟨S,Mp,rest,e,hl⟩:=(h.some hr).lies;rw [h.disk hr] at e hl;exact ⟨S,Mp,rest,e,hl⟩
section
variable {w:World} {N MB n:Nat} {ms:Nat->Ma} {v:Value} {xs:List Pe} {os:List Dg}
theorem ch6 (h:Nt w N MB n ms v) {i:Nat} (hi:i<n) {A:Option Addr} {ps:List Cr.Pk} {cap:Nat} (hps:Cr.PicksAt w A ps) (hA:∀ ad,A=some ad->ad.block≠MB/\ad.block∉(ms i).F) (hl:ps.length<=cap) (hc:cap<=9223372036854775807):
  Calls prog 114 #[.pointer (some ⟨N,0,none⟩),.int .i64 i,.slice A ps.length cap] w fun e w'=>e= .returned (.int .i64 0)/\∃ S Mp rest,(ms i).F=[(ms i).d,S,Mp]++rest/\Nt w' N MB n (puts ms i ⟨(ms i).d,none,[(ms i).d,S,Mp],(ms i).c,(ms i).dead⟩) v/\Turn (MB::(ms i).F) w w':=by
 have H1:=ag8 h hi;have c0:w.cell? ⟨N,0,none⟩=some (.slice (some ⟨MB,0,none⟩) n n):=h.head.at_ 0;have hin:(i:Int)<(n:Int):=by omega
 have hk:=h.mas.ok i hi;obtain ⟨S,Mp,rest,hF,hLi⟩:=hk.lies;have c1:w.cell? ⟨MB,i*10,none⟩=some (ms i).rv:=h.cell hi (j:=0) rfl;have c2:w.cell? ⟨MB,i*10+1,none⟩=some (.pointer (some ⟨(ms i).d,0,none⟩)):=h.cell hi (j:=1) rfl;have f1:w.frozen? ⟨MB,i*10,none⟩=false:=by
  obtain ⟨C,hC,_⟩:=h.mas.rows;exact hC.free _
 have t1:Turn [MB] w (w.setCell ⟨MB,i*10,none⟩ (.pointer none)):=Turn.setCell w (by simp) _;have hMF:=h.mas.mb i hi;obtain ⟨dn,safe,hD,g1,g2,g3⟩:=hLi.turn t1 (fun x hx=>by
  have:x∈(ms i).F:=by rw [hF]; exact List.mem_append_left _ hx
  simp;exact fun e=>hMF (e ▸ this))
 have hps1:=hps.turn t1 (fun ad e=>by simp; exact (hA ad e).1);have HC:=Cr.crash_any hD A ps cap hps1 (.inr fun ad e hm=>(hA ad e).2 (by rw [hF]; exact List.mem_append_left _ hm)) hl hc;have hcr:Cr.crashed safe (fun _=>none) ps=safe:=by funext k; rfl
 rw [hcr] at HC;obtain ⟨C,hC,hs,hr⟩:=h.mas.rows;have hX:=And.intro (hC.store (i*10) (.pointer none)) (And.intro hs hr);have c2':(w.setCell ⟨MB,i*10,none⟩ (.pointer none)).cell? ⟨MB,i*10+1,none⟩=some (.pointer (some ⟨(ms i).d,0,none⟩)):=by
  rw [hX.1.at_,Array.getElem?_setIfInBounds,if_neg (by omega),<- hC.at_];exact c2
 obtain ⟨dd,hdd⟩:∃ dd,(ms i).d=dd:=⟨_,rfl⟩;rw [hdd] at HC c2 c2';obtain ⟨rv,hrv⟩:∃ rv,(ms i).r.map (fun x=>(⟨x.R,0,none⟩:Addr))=rv:=⟨_,rfl⟩;have c1':w.cell? ⟨MB,i*10,none⟩=some (.pointer rv):=by rw [<- hrv]; exact c1
 have X:=H9 h hF g1 g2 g3 hX t1 hdd hMF;clear h hF g1 g2 g3 hX t1 hdd hMF hD hLi hk hps hps1 hA hl hc hcr hC hs hr c1 hrv c2;go_enter Tryz.func114,Tryz.ntmps114;go_wp2_with fail;refine H1.mono ?_;rintro e w2 ⟨rfl,rfl⟩;clear H1;go_wp2_with fail;refine HC.mono ?_;rintro e w3 ⟨rfl,hD3,t3⟩;have R:=H2 hD3 t3;clear HC hD3 t3 c0 c1' c2' f1;go_wp2_with fail;go_ret;obtain ⟨h,hF,g1,g2,g3,⟨hC,hs,hr⟩,t1,hdd,hMF⟩:=X.out;obtain ⟨hD3,t3⟩:=R.out;have hM3:MB∉[dd,S,Mp]:=fun hm=>hMF (by rw [hF,hdd]; exact List.mem_append_left _ hm)
 have tt:Turn (MB::(ms i).F) w2 w3:=(t1.mono fun x hx=>by simp at hx; simp [hx]).trans (t3.mono fun x hx=>List.mem_cons_of_mem _ (by rw [hF,hdd]; exact List.mem_append_left _ hx));refine ⟨rfl,S,Mp,rest,hF,h.by_one hi ⟨_,hC.turn t3 hM3,by rw [Array.size_setIfInBounds,hs],fun k hk2 q x hx=>?_⟩ tt (.of_none rfl (by rw [hdd]) (by rw [hdd]; exact ⟨dn,safe,hD3,g1,g2,by rw [<- hdd]; exact g3⟩)) (fun y hy=> .inl (by rw [hF]; exact List.mem_append_left _ hy)),tt⟩;have hq:q<10:=by
  obtain ⟨h1,_⟩:=List.getElem?_eq_some_iff.1 hx;exact h1
 rw [Array.getElem?_setIfInBounds];by_cases e:k=i
 ·rw [e,aa3] at hx
  by_cases e2:q=0
  ·subst e2
   rw [e,if_pos (by omega),if_pos (by rw [hs]; omega)];exact hx
  ·rw [if_neg (by omega),e]
   refine hr i hi q x ?_;have:q=1\/q=2\/q=3\/q=4\/q=5\/q=6\/q=7\/q=8\/q=9:=by omega
   rcases this with rfl|rfl|rfl|rfl|rfl|rfl|rfl|rfl|rfl<;>exact hx
 ·rw [aa2 e] at hx
  rw [if_neg (by omega)];exact hr k hk2 q x hx
end
section
variable {w0 w w':World} {N n:Nat} {st:Nat->Sv} {os:List Dg}
theorem bn_crash (h:Bn w0 w N n st os) {i:Nat} (hi:i<n) {A:Option Addr} {ps:List Cr.Pk} {cap:Nat} (hps:Cr.PicksAt w A ps) (hA:∀ ad,A=some ad->ad.block<w0.heap.size) (hl:ps.length<=cap) (hc:cap<=9223372036854775807):
  Calls prog 114 #[.pointer (some ⟨N,0,none⟩),.int .i64 i,.slice A ps.length cap] w fun e w'=>e= .returned (.int .i64 0)/\Bn w0 w' N n (sets st i ⟨(st i).d,none,(st i).c,(st i).dead⟩) os:=by
 obtain ⟨MB,ms,v,xs,hW,hst,b1,b2,b3,b4,hB,hl2⟩:=h.ex;refine (ch6 hW.nt hi hps (fun ad e=>⟨fun e2=>by have:=hA ad e; omega,fun hm=>by have:=hA ad e; have:=b3 i hi _ hm; omega⟩) hl hc).mono ?_;rintro e w' ⟨rfl,S,Mp,rest,hF,hN,t⟩;refine ⟨rfl,.one hW hst b1 b2 b3 b4 hB hl2 hi ?_ hN t (fun y hy=> .inl (by rw [hF]; exact List.mem_append_left _ hy))⟩;rw [<- hst i hi,Ma.dead_sv];rfl
theorem dr9 (h:Bn w0 w N n st os) {i:Nat} (hi:i<n) {d:Nat} {x:Rv} {c:Nat->Int} {z:Dz} (hs:st i=⟨d,some x,c,z⟩):Calls prog 7 #[.pointer (some ⟨N,0,none⟩),.int .i64 i] w fun e w'=>e= .returned (.int .i64 3)/\w'=w:=by
 obtain ⟨MB,ms,v,xs,hW,hst,b1,b2,b3,b4,hB,hl⟩:=h.ex;obtain ⟨room,sp,M⟩:=x;obtain ⟨R,hm⟩:=Ma.sv_some ((hst i hi).trans hs);have H1:=ag8 hW.nt hi;have H2:=as3 hW.nt hi;rw [hm] at H2;replace H2:Calls prog 28 #[.pointer (some ⟨N,0,none⟩),.int .i64 i] w fun e w'=>e= .returned (.bool true)/\w'=w:=H2
 clear hm hW hst b1 b2 b3 b4 hB hl h hs;go_enter Tryz.func7,Tryz.ntmps7;go_wp2_with fail;refine H1.mono ?_;rintro e w2 ⟨rfl,rfl⟩;go_wp2_with fail;refine H2.mono ?_;rintro e w2 ⟨rfl,rfl⟩;go_wp2_with fail;go_ret;exact ⟨rfl,rfl⟩
theorem dt7 (h:Bn w0 w N n st os) {i:Nat} (hi:i<n) (hr:(st i).r=none) (a:Nat) (len:Int) (on:Bool):Calls prog 10 #[.pointer (some ⟨N,0,none⟩),.int .i64 i,.agg #[.int .u32 a,.int .i64 len],.bool on] w fun e w'=>e= .returned (.int .i64 3)/\Below w.heap.size w w':=by
 have hb:=aa0 w (.cells #[.int .u32 a,.int .i64 len] 31);obtain ⟨MB,ms,v,xs,hW,hst,b1,b2,b3,b4,hB,hl⟩:=(h.held hb).ex;have hm:=Ma.sv_none (d:=(st i).d) (c:=(st i).c) (z:=(st i).z) ((hst i hi).trans (by rw [<- hr]));have HR:=as3 hW.nt hi;rw [hm] at HR;replace HR:Calls prog 28 #[.pointer (some ⟨N,0,none⟩),.int .i64 i] (w.alloc (.cells #[.int .u32 a,.int .i64 len] 31)) fun e w'=>e= .returned (.bool false)/\w'=(w.alloc (.cells #[.int .u32 a,.int .i64 len] 31)):=HR
 have HB:=Lib.hid hb;clear hm hW hst b1 b2 b3 b4 hB hl h hr hb;go_enter Tryz.func10,Tryz.ntmps10;go_wp2_with fail;refine HR.mono ?_;rintro e w2 ⟨rfl,rfl⟩;go_wp2_with fail;go_ret;exact ⟨rfl,HB.out⟩
end
end
section
open Go.RowKit Go.Maps Rm Fm Sb
variable {O:Nat->Prop}{w w' w0:World}{MB:Nat}{v:Value}
structure Tu (O:Nat->Prop) (w0 w:World):Prop where
 os:w.os=w0.os
 tape:w.tape=w0.tape
 output:w.output=w0.output
 size:w0.heap.size<=w.heap.size
 block:∀ i,i<w0.heap.size->¬ O i->w.heap[i]?=w0.heap[i]?
 wide:∀ x,w.heap.size<=x->O x
theorem Tu.step {L:List Nat} (h:Tu O w0 w) (t:Turn L w w') (hL:∀ y,y∈L->O y):Tu O w0 w':=
 ⟨t.os.trans h.os,t.tape.trans h.tape,t.output.trans h.output,Nat.le_trans h.size t.size,fun i hi hn=>(t.block i (Nat.lt_of_lt_of_le hi h.size) (fun hm=>hn (hL i hm))).trans (h.block i hi hn),fun x hx=>h.wide x (Nat.le_trans t.size hx)⟩
theorem Tu.held (h:Tu O w0 w) (hb:Below w.heap.size w w'):Tu O w0 w':=h.step (.of_below [] hb) (fun y hy=>by cases hy)
theorem Tu.refl (h:∀ x,w.heap.size<=x->O x):Tu O w w:=⟨rfl,rfl,rfl,Nat.le_refl _,fun _ _ _=>rfl,h⟩
theorem Tu.below (h:Tu (fun x=>w0.heap.size<=x) w0 w):Below w0.heap.size w0 w:=⟨h.os,h.tape,h.output,h.size,fun i hi=>h.block i hi (by omega)⟩
theorem Tu.of_below (h:Below w0.heap.size w0 w):Tu (fun x=>w0.heap.size<=x) w0 w:=⟨h.os,h.tape,h.output,h.size,fun i hi _=>h.block i hi,fun _ hx=>Nat.le_trans h.size hx⟩
structure Bo (O:Nat->Prop) (w0 w:World) (N n:Nat) (st:Nat->Sv) (os:List Dg):Prop where
 ex:∃ MB ms v xs,Nw w N MB n ms v xs os/\(∀ i,i<n->(ms i).sv=st i)/\O N/\O MB/\(∀ i,i<n->∀ x,x∈(ms i).F->O x)/\(∀ x,v.ownBlock=some x->O x)/\Tu O w0 w/\os.length<=256
section
variable {O:Nat->Prop} {w0 w w':World} {N n:Nat} {st:Nat->Sv} {os:List Dg}
theorem Bo.tu (h:Bo O w0 w N n st os):Tu O w0 w:=by
 obtain ⟨MB,ms,v,xs,hW,hst,b1,b2,b3,b4,hB,hl⟩:=h.ex;exact hB
theorem Bo.n8 (h:Bo O w0 w N n st os):n<=8:=by
 obtain ⟨MB,ms,v,xs,hW,hst,b1,b2,b3,b4,hB,hl⟩:=h.ex;exact hW.nt.n8
theorem Bo.len (h:Bo O w0 w N n st os):os.length<=256:=by
 obtain ⟨MB,ms,v,xs,hW,hst,b1,b2,b3,b4,hB,hl⟩:=h.ex;exact hl
theorem Bo.held (h:Bo O w0 w N n st os) (hb:Below w.heap.size w w'):Bo O w0 w' N n st os:=by
 obtain ⟨MB,ms,v,xs,hW,hst,b1,b2,b3,b4,hB,hl⟩:=h.ex;exact ⟨MB,ms,v,xs,hW.held hb,hst,b1,b2,b3,b4,hB.held hb,hl⟩
theorem Bo.same (h:Bo O w0 w N n st os) {st':Nat->Sv} (hs:∀ i,i<n->st i=st' i):Bo O w0 w N n st' os:=by
 obtain ⟨MB,ms,v,xs,hW,hst,b1,b2,b3,b4,hB,hl⟩:=h.ex;exact ⟨MB,ms,v,xs,hW,fun i hi=>(hst i hi).trans (hs i hi),b1,b2,b3,b4,hB,hl⟩
theorem Bo.one {ms:Nat->Ma} {xs:List Pe} (hW:Nw w N MB n ms v xs os) (hst:∀ i,i<n->(ms i).sv=st i) (b1:O N) (b2:O MB) (b3:∀ i,i<n->∀ x,x∈(ms i).F->O x) (b4:∀ x,v.ownBlock=some x->O x) (hB:Tu O w0 w) (hl:os.length<=256)
  {i:Nat} (hi:i<n) {m:Ma} {s:Sv} (hs:m.sv=s) (hN:Nt w' N MB n (puts ms i m) v) (t:Turn (MB::(ms i).F) w w') (hF:∀ y,y∈m.F->y∈(ms i).F\/w.heap.size<=y):Bo O w0 w' N n (sets st i s) os:=by
 refine ⟨MB,puts ms i m,v,xs,hW.one hi hN t (fun x hx=>by simpa using hx) hF,fun k hk=>?_,b1,b2,fun k hk x hx=>?_,b4,hB.step t (fun y hy=>?_),hl⟩
 ·by_cases e:k=i
  ·subst e; rw [aa3,ab5]; exact hs
  ·rw [aa2 e,ab1 e]; exact hst k hk
 ·by_cases e:k=i
  ·subst e
   rw [aa3] at hx;rcases hF x hx with e2|e2
   ·exact b3 k hk x e2
   ·exact hB.wide _ e2
  ·rw [aa2 e] at hx; exact b3 k hk x hx
 ·rcases List.mem_cons.1 hy with e|e
  ·rw [e]; exact b2
  ·exact b3 i hi y e
theorem dr8 (n:Nat) (h1:1<=n) (h8:n<=8) (sec:Nat) (hs1:4<=sec) (hs2:sec<=512) (w:World):Calls prog 6 #[.int .i64 (n:Int),.int .i64 (sec:Int)] w fun e w'=>
  ∃ (N:Nat) (d:Nat->Nat),e= .returned (.pointer (some ⟨N,0,none⟩))/\Bo (fun x=>w.heap.size<=x) w w' N n (fun i=>⟨d i,none,fun _=>0,⟨i+1,sec / 2 - 1,sm0⟩⟩) []:=by
 refine (dc1 n h1 h8 sec hs1 hs2 w).mono ?_;rintro e w' ⟨ms,rfl,hN,hF,hb,hB⟩;refine ⟨_,fun i=>(ms i).d,rfl,w.heap.size,ms,_,[],⟨hN,Wy.nil _,fun x hx=>?_⟩,fun i hi=>?_,(by show w.heap.size<=_; omega),Nat.le_refl _,hb,fun x hx=>(by cases hx),.of_below hB,by simp⟩
 ·rcases hx with e|⟨p,hp,-⟩
  ·cases e
  ·cases hp
 ·have f:=hF i hi
  unfold Ma.sv;rw [f.r,f.c,f.z];rfl
theorem ca2 (h:Bo O w0 w N n st os):Calls prog 20 #[.pointer (some ⟨N,0,none⟩)] w fun e w'=>e= .returned (.int .i64 os.length)/\w'=w:=by
 obtain ⟨MB,ms,v,xs,hW,hst,b1,b2,b3,b4,hB,hl⟩:=h.ex;exact am5 hW
theorem cn2 (h:Bo O w0 w N n st os):Calls prog 39 #[.pointer (some ⟨N,0,none⟩)] w fun e w'=>e= .returned (.int .i64 n)/\w'=w:=by
 obtain ⟨MB,ms,v,xs,hW,hst,b1,b2,b3,b4,hB,hl⟩:=h.ex;exact bs0 hW.nt
theorem ax5 (h:Bo O w0 w N n st os) {i:Nat} (hi:i<n) (hr:(st i).r=none):Calls prog 12 #[.pointer (some ⟨N,0,none⟩),.int .i64 i] w fun e w'=>e= .returned (.pointer none)/\w'=w:=by
 obtain ⟨MB,ms,v,xs,hW,hst,b1,b2,b3,b4,hB,hl⟩:=h.ex;have hm:=Ma.sv_none (d:=(st i).d) (c:=(st i).c) (z:=(st i).z) ((hst i hi).trans (by rw [<- hr]));have:=ah8 hW.nt hi;rw [hm] at this;exact this
theorem bo5 (h:Bo O w0 w N n st os) {i:Nat} (hi:i<n) {d room:Nat} {sm:Sm} {c:Nat->Int} (hs:st i=⟨d,none,c,⟨i+1,room,sm⟩⟩) (hlow:∀ k,0<=c k/\c k<=1000):
  Calls prog 7 #[.pointer (some ⟨N,0,none⟩),.int .i64 i] w fun e w'=>e= .returned (.int .i64 0)/\Bo O w0 w' N n (sets st i ⟨d,some ⟨room,90000,mrB (i+1) d sm c⟩,c,⟨i+1,room,sm⟩⟩) os:=by
 obtain ⟨MB,ms,v,xs,hW,hst,b1,b2,b3,b4,hB,hl⟩:=h.ex;have hm:=Ma.sv_none ((hst i hi).trans hs);have hk:=hW.nt.mas.ok i hi;rw [hm] at hk;obtain ⟨S,Mp,e1,-⟩:=hk.none rfl;have e1':(ms i).F=[d,S,Mp]:=e1;rw [e1'] at hm;refine (cr9 hW.nt hi hm hlow).mono ?_;rintro e w' ⟨R,F,rfl,hN,t,hF⟩;exact ⟨rfl,.one hW hst b1 b2 b3 b4 hB hl hi rfl hN (by rw [e1']; exact t) (by rw [e1']; exact hF)⟩
theorem bo4 (h:Bo O w0 w N n st os) {a b:Nat} (ha:a<n) (hb:b<n) (hab:a≠b) {cost:Int} (h0:0<=cost) (h1:cost<=1000):
  Calls prog 8 #[.pointer (some ⟨N,0,none⟩),.int .i64 a,.int .i64 b,.int .i64 cost] w fun e w'=>e= .returned (.int .i64 0)/\
   Bo O w0 w' N n (sets (sets st a ⟨(st a).d,(st a).r.map fun x=>⟨x.room,x.sp,x.M.link b cost⟩,fun q=>if q=b then cost else (st a).c q,(st a).z⟩) b ⟨(st b).d,(st b).r.map fun x=>⟨x.room,x.sp,x.M.link a cost⟩,fun q=>if q=a then cost else (st b).c q,(st b).z⟩) os:=by
 obtain ⟨MB,ms,v,xs,hW,hst,b1,b2,b3,b4,hB,hl⟩:=h.ex;refine (cr8 hW.nt ha hb hab h0 h1).mono ?_;rintro e w' ⟨F,G,rfl,hN,t,hF,hG⟩;have key:∀ (i k:Nat) (F:List Nat),i<n->((ms i).linked k cost F).sv=⟨(st i).d,(st i).r.map fun x=>⟨x.room,x.sp,x.M.link k cost⟩,fun q=>if q=k then cost else (st i).c q,(st i).z⟩:=fun i k F hi=>by
  rw [<- hst i hi];unfold Ma.linked Ma.sv;simp only [Option.map_map];rfl
 refine ⟨rfl,MB,_,v,xs,⟨hN,hW.wy.turn t fun x hx hm=>?_,fun x hx=>⟨(hW.apart x hx).1,(hW.apart x hx).2.1,fun k hk hm=>?_⟩⟩,fun k hk=>?_,b1,b2,fun k hk x hx=>?_,b4,hB.step t (fun y hy=>?_),hl⟩
 ·rcases List.mem_cons.1 hm with e|e
  ·exact (hW.apart x hx).2.1 e
  ·rcases List.mem_append.1 e with e|e
   ·exact (hW.apart x hx).2.2 a ha e
   ·exact (hW.apart x hx).2.2 b hb e
 ·have hlt:=hW.wy.lt hx
  by_cases e:k=b
  ·subst e
   rw [aa3] at hm;rcases hG x hm with e2|e2
   ·exact (hW.apart x hx).2.2 k hk e2
   ·omega
  ·rw [aa2 e] at hm
   by_cases e2:k=a
   ·subst e2
    rw [aa3] at hm;rcases hF x hm with e3|e3
    ·exact (hW.apart x hx).2.2 k hk e3
    ·omega
   ·rw [aa2 e2] at hm
    exact (hW.apart x hx).2.2 k hk hm
 ·by_cases e:k=b
  ·subst e; rw [aa3,ab5]; exact key _ _ _ hk
  ·rw [aa2 e,ab1 e]
   by_cases e2:k=a
   ·subst e2; rw [aa3,ab5]; exact key _ _ _ hk
   ·rw [aa2 e2,ab1 e2]; exact hst k hk
 ·by_cases e:k=b
  ·subst e
   rw [aa3] at hx;rcases hG x hx with e2|e2
   ·exact b3 k hk x e2
   ·exact hB.wide _ e2
  ·rw [aa2 e] at hx
   by_cases e2:k=a
   ·subst e2
    rw [aa3] at hx;rcases hF x hx with e3|e3
    ·exact b3 k hk x e3
    ·exact hB.wide _ e3
   ·rw [aa2 e2] at hx; exact b3 k hk x hx
 ·rcases List.mem_cons.1 hy with e|e
  ·rw [e]; exact b2
  ·rcases List.mem_append.1 e with e|e
   ·exact b3 a ha y e
   ·exact b3 b hb y e
theorem dk7 (h:Bo O w0 w N n st os) {i:Nat} (hi:i<n) {d room sp:Nat} {M:Mr} {c:Nat->Int} {z:Dz} (hs:st i=⟨d,some ⟨room+1,sp,M⟩,c,z⟩)
  {a:Nat} {len:Int} {on:Bool} {M':Mr} (hd:M'.d=M.d) (HR:∀ F W R,Rz F W R (room+1) sp M->Calls prog 31 #[.pointer (some ⟨R,0,none⟩),.agg #[.int .u32 a,.int .i64 len],.bool on] W fun e w'=>e= .returned (.int .i64 0)/\Goes F W R room sp M' w'):
  Calls prog 10 #[.pointer (some ⟨N,0,none⟩),.int .i64 i,.agg #[.int .u32 a,.int .i64 len],.bool on] w fun e w'=>e= .returned (.int .i64 0)/\
   Bo O w0 w' N n (sets st i ⟨d,some ⟨room,sp,M'⟩,c,z⟩) os:=by
 obtain ⟨MB,ms,v,xs,hW,hst,b1,b2,b3,b4,hB,hl⟩:=h.ex;obtain ⟨R,hm⟩:=Ma.sv_some ((hst i hi).trans hs);refine (dj1 hW.nt hi hm hd fun W hz=>HR _ W _ hz).mono ?_;rintro e w' ⟨F',rfl,hN,t,hF⟩;exact ⟨rfl,.one hW hst b1 b2 b3 b4 hB hl hi rfl hN (t.mono fun x hx=>List.mem_cons_of_mem _ hx) hF⟩
theorem bo_own (h:Bo O w0 w N n st os) {i:Nat} (hi:i<n) {d room sp:Nat} {M:Mr} {c:Nat->Int} {z:Dz} (hs:st i=⟨d,some ⟨room+1,sp,M⟩,c,z⟩)
  {a:Nat} {len:Int} (hp:Pk.ok ⟨a,len⟩) (hright:Am.right a len=true) (hrt:right ⟨2,0,0,0,a,len,true,0,0⟩=true) (hn:M.sm.own ⟨a,len⟩=none)
  (hfew:∀ xs:List Pk,xs.Pairwise ltP->(∀ x,x∈xs↔x.ok/\(M.sm.own x).isSome=true)->xs.length<16):
  Calls prog 10 #[.pointer (some ⟨N,0,none⟩),.int .i64 i,.agg #[.int .u32 a,.int .i64 len],.bool true] w fun e w'=>e= .returned (.int .i64 0)/\
   Bo O w0 w' N n (sets st i ⟨d,some ⟨room,sp,{ M with sm:=app M.sm ⟨2,0,0,0,a,len,true,0,0⟩ }⟩,c,z⟩) os:=
 dk7 h hi hs rfl fun _ _ _ hz=>dr0 hz hp hright hrt hn hfew
theorem db0 (h:Bo O w0 w N n st os) {i:Nat} (hi:i<n) {d room sp m1 m2:Nat} {M:Mr} {c:Nat->Int} {z:Dz} (hs:st i=⟨d,some ⟨room+m2+m1,sp,M⟩,c,z⟩)
  (hG:M.Good) (hnow:M.now<1000000) (hle:M.sm.lease<=1073741824) {p r:Nat} (hf:∀ M2,Ticks M M2->Few M2 p r) (hpq:2*p+r<20) (hm1:M.aged.ownsAny->M.aged.advN<=m1) (hm2:∀ M2 rs,Ticks M M2->Subj M2 rs->M2.needS rs<=m2):
  Calls prog 19 #[.pointer (some ⟨N,0,none⟩),.int .i64 i] w fun e w'=>e= .returned (.int .i64 0)/\∃ M2 rs,Ticks M M2/\Subj M2 rs/\
   Bo O w0 w' N n (sets st i ⟨d,some ⟨room,sp,(M2.tellS rs).2⟩,c,z⟩) (sendAll i os (sends M.c (T.Tm.encode (M2.tellS rs).1) 8)):=by
 obtain ⟨MB,ms,v,xs,hW,hst,b1,b2,b3,b4,hB,hl⟩:=h.ex;obtain ⟨R,hm⟩:=Ma.sv_some ((hst i hi).trans hs);have hk:=hW.nt.mas.ok i hi;rw [hm] at hk;refine (cr5 hW hi hl hm (dl7 (hk.some rfl) hG hnow hle hf hpq hm1 hm2)).mono ?_;rintro e w' ⟨rfl,M2,rs,F',v',xs',k1,k2,hW',t,hF,hv⟩;refine ⟨rfl,M2,rs,k1,k2,MB,_,v',xs',hW',fun q hq=>?_,b1,b2,fun q hq x hx=>?_,fun x hx=>?_,hB.step t (fun y hy=>?_),am0 _ _ hl⟩
 ·by_cases e:q=i
  ·rw [e,aa3,ab5]; rfl
  ·rw [aa2 e,ab1 e]; exact hst q hq
 ·by_cases e:q=i
  ·rw [e,aa3] at hx
   rcases hF x hx with e2|e2
   ·exact b3 i hi x e2
   ·exact hB.wide _ e2
  ·rw [aa2 e] at hx; exact b3 q hq x hx
 ·rcases hv x hx with e|e
  ·exact b4 x e
  ·exact hB.wide _ e
 ·rcases List.mem_cons.1 hy with e|e
  ·rw [e]; exact b1
  ·rcases List.mem_append.1 e with e|e
   ·exact b4 y (by simpa using e)
   ·exact b3 i hi y e
theorem bd7 (h:Bo O w0 w N n st os) {i:Nat} (hi:i<n) {d room sp m1 m2:Nat} {M:Mr} {c:Nat->Int} {z:Dz} (hs:st i=⟨d,some ⟨room+m2+m1,sp,M⟩,c,z⟩)
  (hG:M.Good) (hnow:M.now<1000000) (hle:M.sm.lease<=1073741824) {p r:Nat} (hf:∀ M2,Ticks M M2->Few M2 p r) (hpq:2*p+r<20) (hm1:M.aged.advN<=m1) (hm2:∀ M2 rs,Ticks M M2->Subj M2 rs->M2.needS rs<=m2):
  Calls prog 19 #[.pointer (some ⟨N,0,none⟩),.int .i64 i] w fun e w'=>e= .returned (.int .i64 0)/\∃ M2 rs,Ticks M M2/\Subj M2 rs/\
   Bo O w0 w' N n (sets st i ⟨d,some ⟨room,sp,(M2.tellS rs).2⟩,c,z⟩) (sendAll i os (sends M.c (T.Tm.encode (M2.tellS rs).1) 8)):=
 db0 h hi hs hG hnow hle hf hpq (fun _=>hm1) hm2
theorem Bo.fewer {ms:Nat->Ma} {v':Value} {xs':List Pe} {os':List Dg} (hst:∀ i,i<n->(ms i).sv=st i) (b1:O N) (b2:O MB) (b3:∀ i,i<n->∀ x,x∈(ms i).F->O x) (b4:∀ x,v.ownBlock=some x->O x) (hB:Tu O w0 w)
  (hW:Nw w' N MB n ms v' xs' os') (t:Turn (N::v.ownBlock.toList) w w') (hv:v'.ownBlock=v.ownBlock) (hl:os'.length<=256):Bo O w0 w' N n st os':=by
 refine ⟨MB,ms,v',xs',hW,hst,b1,b2,b3,fun x hx=>b4 x (by rw [<- hv]; exact hx),hB.step t (fun y hy=>?_),hl⟩;rcases List.mem_cons.1 hy with e|e
 ·rw [e]; exact b1
 ·exact b4 y (by simpa using e)
theorem az1 (h:Bo O w0 w N n st os) {k:Nat} (hk:k<os.length) {fr i:Nat} {bs:List Nat} (ho:os[k]=(fr,i,bs)) (hi:i<n) {d room sp:Nat} {M:Mr} {c:Nat->Int} {z:Dz} (hs:st i=⟨d,some ⟨room,sp+1000,M⟩,c,z⟩)
  {most:Int} {m:Nat} (hmm:min (max most 0) (bs.length:Int)=m) (h256:∀ c∈bs,c<256) (hbl:bs.length<=5000) (hdec:∀ us,T.Tm.decode (bs.take m)=some us->us.length<=1000):
  Calls prog 32 #[.pointer (some ⟨N,0,none⟩),.int .i64 k,.int .i64 most] w fun e w'=>e= .returned (.int .i64 0)/\Bo O w0 w' N n (sets st i ⟨d,some ⟨room,sp,M.receive fr (bs.take m)⟩,c,z⟩) (os.eraseIdx k):=by
 obtain ⟨MB,ms,v,xs,hW,hst,b1,b2,b3,b4,hB,hl⟩:=h.ex;obtain ⟨R,hm⟩:=Ma.sv_some ((hst i hi).trans hs);refine (bl6 hW hl hk ho hi hm hmm h256 hbl hdec).mono ?_;rintro e w' ⟨rfl,F',v',hW',t,hF,hv⟩;refine ⟨rfl,MB,_,v',_,hW',fun q hq=>?_,b1,b2,fun q hq x hx=>?_,fun x hx=>b4 x (by rw [<- hv]; exact hx),hB.step t (fun y hy=>?_),by have:=List.length_eraseIdx_le os k; omega⟩
 ·by_cases e:q=i
  ·rw [e,aa3,ab5]; rfl
  ·rw [aa2 e,ab1 e]; exact hst q hq
 ·by_cases e:q=i
  ·rw [e,aa3] at hx
   rcases hF x hx with e2|e2
   ·exact b3 i hi x e2
   ·exact hB.wide _ e2
  ·rw [aa2 e] at hx; exact b3 q hq x hx
 ·rcases List.mem_cons.1 hy with e|e
  ·rw [e]; exact b1
  ·rcases List.mem_append.1 e with e|e
   ·exact b4 y (by simpa using e)
   ·exact b3 i hi y e
theorem as6 {P Q:Nat->(Nat->Sv)->List Dg->Prop} (h:Bo O w0 w N n st os) (h0:P 0 st os)
  (ht:∀ k st os wr,k<n->P k st os->Bo O w0 wr N n st os->Calls prog 19 #[.pointer (some ⟨N,0,none⟩),.int .i64 k] wr fun e w'=>∃ (z:Int) (st':Nat->Sv) (os':List Dg),e= .returned (.int .i64 z)/\P (k+1) st' os'/\Bo O w0 w' N n st' os')
  (hs:∀ st os,P n st os->Q os.length st os) (hq:∀ j st os,Q j st os->os.length=j)
  (hd:∀ j st os wr,Q (j+1) st os->Bo O w0 wr N n st os->Calls prog 32 #[.pointer (some ⟨N,0,none⟩),.int .i64 0,.int .i64 1024] wr fun e w'=>∃ (z:Int) (st':Nat->Sv) (os':List Dg),e= .returned (.int .i64 z)/\Q j st' os'/\Bo O w0 w' N n st' os'):
  Calls prog 11 #[.pointer (some ⟨N,0,none⟩)] w fun e w'=>e= .returned (.tuple #[])/\∃ st' os',Q 0 st' os'/\Bo O w0 w' N n st' os':=by
 have h8:=h.n8;obtain ⟨MB,hMB⟩:∃ MB,w.cell? ⟨N,0,none⟩=some (.slice (some ⟨MB,0,none⟩) n n):=by
  obtain ⟨MB,ms,v,xs,hW,-⟩:=h.ex;exact ⟨MB,hW.nt.head.at_ 0⟩
 refine (ch4 (MB:=MB) (P:=fun k wr=>∃ st os,P k st os/\Bo O w0 wr N n st os) (Q:=fun j wr=>∃ st os,Q j st os/\Bo O w0 wr N n st os) h8 ⟨st,os,h0,h⟩ hMB ?_ ?_ ?_ ?_).mono ?_
 ·rintro k wr hk ⟨st,os,h1,h2⟩
  refine (ht k st os wr hk h1 h2).mono ?_;rintro e w' ⟨z,st',os',rfl,h3,h4⟩;exact ⟨z,rfl,st',os',h3,h4⟩
 ·rintro wr ⟨st,os,h1,h2⟩
  exact ⟨os.length,st,os,hs st os h1,h2⟩
 ·rintro j wr ⟨st,os,h1,h2⟩
  have:=ca2 h2;rw [hq j st os h1] at this;exact this
 ·rintro j wr ⟨st,os,h1,h2⟩
  refine (hd j st os wr h1 h2).mono ?_;rintro e w' ⟨z,st',os',rfl,h3,h4⟩;exact ⟨z,rfl,st',os',h3,h4⟩
 ·rintro e w' ⟨rfl,st',os',h1,h2⟩
  exact ⟨rfl,st',os',h1,h2⟩
end
section
variable {O O':Nat->Prop} {w0 w w':World} {N n:Nat} {st:Nat->Sv} {os:List Dg}
theorem Bo.beside (h:Bo O w0 w N n st os) {L:List Nat} (t:Turn L w w') (hL:∀ x,x∈L->¬ O x/\∃ tg C,tg≠5/\Blk tg w x C) (hO:∀ x,x<w.heap.size->O x->O' x) (hw:∀ x,w'.heap.size<=x->O' x):Bo O' w' w' N n st os:=by
 obtain ⟨MB,ms,v,xs,hW,hst,b1,b2,b3,b4,hB,hl⟩:=h.ex;have f1:∀ x,O x->x∉L:=fun x hx hm=>(hL x hm).1 hx
 refine ⟨MB,ms,v,xs,⟨hW.nt.turn t (f1 _ b1) (f1 _ b2) (fun i hi x hx=>f1 _ (b3 i hi x hx)),hW.wy.turn t (fun x hx hm=>?_),hW.apart⟩,hst,hO _ hW.nt.head.lt b1,hO _ hW.nt.mas.lt b2,fun i hi x hx=>hO _ ((hW.nt.mas.ok i hi).lt hx) (b3 i hi x hx),fun x hx=>hO _ (hW.wy.lt (.inl hx)) (b4 x hx),.refl hw,hl⟩;rcases hx with e|⟨p,hp,rfl⟩
 ·exact f1 _ (b4 x e) hm
 ·obtain ⟨i,hi,rfl⟩:=List.getElem_of_mem hp
  obtain ⟨-,tg,C,ht,hC⟩:=hL _ hm;have hr:=(hW.wy.row i hi (by rw [<- hW.wy.len]; exact hi)).2.2.2.1;obtain ⟨cur,q1,q2⟩:=hr;unfold Blk at hC q1;rw [hC] at q1;injection q1 with q1;injection q1 with q1 q3;exact ht q3
end
end
section
open Go.RowKit
attribute [local go_sem] Oper.semAt_some
theorem cg9 (i:Nat) (hi:i<=7) (w:World):Calls prog 9 #[.int .i64 i,.int .i64 0] w fun e w'=>e= .returned (.agg #[.int .u32 ((167772160+i*65536:Nat):Int),.int .i64 16])/\Below w.heap.size w w':=by
 obtain ⟨hb,PB⟩:=nw w 31 #[.int .u32 0,.int .i64 0];have c0:=PB.at_ 0;have c1:=PB.at_ 1;have f0:=PB.free 0;have f1:=PB.free 1;have hi2:i=0\/i=1\/i=2\/i=3\/i=4\/i=5\/i=6\/i=7:=by omega
 have e0:bits .and .i64 0 3=0:=by decide+kernel
 clear PB hi;rcases hi2 with rfl|rfl|rfl|rfl|rfl|rfl|rfl|rfl
 all_goals
  go_enter Tryz.func9,Tryz.ntmps9;go_wp2_with fail
 ·refine bodyPost_ret (v:= .agg #[.int .u32 ((167772160+0*65536:Nat):Int),.int .i64 16]) ?_ rfl ⟨rfl,aa0 _ _⟩
  simp [results,Tryz.results9,go_sem]
 ·refine bodyPost_ret (v:= .agg #[.int .u32 ((167772160+1*65536:Nat):Int),.int .i64 16]) ?_ rfl ⟨rfl,aa0 _ _⟩
  simp [results,Tryz.results9,go_sem]
 ·refine bodyPost_ret (v:= .agg #[.int .u32 ((167772160+2*65536:Nat):Int),.int .i64 16]) ?_ rfl ⟨rfl,aa0 _ _⟩
  simp [results,Tryz.results9,go_sem]
 ·refine bodyPost_ret (v:= .agg #[.int .u32 ((167772160+3*65536:Nat):Int),.int .i64 16]) ?_ rfl ⟨rfl,aa0 _ _⟩
  simp [results,Tryz.results9,go_sem]
 ·refine bodyPost_ret (v:= .agg #[.int .u32 ((167772160+4*65536:Nat):Int),.int .i64 16]) ?_ rfl ⟨rfl,aa0 _ _⟩
  simp [results,Tryz.results9,go_sem]
 ·refine bodyPost_ret (v:= .agg #[.int .u32 ((167772160+5*65536:Nat):Int),.int .i64 16]) ?_ rfl ⟨rfl,aa0 _ _⟩
  simp [results,Tryz.results9,go_sem]
 ·refine bodyPost_ret (v:= .agg #[.int .u32 ((167772160+6*65536:Nat):Int),.int .i64 16]) ?_ rfl ⟨rfl,aa0 _ _⟩
  simp [results,Tryz.results9,go_sem]
 ·refine bodyPost_ret (v:= .agg #[.int .u32 ((167772160+7*65536:Nat):Int),.int .i64 16]) ?_ rfl ⟨rfl,aa0 _ _⟩
  simp [results,Tryz.results9,go_sem]
end
section
open Go.RowKit Go.Maps Rm Fm Sb
variable {i:Nat}
def two (a b:Sv):Nat->Sv:=fun i=>if i=0 then a else b
def pz (i:Nat):Pk:=⟨167772160+i*65536,16⟩
theorem ad3 (hi:i<=7):(pz i).ok:=⟨by show 167772160+i*65536<4294967296; omega,by show (-9223372036854775808:Int)<=16; decide,by show (16:Int)<=9223372036854775807; decide⟩
theorem ab2 (hi:i<=7):Am.right (pz i).a (pz i).n=true:=by
 have:i=0\/i=1\/i=2\/i=3\/i=4\/i=5\/i=6\/i=7:=by omega
 rcases this with rfl|rfl|rfl|rfl|rfl|rfl|rfl|rfl<;>decide+kernel
theorem pz_rt (hi:i<=7):right ⟨2,0,0,0,(pz i).a,(pz i).n,true,0,0⟩=true:=by
 have:i=0\/i=1\/i=2\/i=3\/i=4\/i=5\/i=6\/i=7:=by omega
 rcases this with rfl|rfl|rfl|rfl|rfl|rfl|rfl|rfl<;>decide+kernel
theorem bs1 (id d:Nat):mrB id d sm0 (fun _=>0)=Ms d id (fun _=>0) (fun _=>none) 0:=by
 rw [mrB_ms];congr 1;funext i;simp
section
variable {w0 w:World} {N n:Nat} {st:Nat->Sv} {os:List Dg}
end
def pg (p:Pk) (id s:Nat):List Nat:=T.Tm.page (T.Tm.parts ⟨p.a,p.n,id,s,0⟩ 0)
section
variable {p:Pk} {id s:Nat}
end
section
variable {w0 w:World} {N n:Nat} {st:Nat->Sv} {os:List Dg}
end
end
section
open Go.RowKit Go.Maps Rm Fm Sb
attribute [local go_sem] Oper.semAt_some
def cL (k:Nat) (z:Int):Nat->Int:=fun i=>if i=k then z else 0
def svS (d id room sp:Nat) (c:Nat->Int) (f:Ways) (now:Int) (z:Dz):Sv:=⟨d,some ⟨room,sp,Ms d id c f now⟩,c,z⟩
def svO (p:Pk) (d id room sp:Nat) (c:Nat->Int) (now:Int) (seq:Nat) (since:Int) (lease:Nat) (z:Dz):Sv:=⟨d,some ⟨room,sp,Mo1 p d id c now seq since lease⟩,c,z⟩
theorem ak2 {k:Nat} (hk:k<8) {z:Int} (hz:z≠0) (b:List Nat):sends (cL k z) [b] 8=[(k,b)]:=by
 have:k=0\/k=1\/k=2\/k=3\/k=4\/k=5\/k=6\/k=7:=by omega
 rcases this with rfl|rfl|rfl|rfl|rfl|rfl|rfl|rfl<;>simp [sends,cL,List.range_succ,hz]
theorem Mo1.first {p:Pk} {d id:Nat} {c:Nat->Int} {now:Int}:(Mo1 p d id c now 0 0 0).advance=Mo1 p d id c now 1 now 8:=Mo1.advance_to (nx:=1) (by simp) rfl (by omega)
end
section
open Go.RowKit Go.Maps Rm Fm Sb
theorem ba9 {M:Mr} {a:Nat} {n:Int} {fr:Nat} {r:Rt} {v:Int} (hfr:fr<9) (hf:∀ k:Nat,k≠fr->M.f ⟨a,n,k⟩=none) (hr:M.reachF a n fr=some (r,v)):M.pick a n=some r:=by
 have h:∀ k,k≠fr->M.reachF a n k=none:=fun k hk=>by
  unfold Mr.reachF;rw [hf k hk]
 have e:M.openL a n 9=[(r,v)]:=by
  unfold Mr.openL;rw [show List.range 9=[0,1,2,3,4,5,6,7,8] from rfl];have:fr=0\/fr=1\/fr=2\/fr=3\/fr=4\/fr=5\/fr=6\/fr=7\/fr=8:=by omega
  rcases this with rfl|rfl|rfl|rfl|rfl|rfl|rfl|rfl|rfl<;>
   simp [hr,h 0,h 1,h 2,h 3,h 4,h 5,h 6,h 7,h 8]
 unfold Mr.pick;rw [e];simp [pickL,nearest]
theorem dd5 {d id:Nat} {now':Int} {p:Pk} {k fr s:Nat} {c:Nat->Int} {f:Ways} (hid:k≠id):
  ((Ms d id c f now').hear fr p.a p.n k s 0)=Ms d id c (putR f ⟨p.a,p.n,fr⟩ ⟨fr,k,s,0,now'+3⟩) now':=by
 unfold Mr.hear;have ho:(Ms d id c f now').owns ⟨p.a,p.n⟩=false:=rfl;have h1:¬ ((Ms d id c f now').owns ⟨p.a,p.n⟩=true\/k=(Ms d id c f now').id):=by
  rw [ho];rintro (e|e)
  ·cases e
  ·exact hid e
 rw [if_neg h1,if_neg (by decide)];exact if_pos rfl
end
section
open Go.RowKit Go.Maps Rm Sb
attribute [local go_sem] Oper.semAt_some
structure Fibd (s:Sv) (fe:List Fe):Prop where
 down:s.r=none->fe=[]
 up:∀ d room sp M c z,s=⟨d,some ⟨room,sp,M⟩,c,z⟩->(∃ p r,Few M p r/\2*p+r<20)/\∀ rs,Subj M rs->rs.flatMap M.entry=fe
theorem ck7:∃ i,prog.info? 97=some i/\i.zero=some (.slice none 0 0)/\i.size=1/\i.bytes=24:=by
 have h:(prog.info? 97).map (fun i=>(i.zero,i.size,i.bytes))=some (some (.slice none 0 0),1,24):=by kernel_rfl
 exact info_parts h
def fibZ (n:Nat):Array Value:=madeCells #[.slice none 0 0] n
theorem bh9 (n:Nat):(fibZ n).size=n:=size_madeCells _ _
theorem cu8 {n k:Nat} (h:k<n):(fibZ n)[k]?=some (.slice none 0 0):=by
 rw [Array.getElem?_eq_getElem (by rw [bh9]; exact h)];simp [fibZ,madeCells,Nat.mod_one]
theorem ba4 (n:Nat) (hn:n<=512) (w:World):(Instr.makeSlice 41 (.int .i64 (n:Int)) (.int .i64 (n:Int))).run prog w= .ok (.slice (some ⟨w.heap.size,0,none⟩) n n) (w.alloc (.cells (fibZ n) 97)):=by
 obtain ⟨i,h1,h2,h3,h4⟩:=ck7;have h:=run_make (P:=prog) w 41 97 i _ (by kernel_rfl) h1 h2 .i64 .i64 (n:Int) (n:Int) (by omega) (by omega) (by rw [h4]; omega) (by omega);simpa [h3,fibZ,Value.cells] using h
structure FbL (w:World) (W n:Nat) (fe:Nat->List Fe) (k:Nat) (wr:World):Prop where
 le:w.heap.size<=W
 ex:∃ C,Blk 97 wr W C/\C.size=n/\(∀ j,j<k->∃ v,C[j]?=some v/\Lf (W+1) v (fe j) wr)/\∀ j,k<=j->j<n->C[j]?=some (.slice none 0 0)
 below:Below w.heap.size w wr
section
variable {w wr w2:World} {W n k:Nat} {fe:Nat->List Fe}
theorem FbL.start (w:World) (n:Nat) (fe:Nat->List Fe):FbL w w.heap.size n fe 0 (w.alloc (.cells (fibZ n) 97)):=
 ⟨Nat.le_refl _,⟨_,Blk.new w _ _,bh9 n,fun j h=>absurd h (by omega),fun j _ h=>cu8 h⟩,aa0 _ _⟩
theorem FbL.held (h:FbL w W n fe k wr) (hb:Below wr.heap.size wr w2):FbL w W n fe k w2:=by
 obtain ⟨C,h1,h2,h3,h4⟩:=h.ex;exact ⟨h.le,⟨C,h1.held hb,h2,fun j hj=>by obtain ⟨v,q1,q2⟩:=h3 j hj; exact ⟨v,q1,q2.held hb⟩,h4⟩,h.below.trans (hb.mono h.below.size)⟩
theorem FbL.skip (h:FbL w W n fe k wr) (hk:k<n) (he:fe k=[]):FbL w W n fe (k+1) wr:=by
 obtain ⟨C,h1,h2,h3,h4⟩:=h.ex;refine ⟨h.le,⟨C,h1,h2,fun j hj=>?_,fun j hj=>h4 j (by omega)⟩,h.below⟩;by_cases e:j=k
 ·subst e
  exact ⟨_,h4 j (Nat.le_refl _) hk,by rw [he]; exact Lf.nil _ _⟩
 ·exact h3 j (by omega)
theorem FbL.put (h:FbL w W n fe k wr) (hk:k<n) {v:Value} (hv:Lf (W+1) v (fe k) wr):FbL w W n fe (k+1) (wr.setCell ⟨W,k,none⟩ v):=by
 obtain ⟨C,h1,h2,h3,h4⟩:=h.ex;have far:∀ b,b≠W->(wr.setCell ⟨W,k,none⟩ v).heap[b]?=wr.heap[b]?:=fun b hb=>Below.heap_setCell _ _ _ _ hb
 have keep:∀ {u:Value} {us:List Fe},Lf (W+1) u us wr->Lf (W+1) u us (wr.setCell ⟨W,k,none⟩ v):=fun hu=>hu.of_block fun b e=>far b (by have:=(hu.lt e).2; omega)
 refine ⟨h.le,⟨_,h1.store k v,by rw [Array.size_setIfInBounds,h2],fun j hj=>?_,fun j hj hj2=>?_⟩,h.below.setCell h.le v⟩
 ·rw [Array.getElem?_setIfInBounds]
  by_cases e:k=j
  ·subst e
   rw [if_pos rfl,if_pos (by omega)];exact ⟨v,rfl,keep hv⟩
  ·rw [if_neg e]
   obtain ⟨u,q1,q2⟩:=h3 j (by omega);exact ⟨u,q1,keep q2⟩
 ·rw [Array.getElem?_setIfInBounds,if_neg (by omega)]
  exact h4 j (by omega) hj2
theorem FbL.cell (h:FbL w W n fe k wr) (hk:k<n):wr.cell? ⟨W,k,none⟩=some (.slice none 0 0)/\wr.frozen? ⟨W,k,none⟩=false:=by
 obtain ⟨C,h1,h2,h3,h4⟩:=h.ex;exact ⟨(h1.at_ k).trans (h4 k (Nat.le_refl _) hk),h1.free k⟩
end
theorem Nt.row {w:World} {N MB n:Nat} {ms:Nat->Ma} {v:Value} (h:Nt w N MB n ms v) {i:Nat} (hi:i<n):
  w.cell? ⟨MB,i*10,none⟩=some (ms i).rv/\w.cell? ⟨MB,i*10+1,none⟩=some (.pointer (some ⟨(ms i).d,0,none⟩))/\w.cell? ⟨MB,i*10+2,none⟩=some (.int .i64 ((ms i).c 0))/\w.cell? ⟨MB,i*10+3,none⟩=some (.int .i64 ((ms i).c 1))/\w.cell? ⟨MB,i*10+4,none⟩=some (.int .i64 ((ms i).c 2))/\w.cell? ⟨MB,i*10+5,none⟩=some (.int .i64 ((ms i).c 3))/\w.cell? ⟨MB,i*10+6,none⟩=some (.int .i64 ((ms i).c 4))/\w.cell? ⟨MB,i*10+7,none⟩=some (.int .i64 ((ms i).c 5))/\w.cell? ⟨MB,i*10+8,none⟩=some (.int .i64 ((ms i).c 6))/\w.cell? ⟨MB,i*10+9,none⟩=some (.int .i64 ((ms i).c 7)):=
 ⟨h.cell hi (j:=0) rfl,h.cell hi (j:=1) rfl,h.cell hi (j:=2) rfl,h.cell hi (j:=3) rfl,h.cell hi (j:=4) rfl,h.cell hi (j:=5) rfl,h.cell hi (j:=6) rfl,h.cell hi (j:=7) rfl,h.cell hi (j:=8) rfl,h.cell hi (j:=9) rfl⟩
section
variable {O:Nat->Prop} {w0 w:World} {N n:Nat} {st:Nat->Sv} {os:List Dg}
theorem Bo.at_machine (h:Bo O w0 w N n st os) {MB:Nat} (hMB:w.cell? ⟨N,0,none⟩=some (.slice (some ⟨MB,0,none⟩) n n)) {i:Nat} (hi:i<n) {fe:List Fe} (hF:Fibd (st i) fe):
  ∃ rv d c0 c1 c2 c3 c4 c5 c6 c7,(∀ w',Below w.heap.size w w'->w'.cell? ⟨N,0,none⟩=some (.slice (some ⟨MB,0,none⟩) n n)/\w'.cell? ⟨MB,i*10,none⟩=some (.pointer rv)/\w'.cell? ⟨MB,i*10+1,none⟩=some (.pointer (some ⟨d,0,none⟩))/\w'.cell? ⟨MB,i*10+2,none⟩=some (.int .i64 c0)/\w'.cell? ⟨MB,i*10+3,none⟩=some (.int .i64 c1)/\w'.cell? ⟨MB,i*10+4,none⟩=some (.int .i64 c2)/\w'.cell? ⟨MB,i*10+5,none⟩=some (.int .i64 c3)/\w'.cell? ⟨MB,i*10+6,none⟩=some (.int .i64 c4)/\w'.cell? ⟨MB,i*10+7,none⟩=some (.int .i64 c5)/\w'.cell? ⟨MB,i*10+8,none⟩=some (.int .i64 c6)/\w'.cell? ⟨MB,i*10+9,none⟩=some (.int .i64 c7))/\
   ((rv=none/\fe=[])\/∃ R,rv=some ⟨R,0,none⟩/\∀ w',Below w.heap.size w w'->Calls prog 40 #[.pointer (some ⟨R,0,none⟩)] w' fun e w2=>∃ v,e= .returned v/\Lf w'.heap.size v fe w2/\Below w'.heap.size w' w2):=by
 obtain ⟨MB',ms,v,xs,hW,hst,b1,b2,b3,b4,hB,hl⟩:=h.ex;obtain rfl:MB'=MB:=by
  have e:=(hW.nt.head.at_ 0).symm.trans hMB;simpa using e
 refine ⟨(ms i).r.map (fun x:Rn=>(⟨x.R,0,none⟩:Addr)),(ms i).d,(ms i).c 0,(ms i).c 1,(ms i).c 2,(ms i).c 3,(ms i).c 4,(ms i).c 5,(ms i).c 6,(ms i).c 7,fun w' hb=>⟨(hW.nt.held hb).head.at_ 0,(hW.nt.held hb).row hi⟩,?_⟩;have hk:=hW.nt.mas.ok i hi
 cases hr:(ms i).r with
 |none=>
  refine .inl ⟨by rfl,hF.down ?_⟩;rw [<- hst i hi];unfold Ma.sv;rw [hr];rfl
 |some x=>
  obtain ⟨R,room,sp,M⟩:=x;refine .inr ⟨R,rfl,fun w' hb=>?_⟩;obtain ⟨⟨p,r,hf,hlt⟩,hS⟩:=hF.up (ms i).d room sp M (ms i).c (ms i).z (by
   rw [<- hst i hi];unfold Ma.sv;rw [hr];rfl)
  refine (rz_fib ((hk.some hr).held hb) hf hlt).mono ?_;rintro e w2 ⟨v,rs,rfl,h1,h2,h3⟩;exact ⟨v,rfl,by rw [<- hS rs h1]; exact h2,h3⟩
theorem dg0 (h:Bo O w0 w N n st os) {fe:Nat->List Fe} (hF:∀ i,i<n->Fibd (st i) (fe i)):
  Calls prog 15 #[.pointer (some ⟨N,0,none⟩)] w fun e w'=>e= .returned (.slice (some ⟨w.heap.size,0,none⟩) n n)/\FbL w w.heap.size n fe n w':=by
 have hn8:=h.n8;have HS:=cn2 h;have hmk:=ba4 n (by omega) w;have S0:=Lib.hid (FbL.start w n fe);obtain ⟨MB,hMB⟩:∃ MB,w.cell? ⟨N,0,none⟩=some (.slice (some ⟨MB,0,none⟩) n n):=by
  obtain ⟨MB,ms,v,xs,hW,-⟩:=h.ex;exact ⟨MB,hW.nt.head.at_ 0⟩
 have q0:(w.alloc (.cells (fibZ n) 97)).cell? ⟨N,0,none⟩=some (.slice (some ⟨MB,0,none⟩) n n):=held (aa0 _ _) hMB;have H:=H3 h hF hMB;clear h hF hMB;go_enter Tryz.func15,Tryz.ntmps15;go_wp2_with (first|(go_at_call 39; refine HS.mono ?_; rintro e w1 ⟨rfl,hw1⟩; have hw2:=hw1.symm; subst hw2; clear hw1)|fail);go_loopw [14] (fun i wr=>∃ k:Nat,i= .int .i64 (k:Nat)/\k<=n/\Hid (FbL w w.heap.size n fe k wr)) (fun i _=>n - (intOf i).toNat)
 case atStart=>exact ⟨0,rfl,Nat.zero_le _,S0⟩
 case round=>
  clear S0 q0;obtain ⟨k,rfl,hkn,R⟩:=hrel;by_cases hk:k<n
  ·have hkz:(k:Int)<(n:Int):=by omega
   obtain ⟨rv,d,z0,z1,z2,z3,z4,z5,z6,z7,hc,hcase⟩:=H.out.1.at_machine H.out.2.2 hk (H.out.2.1 k hk);obtain ⟨a,a0,a1,a2,a3,a4,a5,a6,a7,a8,a9⟩:=hc wr R.out.below;obtain ⟨hbx,BX⟩:=nw wr 80 #[.pointer rv,.pointer (some ⟨d,0,none⟩),.int .i64 z0,.int .i64 z1,.int .i64 z2,.int .i64 z3,.int .i64 z4,.int .i64 z5,.int .i64 z6,.int .i64 z7];have R1:=Lib.hid (R.out.held hbx);have hW:w.heap.size<wr.heap.size:=by
    obtain ⟨C,h1,-⟩:=R.out.ex;exact h1.lt
   rcases hcase with ⟨rfl,he⟩|⟨R0,rfl,HFib⟩
   ·have R2:=Lib.hid (R1.out.skip hk he)
    clear R R1 he hc hbx hW;go_upto_region 5 with fail;generalize wr.alloc _=w2 at*;have x0:w2.cell? ⟨wr.heap.size,0,none⟩=some (.pointer none):=BX.at_ 0;clear BX;go_wp2_with fail;go_roundw
    case rel=>exact ⟨k+1,by go_num,by omega,R2⟩
    case measure=>simp [intOf]; omega
   ·have HFb:=HFib _ (R.out.below.trans (hbx.mono R.out.below.size))
    have hW2:=Lib.hid hW;clear R hc hbx HFib hW;go_upto_region 5 with fail;have hs2:=Lib.hid (aa1 wr (.cells #[.pointer (some ⟨R0,0,none⟩),.pointer (some ⟨d,0,none⟩),.int .i64 z0,.int .i64 z1,.int .i64 z2,.int .i64 z3,.int .i64 z4,.int .i64 z5,.int .i64 z6,.int .i64 z7] 80));generalize wr.alloc _=w2 at*;have x0:w2.cell? ⟨wr.heap.size,0,none⟩=some (.pointer (some ⟨R0,0,none⟩)):=BX.at_ 0;clear BX a a0 a1 a2 a3 a4 a5 a6 a7 a8 a9;go_wp2_with (first|(go_at_call 40; refine HFb.mono ?_; rintro e w3 ⟨v,rfl,hL,hb3⟩; obtain ⟨vp,vc,rfl,-⟩:=hL.form; have R3:=R1.out.held hb3; have C9:=(R3.cell hk).1; have F9:=(R3.cell hk).2; have R4:=Lib.hid (R3.put hk (hL.mono (by have:=hs2.out; have:=hW2.out; omega))); clear hL hb3 R3 HFb; generalize (fe k).length=fl at*)|fail);go_roundw
    case rel=>exact ⟨k+1,by go_num,by omega,R4⟩
    case measure=>simp [intOf]; omega
  ·obtain rfl:k=n:=by omega
   go_wp2_with fail;go_ret;exact ⟨rfl,R.out⟩
end
end
end Go.Proofs.YtlklghedfaeepaaGreat
