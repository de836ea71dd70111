import Derived.Test.YtafkfnodcemefaaGreatB08
set_option maxHeartbeats 8000000
namespace Go.Proofs.YtafkfnodcemefaaGreat.T.Tm
open _root_.Go.Proofs.Tryz (prog)
theorem ag7:∀ (l:List Up) (cur:List Nat) (id:Nat),cur.length+4<=1024->(∀ c∈cur,c<256)->∀ b∈pages cur id l,b≠[]/\b.length+4<=1024/\∀ c∈b,c<256
 |[],cur,id,h1,h2=>by
  intro b hb;unfold pages at hb;split at hb
  ·cases hb
  ·rename_i e
   rw [List.mem_singleton.1 hb];exact ⟨e,h1,h2⟩
 |u::r,cur,id,h1,h2=>by
  intro b hb;unfold pages at hb;split at hb
  ·exact ag7 r cur id h1 h2 b hb
  ·rename_i hr
   have hr':right u=true:=by simpa using hr
   have hp:=bd9 hr' 0;split at hb
   ·rcases List.mem_cons.1 hb with rfl|hb
    ·refine ⟨fun e=>?_,h1,h2⟩
     subst e;have:=bd9 hr' id;rename_i hbig;simp only [List.length_nil] at hbig;omega
    ·exact ag7 r _ _ G (as2 hr' 0) b hb
   ·exact ag7 r _ _ (by simp; omega) (fun c hc=>(List.mem_append.1 hc).elim (h2 c) (as2 hr' id c)) b hb
theorem ah6 (b:List Nat):(page b).length=b.length+4:=by simp [page,ax6]; omega
theorem db6 {b:List Nat} (h:∀ c∈b,c<256):∀ c∈page b,c<256:=by
 intro c hc;simp only [page,List.mem_cons,List.mem_append] at hc;rcases hc with rfl|rfl|hc|hc
 ·omega
 ·omega
 ·exact bq1 _ c hc
 ·exact h c hc
theorem bu9 {b:List Nat} (h:b.length+4<=1024):(page b).getD 2 0*256+(page b).getD 3 0=b.length:=by
 simp only [page,two,List.cons_append,List.nil_append,List.getD_cons_succ,List.getD_cons_zero];omega
theorem decode_page {b:List Nat} (h:b.length+4<=1024):decode (page b)=walk 0 b:=by
 have e:headed (page b)=true:=by
  unfold headed;rw [decide_eq_true_eq,bu9 h,ah6];exact ⟨by omega,h,rfl,rfl,G⟩
 unfold decode;rw [if_pos e];rfl
theorem encode_fine (l:List Up):∀ p∈encode l,4<p.length/\p.length<=1024/\(∀ c∈p,c<256)/\∃ b,p=page b/\b.length+4<=1024:=by
 intro p hp;obtain ⟨b,hb,rfl⟩:=List.mem_map.1 hp;obtain ⟨h0,h1,h2⟩:=ag7 l [] 0 sn sn b hb;have:0<b.length:=List.length_pos_iff.2 h0;exact ⟨by rw [ah6]; omega,by rw [ah6]; omega,db6 h2,b,rfl,h1⟩
theorem val_snoc (b:List Nat) (c:Nat):val (b++[c])=val b*256+c:=by simp [val]
theorem val_lt:∀ (k:Nat) (b:List Nat),b.length<=k->(∀ c∈b,c<256)->val b<256 ^ k
 |0,b,h,_=>by rw [List.length_eq_zero_iff.1 (Nat.le_zero.1 h)]; simp [val]
 |k+1,b,h,hb=>by
  by_cases hne:b=[]
  ·subst hne
   exact Nat.pow_pos G
  ·have e:=(List.dropLast_concat_getLast hne).symm
   have ih:=val_lt k b.dropLast (by simp; omega) (fun c hc=>hb c ((List.dropLast_sublist b).mem hc));have hc:=hb _ (List.getLast_mem hne);rw [e,val_snoc,Nat.pow_succ];omega
theorem getD_lt {b:List Nat} (h:∀ c∈b,c<256) (i:Nat):b.getD i 0<256:=by
 rw [List.getD_eq_getElem?_getD]
 cases e:b[i]? with
 |none=>simp
 |some c=>simpa using h c (List.mem_of_getElem? e)
theorem cc2 {x:List Nat} {id:Nat} (hx:∀ c∈x,c<256) (hid:id<4294967296) {u:Up} (h:told x id=some u):right u=true/\u.Fits:=by
 unfold told at h;split at h
 ·cases h
 ·split at h
  ·cases h
  ·obtain ⟨id',hid',e⟩:∃ id',id'<4294967296/\(if val ((x.drop 5).take 2)=65535 then 0 else id)=id':=⟨_,by split<;>omega,rfl⟩
   rw [e] at h;dsimp only at h;by_cases hr:right ⟨val ((x.drop 7++[0,0,0,0]).take 4),x.getD 0 0,id',val ((x.drop 1).take 4),val ((x.drop 5).take 2)⟩=true
   ·rw [if_pos hr,Option.some.injEq] at h
    subst h;refine ⟨hr,?_⟩;have g:=getD_lt hx 0;have l4:∀ y:List Nat,(∀ c∈y,c<256)->val (y.take 4)<4294967296:=fun y hy=>val_lt 4 _ (by simp; omega) (fun c hc=>hy c (List.mem_of_mem_take hc))
    have l2:∀ y:List Nat,(∀ c∈y,c<256)->val (y.take 2)<65536:=fun y hy=>val_lt 2 _ (by simp; omega) (fun c hc=>hy c (List.mem_of_mem_take hc))
    have hd:∀ k,∀ c∈x.drop k,c<256:=fun k c hc=>hx c (List.mem_of_mem_drop hc)
    refine ⟨l4 _ (fun c hc=>?_),by dsimp only; omega,by dsimp only; omega,hid',l4 _ (hd 1),l2 _ (hd 5)⟩
    ·rcases List.mem_append.1 hc with hc|hc
     ·exact hd 7 c hc
     ·simp at hc; omega
   ·rw [if_neg hr] at h; cases h
theorem at1:∀ (n:Nat) (b:List Nat) (id:Nat),b.length<=n->(∀ c∈b,c<256)->id<4294967296->∀ us,walk id b=some us->∀ u∈us,right u=true/\u.Fits
 |n,[],id,_,_,_=>by
  intro us h u hu;rw [walk_nil] at h
  cases h; cases hu
 |0,k::r,id,hl,_,_=>by simp at hl
 |n+1,k::r,id,hl,hb,hid=>by
  intro us h u hu;simp only [List.length_cons] at hl;have hbr:∀ c∈r,c<256:=fun c hc=>hb c (List.mem_cons_of_mem _ hc)
  rw [walk.eq_def] at h;simp only at h;split at h
  ·exact at1 n r id G hbr hid us h u hu
  ·cases r with
   |nil=>cases h
   |cons m r=>
    simp only at h;simp only [List.length_cons] at hl;have hbr2:∀ c∈r,c<256:=fun c hc=>hbr c (List.mem_cons_of_mem _ hc)
    split at h
    ·cases h
    ·have hid':(if k=2/\m=4 then val (r.take m) else id)<4294967296:=by
      split
      ·rename_i e
       rw [e.2];exact val_lt 4 _ (by simp; omega) (fun c hc=>hbr2 c (List.mem_of_mem_take hc))
      ·exact hid
     generalize (if k=2/\m=4 then val (r.take m) else id)=id' at h hid'
     cases e:walk id' (r.drop m) with
     |none=>rw [e] at h; cases h
     |some l=>
      rw [e] at h;simp only [Option.map_some,Option.some.injEq] at h;subst h;rcases List.mem_append.1 hu with hu|hu
      ·split at hu
       ·rw [Option.mem_toList] at hu
        exact cc2 (fun c hc=>hbr2 c (List.mem_of_mem_take hc)) hid' hu
       ·cases hu
      ·exact at1 n _ id' (by simp; omega) (fun c hc=>hbr2 c (List.mem_of_mem_drop hc)) hid' l e u hu
theorem decode_fine {b:List Nat} (hb:∀ c∈b,c<256) {us:List Up} (h:decode b=some us):∀ u∈us,right u=true/\u.Fits:=by
 unfold decode at h;split at h
 ·exact at1 _ _ 0 (Nat.le_refl _) (fun c hc=>hb c (List.mem_of_mem_drop hc)) G us h
 ·cases h
end Go.Proofs.YtafkfnodcemefaaGreat.T.Tm
set_option maxRecDepth 20000
namespace Go.Proofs.YtafkfnodcemefaaGreat.T
open _root_.Go.Proofs.Tryz (prog)
open Go.RowKit Tm
def BytesAt (w:World) (A:Option Addr) (n:Nat) (bs:List Nat):Prop:=
 bs.length=n/\n<=maxLen/\(∀ c,c∈bs->c<256)/\∀ k,k<n->∃ ad,A=some ad/\w.cell? (ad.add k)=some (Yy (bs.getD k 0:Nat))
theorem BytesAt.take_succ {w:World} {A:Option Addr} {n:Nat} {bs:List Nat} (h:BytesAt w A n bs) {k:Nat} (hk:k<n):bs.take (k+1)=bs.take k++[bs.getD k 0]:=by
 have hl:k<bs.length:=by have:=h.1; omega
 rw [List.take_succ_eq_append_getElem hl];simp [List.getD,hl]
theorem BytesAt.takeAll {w:World} {A:Option Addr} {n:Nat} {bs:List Nat} (h:BytesAt w A n bs):bs.take n=bs:=by rw [<- h.1,List.take_length]
theorem BytesAt.lt {w:World} {A:Option Addr} {n:Nat} {bs:List Nat} (h:BytesAt w A n bs) (k:Nat):bs.getD k 0<256:=by
 rw [List.getD_eq_getElem?_getD]
 cases e:bs[k]? with
 |none=>simp
 |some c=>simpa using h.2.2.1 c (List.mem_of_getElem? e)
theorem BytesAt.take_lt {w:World} {A:Option Addr} {n:Nat} {bs:List Nat} (h:BytesAt w A n bs) (k:Nat):∀ c,c∈bs.take k->c<256:=
 fun c hc=>h.2.2.1 c (List.mem_of_mem_take hc)
def cell (c:Nat):Value:= Yy (c:Int)
def cls (b:List Nat):Array Value:=(b.map cell).toArray
theorem BytesAt.held {w w':World} {A:Option Addr} {n:Nat} {bs:List Nat} (h:BytesAt w A n bs) (hb:Below w.heap.size w w'):BytesAt w' A n bs:=
 ⟨h.1,h.2.1,h.2.2.1,fun k hk=>by
  obtain ⟨ad,e,hc⟩:=h.2.2.2 k hk;exact ⟨ad,e,Go.Proofs.YtafkfnodcemefaaGreat.held hb hc⟩⟩
theorem BytesAt.of_blk {w:World} {g:Nat} {t:TypeId} {C:Array Value} (h:Blk t w g C) (bs:List Nat) (o n:Nat) (hn:n<=maxLen) (hl:bs.length=n) (hb:∀ c∈bs,c<256) (hC:∀ k,k<n->C[o+k]?=some (cell (bs.getD k 0))):BytesAt w (some (Y g o)) n bs:=
 ⟨hl,hn,hb,fun k hk=>⟨_,rfl,by rw [Addr.add_mid,h.at_ (o+k)]; exact hC k hk⟩⟩
theorem aa5 {n:Nat} (h:n<=5000):n<=maxLen:=by unfold maxLen; omega
theorem ao3 (b:List Nat) (k:Nat) (hk:k<b.length):(cls b)[k]?=some (cell (b.getD k 0)):=by simp [cls,hk]
theorem BytesAt.cls {w:World} {g:Nat} {t:TypeId} {b:List Nat} (h:Blk t w g (Go.Proofs.YtafkfnodcemefaaGreat.T.cls b)) (hb:∀ c∈b,c<256) (hl:b.length<=5000):BytesAt w (some (Y g 0)) b.length b:=
 .of_blk h b 0 b.length (aa5 hl) rfl hb (fun k hk=>by rw [Nat.zero_add]; exact ao3 b k hk)
theorem an5 (g off cap:Nat) (v:Nat) (hv:v<4294967296) (C:Array Value) (w:World) (h:Blk 5 w g C) (hs:off+4<=C.size):
  Q 57 #[Mt g off 4 cap,U v] w fun e w'=>e= .returned (.tuple #[])/\
   w'=(((w.setCell (Y g off) (cell (v / 16777216 % 256))).setCell (Y g (off+1)) (cell (v / 65536 % 256))).setCell (Y g (off+2)) (cell (v / 256 % 256))).setCell (Y g (off+3)) (cell (v % 256)):=by
 have c0:w.cell? (Y g off)=some C[off]:=(h.at_ off).trans sn;have c1:w.cell? (Y g (off+1))=some C[off+1]:=(h.at_ _).trans sn;have c2:w.cell? (Y g (off+2))=some C[off+2]:=(h.at_ _).trans sn;have c3:w.cell? (Y g (off+3))=some C[off+3]:=(h.at_ _).trans sn;have f0:=h.free off;have f1:=h.free (off+1);have f2:=h.free (off+2);have f3:=h.free (off+3);clear h;generalize C[off]=v0 at*;generalize C[off+1]=v1 at*;generalize C[off+2]=v2 at*;generalize C[off+3]=v3 at*;clear hs;go_enter Tryz.func57,Tryz.ntmps57;go_wp2;refine wp_loop_rounds 5 ?_
 iterate 5
  rw [rounds_succ];go_wp2
 go_end0;refine ⟨rfl,?_⟩;unfold cell;rw [show ((v / 16777216 % 256:Nat):Int)=(v:Int) / 16777216 by omega,show ((v / 65536 % 256:Nat):Int)=(v:Int) / 65536 % 256 by omega,show ((v / 256 % 256:Nat):Int)=(v:Int) / 256 % 256 by omega,show ((v % 256:Nat):Int)=(v:Int) % 256 by omega]
theorem au7 (g off cap:Nat) (v:Nat) (hv:v<65536) (C:Array Value) (w:World) (h:Blk 5 w g C) (hs:off+2<=C.size):
  Q 57 #[Mt g off 2 cap,U v] w fun e w'=>e= .returned (.tuple #[])/\
   w'=(w.setCell (Y g off) (cell (v / 256 % 256))).setCell (Y g (off+1)) (cell (v % 256)):=by
 have c0:w.cell? (Y g off)=some C[off]:=(h.at_ off).trans sn;have c1:w.cell? (Y g (off+1))=some C[off+1]:=(h.at_ _).trans sn;have f0:=h.free off;have f1:=h.free (off+1);clear h;generalize C[off]=v0 at*;generalize C[off+1]=v1 at*;clear hs;go_enter Tryz.func57,Tryz.ntmps57;go_wp2;refine wp_loop_rounds 3 ?_
 iterate 3
  rw [rounds_succ];go_wp2
 go_end0;refine ⟨rfl,?_⟩;unfold cell;try rw [show ((v / 256 % 256:Nat):Int)=(v:Int) / 256 by omega,show ((v % 256:Nat):Int)=(v:Int) % 256 by omega]
theorem cg3 (s c:Nat) (hs:s<16777216) (hc:c<256):bits .or .u32 ((s:Int)*256) (c:Int)=((s*256+c:Nat):Int):=by
 rw [show ((s:Int)*256)=((s*256:Nat):Int) from by omega,u32_or_nat (s*256) c G G];congr 1;have h:=Nat.two_pow_add_eq_or_of_lt (i:=8) (b:=c) G s;rw [show 2 ^ 8*s=s*256 by omega] at h;exact h.symm
theorem aj0 {k:Nat} (hk:k<=3):256 ^ k<=16777216:=by
 have:k=0\/k=1\/k=2\/k=3:=G
 rcases this with rfl|rfl|rfl|rfl<;>decide
theorem am6 (A:Option Addr) (n cap:Nat) (bs:List Nat) (w:World) (h:BytesAt w A n bs) (hn:n<=4):
  Q 38 #[.slice A n cap] w fun e w'=>e= .returned (U (Tm.val bs:Nat))/\w=w':=by
 have H:=Z h;clear h;go_enter Tryz.func38,Tryz.ntmps38;go_wp2;go_loop [3,8] (fun s i=>∃ k:Nat,k<=n/\i= I k/\s= U (Tm.val (bs.take k):Nat)) (fun _ i=>n - (intOf i).toNat)
 case atStart=>exact ⟨0,G,rfl,rfl⟩
 case round=>
  obtain ⟨k,hk,rfl,rfl⟩:=hrel;by_cases hlt:k<n
  ·obtain ⟨ad,ha,hcell⟩:=H.out.2.2.2 k hlt
   have hc:=H.out.lt k;have hm:Tm.val (bs.take k)<16777216:=Nat.lt_of_lt_of_le (Tm.val_lt k _ (by rw [List.length_take]; omega) (H.out.take_lt k)) (aj0 G);have E:Hid (Tm.val (bs.take (k+1))=Tm.val (bs.take k)*256+bs.getD k 0):=Z (by rw [H.out.take_succ hlt,Tm.val_snoc]);generalize Tm.val (bs.take k)=s at hm E ⊢;generalize bs.getD k 0=c at hc E hcell;subst ha;go_wp2;go_round
   case rel=>exact ⟨k+1,G,by go_num,by rw [E.out,cg3 s c hm hc]⟩
   case measure=>simp [intOf]; omega
  ·go_wp2
   go_ret;obtain rfl:k=n:=G
   exact ⟨ab0 (by rw [H.out.takeAll]),rfl⟩
end Go.Proofs.YtafkfnodcemefaaGreat.T
set_option maxRecDepth 20000
namespace Go.Proofs.YtafkfnodcemefaaGreat.T
open _root_.Go.Proofs.Tryz (prog)
open Go.RowKit Tm
def Ob (u:World) (g cap:Nat) (bs:List Nat):Prop:=∃ cur,Blk 5 u g cur/\cur.size=cap/\bs.length<=cap/\cap<=maxLen/\cur.toList.take bs.length=bs.map cell
section
variable {u u':World} {g cap:Nat} {bs:List Nat}
theorem Ob.lt (h:Ob u g cap bs):g<u.heap.size:=by obtain ⟨cur,h1,_⟩:=h; exact h1.lt
theorem Ob.of_block (h:Ob u g cap bs) (hb:u'.heap[g]?=u.heap[g]?):Ob u' g cap bs:=by obtain ⟨cur,h1,h2⟩:=h; exact ⟨cur,hb.trans h1,h2⟩
theorem Ob.held (h:Ob u g cap bs) (hb:Below u.heap.size u u'):Ob u' g cap bs:=h.of_block (hb.block _ h.lt)
theorem Ob.turn {L:List Nat} (h:Ob u g cap bs) (t:Turn L u u') (hg:g∉L):Ob u' g cap bs:=h.of_block (t.block _ h.lt hg)
theorem Ob.drew (h:Ob u g cap bs):Ob u.drew g cap bs:=h
theorem Ob.of_blk (h:Blk 5 u g (cls bs)) (hl:bs.length<=5000):Ob u g bs.length bs:=
 ⟨cls bs,h,by simp [cls],Nat.le_refl _,aa5 hl,List.take_of_length_le (by simp [cls])⟩
theorem Ob.bytes (h:Ob u g cap bs) (hb:∀ c∈bs,c<256) (hl:bs.length<=5000):BytesAt u (some (Y g 0)) bs.length bs:=by
 obtain ⟨cur,h1,h2,h3,h4,h5⟩:=h;refine .of_blk h1 bs 0 _ (aa5 hl) rfl hb (fun k hk=>?_);have e:(cur.toList.take bs.length)[k]?=some (cell (bs.getD k 0)):=by rw [h5]; simp [hk]
 rw [List.getElem?_take,if_pos hk] at e;simpa using e
theorem Ob.owns (h:Ob u g cap bs):u.ownsRow 0 5 1 (Lt g bs.length cap) bs.length (bs.map cell):=by
 obtain ⟨cur,h1,h2,h3,h4,h5⟩:=h;exact ⟨by simp,.inr ⟨g,cap,cur,rfl,Nat.zero_le _,h1,h3,h4,G,by rw [Nat.mul_one]; exact h5⟩⟩
end
theorem ah2:(prog.info? 5).map (fun i=>(i.zero,i.size,i.bytes))=some (some (Yy 0),1,1):=X
theorem al6 (b:List Nat):∀ v∈b.map cell,v.oneCell'=true:=by
 intro v hv;obtain ⟨c,_,rfl⟩:=List.mem_map.1 hv;rfl
theorem run_app {u:World} {g cap:Nat} {bs:List Nat} (h:Ob u g cap bs) {ad:Addr} {m:Nat} {news:List Nat} (hx:BytesAt u (some ad) m news) (hm:bs.length+m<=5000) (c:Nat) (ty:TypeId):
  ∃ g' cap' u',(Builtin.append_ #[45,45] ty #[Lt g bs.length cap,.slice (some ad) m c]).run prog u= .ok (Lt g' (bs.length+m) cap') u'/\Ob u' g' cap' (bs++news)/\Turn [g] u u'/\(g'=g\/u.heap.size<=g'):=by
 obtain ⟨i0,hi,hz0,hz1,hz2⟩:=info_parts ah2;obtain ⟨v',u',hr,hown,hgr,hnil,hat⟩:=run_append_own_at (P:=prog) u 0 45 ty 5 i0 (Yy 0) 1 1 X hi hz0 hz1 hz2 rfl (by decide) _ _ _ h.owns ad m c (news.map cell) (by simp [hx.1]) (fun j v hv=>by
   obtain ⟨hl,-,-,hc⟩:=hx;have hj:j<m:=by
    have:=(List.getElem?_eq_some_iff.1 hv).1;simp at this; omega
   obtain ⟨ad',e,h'⟩:=hc j hj
   cases e;rw [h',<- hv];have hj':j<news.length:=G
   simp [hj',cell]) (al6 _) (aa5 hm) G (Nat.zero_le _)
 rcases hown.2 with ⟨rfl,h0⟩|⟨g',cap',cur,rfl,-,hg,h1,h2,h3,h4⟩
 ·have:=(hnil.1 rfl).1
  cases this
 ·refine ⟨g',cap',u',hr,⟨cur,hg,G,by simp [hx.1]; omega,h2,?_⟩,⟨hgr.os,hgr.tape,hgr.output,hgr.size,fun i hi hn=>hgr.block i hi (fun e=>hn (by simpa [Value.ownBlock] using e))⟩,?_⟩
  ·rw [List.length_append,hx.1,List.map_append,<- h4,Nat.mul_one]
  ·rcases hat with h|h
   ·simp only [Value.ownBlock,Option.some.injEq] at h
    exact .inl h
   ·simp only [Value.ownBlock,Option.some.injEq] at h
    exact .inr G
end Go.Proofs.YtafkfnodcemefaaGreat.T
set_option maxRecDepth 20000
namespace Go.Proofs.YtafkfnodcemefaaGreat.T
open _root_.Go.Proofs.Tryz (prog)
open Go.RowKit
theorem ad2 (n:Nat) (hn:n<=32) (w:World):Q 110 #[I n] w fun e w'=>e= .returned (U (4294967295 / 2 ^ n:Nat))/\w=w':=by
 go_enter Tryz.func110,Tryz.ntmps110;go_wp2;go_ret;exact ⟨ab0 (by simp [Int.natCast_ediv]),rfl⟩
theorem ah3 (n:Nat):4294967295 / 2 ^ n<4294967296:=Nat.lt_of_le_of_lt (Nat.div_le_self _ _) G
theorem af2 (n:Nat):(4294967295:Int) / 2 ^ n=((4294967295 / 2 ^ n:Nat):Int):=by simp [Int.natCast_ediv]
theorem ao8 (a n:Nat) (ha:a<4294967296) (hn:n<=32):(bits .and .u32 (a:Int) (4294967295 / 2 ^ n)==0)=decide (a % 2 ^ (32 - n)=0):=by
 rw [af2,u32_and_nat a _ ha (ah3 n),Am.and_behind a n hn,Bool.eq_iff_iff];simp only [beq_iff_eq,decide_eq_true_eq];omega
def Pre (w:World) (g:Nat) (a:Int) (len:Int):Prop:=w.cell? (Y g 0)=some (U a)/\w.cell? (Y g 1)=some (I len)
theorem ai9 (w:World) (t:TypeId) (a len:Int):Pre (w.alloc (.cells #[U a,I len] t)) w.heap.size a len:=⟨(ab3 w _ t 0).trans rfl,(ab3 w _ t 1).trans rfl⟩
theorem af5 (a:Nat) (len:Int) (ha:a<4294967296) (w:World):
  Q 79 #[.agg #[U a,I len]] w (Rr0 w (O (Am.right a len))):=by
 by_cases h1:len<0
 ·have R:=Z (Am.right_neg (a:=a) h1)
  have d1:=df (0<=len);go_enter Tryz.func79,Tryz.ntmps79;go_wp2_with fail;obtain ⟨c0,c1⟩:=ai9 w 28 a len;have hb:=aa0 w (.cells #[U a,I len] 28);generalize w.alloc (.cells #[U a,I len] 28)=w2 at*;have HB:=Z hb;clear hb;go_quiet ((go_at_call 110; exact Calls.quiet_of_same (ac9 _ G _)));go_wp2;go_ret;exact ⟨aa4 R.out.symm,ac8 HB.out _⟩
 ·by_cases h2:32<len
  ·have R:=Z (Am.right_big (a:=a) h2)
   have d1:=dT (0<=len);have d2:=df (len<=32);go_enter Tryz.func79,Tryz.ntmps79;go_wp2_with fail;obtain ⟨c0,c1⟩:=ai9 w 28 a len;have hb:=aa0 w (.cells #[U a,I len] 28);generalize w.alloc (.cells #[U a,I len] 28)=w2 at*;have HB:=Z hb;clear hb;go_quiet ((go_at_call 110; exact Calls.quiet_of_same (ac9 _ G _)));go_wp2;go_ret;exact ⟨aa4 R.out.symm,ac8 HB.out _⟩
  ·obtain ⟨n,rfl⟩:=Int.eq_ofNat_of_zero_le (by omega:0<=len)
   have hn:n<=32:=G
   have d1:=dT (0<=(n:Int));have d2:=dT ((n:Int)<=32);clear h1 h2;have R:=Z (Am.right_in (a:=a) hn);go_enter Tryz.func79,Tryz.ntmps79;go_wp2_with fail;obtain ⟨c0,c1⟩:=ai9 w 28 a (n:Int);have hb:=aa0 w (.cells #[U a,I (n:Int)] 28);generalize w.alloc (.cells #[U a,I (n:Int)] 28)=w2 at*;have HB:=Z hb;clear hb;go_region_held3 (fun w'=>w'.cell? (Y w.heap.size 0)=some (U a)/\w'.cell? (Y w.heap.size 1)=some (I (n:Int))) (go_keep)
    (first|(go_at_call 110; refine (ad2 _ G _).mono ?_; rintro e w' ⟨rfl,rfl⟩))
   go_wp2;go_ret;exact ⟨aa4 ((ao8 a n ha hn).trans R.out.symm),HB.out.drew⟩
end Go.Proofs.YtafkfnodcemefaaGreat.T
set_option maxRecDepth 20000
namespace Go.Proofs.YtafkfnodcemefaaGreat.T
open _root_.Go.Proofs.Tryz (prog)
open Go.RowKit Tm
def ucs (a:Nat) (len:Int) (id seq met:Nat):Array Value:=#[U a,I len,U id,U seq,V met]
def Tm.Up.cs (u:Up):Array Value:=ucs u.a u.len u.id u.seq u.met
theorem bc4 (s m:Int) (w:World):Q 70 #[.agg #[U s,V m]] w (Rr0 w (O (m==65535))):=by
 go_enter Tryz.func70,Tryz.ntmps70;go_wp2;go_ret;exact ⟨rfl,(Below.refl _ _).alloc (Nat.le_refl _) _⟩
theorem af6 {s m:Int} {r:Bool} (h:(m==65535)=r) (w:World):
  Q 70 #[.agg #[U s,V m]] w (Rr0 w (O r)):=h ▸ bc4 s m w
theorem ax2 {a:Nat} {len:Int} {r:Bool} (ha:a<4294967296) (h:Am.right a len=r) (w:World):
  Q 79 #[.agg #[U a,I len]] w (Rr0 w (O r)):=h ▸ af5 a len ha w
theorem ai2 (n:Nat) (hn:n<=1000) (w:World):Q 69 #[I n] w fun e w'=>e= .returned (I (7+nb n:Nat))/\w=w':=by
 go_enter Tryz.func69,Tryz.ntmps69;go_wp2;go_ret;exact ⟨ab0 (by unfold nb; omega),rfl⟩
theorem ap1 (a:Nat) (len:Int) (id seq met:Nat) (ha:a<4294967296) (w:World):
  Q 71 #[.agg #[U a,I len,U id,U seq,V met]] w (Rr0 w (O (right ⟨a,len,id,seq,met⟩))):=by
 obtain ⟨hb0,C⟩:=nw w 71 #[U a,I len,U id,U seq,V met]
 cases hr:Am.right a len
 ·have R:=Z hr
  have E:Hid (right ⟨a,len,id,seq,met⟩=false):=Z (by unfold right; simp [hr]);have H:=Z hb0;clear hr C hb0;go_enter Tryz.func71,Tryz.ntmps71;go_wp2_with fail;refine (ax2 ha R.out _).mono ?_;rintro e w1 ⟨rfl,hb⟩;have HB:=Z (next H.out hb);clear hb;go_wp2_with fail;go_ret;exact ⟨aa4 E.out.symm,HB.out⟩
 ·have R:=Z hr
  have H:=H2 C hb0;clear hr C hb0;by_cases hs:seq<=1073741824
  ·have d1:=df ((1073741824:Int)<(seq:Int))
   go_enter Tryz.func71,Tryz.ntmps71;go_wp2_with fail;refine (ax2 ha R.out _).mono ?_;rintro e w1 ⟨rfl,hb⟩;have C1:=H.out.1.held hb;have hb1:=next H.out.2 hb;clear hb;have c2:w1.cell? (Y w.heap.size 2)=some (U id):=C1.at_ 2;have c3:w1.cell? (Y w.heap.size 3)=some (U seq):=C1.at_ 3;have c4:w1.cell? (Y w.heap.size 4)=some (V met):=C1.at_ 4;have H1:=H2 C1 hb1;clear C1 hb1;go_wp2_with fail
   cases hm:((met:Int)==65535)
   ·refine (af6 hm _).mono ?_
    rintro e w2 ⟨rfl,hb⟩;have c2':=held hb c2;have HB:=Z (next H1.out.2 hb);have E:Hid (right ⟨a,len,id,seq,met⟩=((id:Int) !=0)):=Z (by
     have hm':¬ met=65535:=by intro e; subst e; simp at hm
     unfold right;simp only [R.out,decide_eq_true hs,Bool.true_and,if_neg hm'];rw [Bool.eq_iff_iff]; simp only [bne_iff_ne]; omega)
    clear c2 c3 c4 hb H1 hm;go_wp2_with fail;go_ret;exact ⟨aa4 E.out.symm,HB.out⟩
   ·refine (af6 hm _).mono ?_
    rintro e w2 ⟨rfl,hb⟩;have c2':=held hb c2;have c3':=held hb c3;have HB:=Z (next H1.out.2 hb);have hm':met=65535:=by have:=beq_iff_eq.1 hm; omega
    have E:Hid (right ⟨a,len,id,seq,met⟩=(id==0 && seq==0)):=Z (by
     unfold right;simp only [R.out,decide_eq_true hs,Bool.true_and,if_pos hm'])
    clear c2 c3 c4 hb H1 hm hm';by_cases hi:id=0
    ·subst hi
     go_wp2_with fail;go_ret;refine ⟨aa4 ?_,HB.out⟩;rw [E.out,Bool.eq_iff_iff]; simp
    ·have d2:((id:Int)==0)=false:=beq_eq_false_iff_ne.2 G
     go_wp2_with fail;go_ret;refine ⟨aa4 ?_,HB.out⟩;rw [E.out];simp [hi]
  ·have d1:=dT ((1073741824:Int)<(seq:Int))
   have E:Hid (right ⟨a,len,id,seq,met⟩=false):=Z (by unfold right; simp [hs]);go_enter Tryz.func71,Tryz.ntmps71;go_wp2_with fail;refine (ax2 ha R.out _).mono ?_;rintro e w1 ⟨rfl,hb⟩;have C1:=H.out.1.held hb;have c3:w1.cell? (Y w.heap.size 3)=some (U seq):=C1.at_ 3;have HB:=Z (next H.out.2 hb);clear hb C1;go_wp2_with fail;go_ret;exact ⟨aa4 E.out.symm,HB.out⟩
end Go.Proofs.YtafkfnodcemefaaGreat.T
set_option maxRecDepth 20000
namespace Go.Proofs.YtafkfnodcemefaaGreat.T
open _root_.Go.Proofs.Tryz (prog)
open Go.RowKit Tm
structure Sl (w:World) (A:Option Addr) (n cap:Nat) (bs:List Nat):Prop where
 bytes:BytesAt w A n bs
 cap:n<=cap
 plain:0<n->∃ b off,A=some ⟨b,off,none⟩
theorem Sl.held {w w':World} {A:Option Addr} {n cap:Nat} {bs:List Nat} (h:Sl w A n cap bs) (hb:Below w.heap.size w w'):Sl w' A n cap bs:=⟨h.bytes.held hb,h.cap,h.plain⟩
theorem Sl.at_ {w:World} {b off n cap:Nat} {bs:List Nat} (h:Sl w (some (Y b off)) n cap bs) {k:Nat} (hk:k<n):w.cell? (Y b (off+k))=some (Yy (bs.getD k 0:Nat)):=by
 obtain ⟨ad',e,hc⟩:=h.bytes.2.2.2 k hk
 cases e
 rwa [Addr.add_mid] at hc
theorem Sl.part {w:World} {b off n cap:Nat} {bs:List Nat} (h:Sl w (some (Y b off)) n cap bs) (o m:Nat) (hm:o+m<=n):Sl w (some (Y b (off+o))) m (cap - o) ((bs.drop o).take m):=by
 obtain ⟨⟨h1,h2,h3,h4⟩,h5,-⟩:=h;refine ⟨⟨by simp; omega,G,fun c hc=>h3 c (List.mem_of_mem_drop (List.mem_of_mem_take hc)),fun k hk=>?_⟩,G,fun _=>⟨_,_,rfl⟩⟩;obtain ⟨ad',e,hc⟩:=h4 (o+k) G
 cases e;refine ⟨_,rfl,?_⟩;rw [Addr.add_mid] at hc ⊢;rw [Nat.add_assoc,hc];congr 3;have h5:o+k<bs.length:=G
 simp [List.getD,hk,h5]
theorem ae1 {w:World} {b off n cap:Nat} {bs:List Nat} (h:Sl w (some (Y b off)) n cap bs) (o m:Nat) (hm:o+m<=n) (h4:m<=4) (c:Nat):
  Q 38 #[Mt b (off+o) m c] w fun e w'=>e= .returned (U (Tm.val ((bs.drop o).take m):Nat))/\w=w':=
 am6 _ m c _ w (h.part o m hm).bytes h4
theorem ay5 {A:Option Addr} {n cap:Nat} {bs:List Nat} {w:World} (h:Sl w A n cap bs) {r:Bool} (hr:headed bs=r):
  Q 36 #[.slice A n cap] w fun e w'=>e= .returned (O r)/\w=w':=by
 have hl:=h.bytes.1;have hmx:=h.bytes.2.1;have hcap:=h.cap;have hmx':n<=9223372036854775807:=by unfold maxLen at hmx; omega
 clear hmx;by_cases h4:n<4
 ·have d1:=df ((4:Int)<=(n:Int))
  have E:Hid (r=false):=Z (by rw [<- hr]; unfold headed; rw [decide_eq_false_iff_not]; omega);clear h hr hl;go_enter Tryz.func36,Tryz.ntmps36;go_wp2_with fail;go_ret;exact ⟨aa4 E.out.symm,rfl⟩
 have d1:=dT ((4:Int)<=(n:Int));by_cases h1024:1024<n
 ·have d2:=df ((n:Int)<=1024)
  have E:Hid (r=false):=Z (by rw [<- hr]; unfold headed; rw [decide_eq_false_iff_not]; omega);clear h hr hl h1024 h4;go_enter Tryz.func36,Tryz.ntmps36;go_wp2_with fail;go_ret;exact ⟨aa4 E.out.symm,rfl⟩
 have d2:=dT ((n:Int)<=1024);obtain ⟨b,off,rfl⟩:=h.plain og;have c0:w.cell? (Y b off)=some (Yy (bs.getD 0 0:Nat)):=h.at_ (k:=0) og;have c1:w.cell? (Y b (off+1))=some (Yy (bs.getD 1 0:Nat)):=h.at_ (k:=1) og;have G:=ae1 h 2 2 og og (cap - 2);have ev:Tm.val ((bs.drop 2).take 2)=bs.getD 2 0*256+bs.getD 3 0:=by
  have:(bs.drop 2).take 2=[bs.getD 2 0,bs.getD 3 0]:=by
   apply List.ext_getElem
   ·simp; omega
   ·intro k h1 h2
    have hk:k=0\/k=1:=by simp at h2; omega
    rcases hk with rfl|rfl<;>simp [List.getD,show 2<bs.length by omega,show 3<bs.length by omega]
  rw [this]; simp [Tm.val]
 rw [ev] at G;have s2:(Instr.slice 45 (Mt b off n cap) (some (I 2)) (some (I 4)) none).run prog w= .ok (Mt b (off+2) 2 (cap - 2)) w:=by
  have d1:(4:Int)<=(cap:Int):=og;have d2:¬ cap=2:=og;go_simp
 have hd:headed bs=(decide (bs.getD 0 0=87) && decide (bs.getD 1 0=1) && decide (bs.getD 2 0*256+bs.getD 3 0=n - 4)):=by
  unfold headed;rw [hl,Bool.eq_iff_iff];simp only [decide_eq_true_eq,Bool.and_eq_true];constructor
  ·rintro ⟨-,-,x,y,z⟩; exact ⟨⟨x,y⟩,z⟩
  ·rintro ⟨⟨x,y⟩,z⟩; exact ⟨by omega,og,x,y,z⟩
 rw [hd] at hr;have hx:=h.bytes.lt 0;have hy:=h.bytes.lt 1;have hz:=h.bytes.lt 2;have hu:=h.bytes.lt 3;clear h hl ev hd;generalize bs.getD 0 0=x0 at*;generalize bs.getD 1 0=x1 at*;generalize bs.getD 2 0=x2 at*;generalize bs.getD 3 0=x3 at*;by_cases e0:x0=87
 ·by_cases e1:x1=1
  ·have d3:((x0:Int)==87)=true:=beq_iff_eq.2 og
   have d4:((x1:Int)==1)=true:=beq_iff_eq.2 og;have E:Hid (r=(((x2*256+x3:Nat):Int)==(n:Int) - 4)):=Z (by rw [<- hr,Bool.eq_iff_iff]; simp only [e0,e1,decide_true,Bool.true_and,decide_eq_true_eq,beq_iff_eq]; omega);have hlt:x2*256+x3<65536:=og;clear hr hx hy hz hu;generalize x2*256+x3=q at*;clear e0 e1;go_enter Tryz.func36,Tryz.ntmps36;go_wp2_with fail;refine G.mono ?_;rintro e w1 ⟨rfl,rfl⟩;go_wp2_with fail;go_ret;exact ⟨aa4 E.out.symm,rfl⟩
  ·have d3:((x0:Int)==87)=true:=beq_iff_eq.2 og
   have d4:((x1:Int)==1)=false:=beq_eq_false_iff_ne.2 og;have E:Hid (r=false):=Z (by rw [<- hr]; simp [e1]);clear hr hx hy hz hu G s2 e0 e1;go_enter Tryz.func36,Tryz.ntmps36;go_wp2_with fail;go_ret;exact ⟨aa4 E.out.symm,rfl⟩
 ·have d3:((x0:Int)==87)=false:=beq_eq_false_iff_ne.2 og
  have E:Hid (r=false):=Z (by rw [<- hr]; simp [e0]);clear hr hx hy hz hu G s2 e0;go_enter Tryz.func36,Tryz.ntmps36;go_wp2_with fail;go_ret;exact ⟨aa4 E.out.symm,rfl⟩
def Tm.pb (bs:List Nat):Nat×Bool:=if bs.getD 0 0=0 then (1,true) else if bs.length<2 then (0,false) else (2+bs.getD 1 0,decide (2+bs.getD 1 0<=bs.length))
theorem bb4 {b off n cap:Nat} {bs:List Nat} {w:World} (h:Sl w (some (Y b off)) n cap bs) (h0:0<n) {m:Nat} {r:Bool} (hr:pb bs=(m,r)):
  Q 37 #[Mt b off n cap] w fun e w'=>e= .returned (.tuple #[I (m:Nat),O r])/\w=w':=by
 have hl:=h.bytes.1;have hmx:=h.bytes.2.1;have hmx':n<=9223372036854775807:=by unfold maxLen at hmx; omega
 clear hmx;have hx:=h.bytes.lt 0;have hy:=h.bytes.lt 1;have c0:w.cell? (Y b off)=some (Yy (bs.getD 0 0:Nat)):=h.at_ (k:=0) G;unfold pb at hr;rw [hl] at hr;by_cases e0:bs.getD 0 0=0
 ·rw [if_pos e0] at hr
  cases hr;rw [e0] at c0;clear h hl e0 hx hy;go_enter Tryz.func37,Tryz.ntmps37;go_wp2_with fail;go_ret2;exact ⟨rfl,rfl⟩
 ·rw [if_neg e0] at hr
  have d0:(((bs.getD 0 0:Nat):Int)==0)=false:=beq_eq_false_iff_ne.2 G;by_cases e2:n<2
  ·rw [if_pos e2] at hr
   cases hr;have d1:=dT ((n:Int)<2);clear h hl e0 hx hy;generalize bs.getD 0 0=x0 at*;go_enter Tryz.func37,Tryz.ntmps37;go_wp2_with fail;go_ret2;exact ⟨rfl,rfl⟩
  ·rw [if_neg e2] at hr
   have c1:w.cell? (Y b (off+1))=some (Yy (bs.getD 1 0:Nat)):=h.at_ (k:=1) G;have d1:=df ((n:Int)<2);clear h hl e0;generalize bs.getD 0 0=x0 at*;generalize bs.getD 1 0=x1 at*;obtain ⟨hm,hr2⟩:=Prod.mk.inj hr;subst hm;have E:Hid (r=decide (2+(x1:Int)<=(n:Int))):=Z (by rw [<- hr2,decide_eq_decide]; omega);clear hr hr2;go_enter Tryz.func37,Tryz.ntmps37;go_wp2_with fail;go_ret2;exact ⟨by rw [E.out]; push_cast; rfl,rfl⟩
end Go.Proofs.YtafkfnodcemefaaGreat.T
set_option maxRecDepth 20000
namespace Go.Proofs.YtafkfnodcemefaaGreat.T
open _root_.Go.Proofs.Tryz (prog)
open Go.RowKit Tm
theorem Sl.of_part {w:World} {A A':Option Addr} {n cap k m cap':Nat} {bs:List Nat} (h:Sl w A n cap bs) (hk:k+m<=n) (hc:m<=cap') (hA:A'=if cap=k then A else A.map (·.add k)):Sl w A' m cap' ((bs.drop k).take m):=by
 by_cases h0:0<m
 ·have hne:¬ cap=k:=by have:=h.cap; omega
  obtain ⟨b,off,rfl⟩:=h.plain G;rw [if_neg hne] at hA;simp only [Option.map_some,Addr.add_mid] at hA;subst hA;have:=h.part k m hk;exact ⟨this.bytes,hc,this.plain⟩
 ·obtain rfl:m=0:=G
  rw [List.take_zero];exact ⟨⟨rfl,by unfold maxLen; omega,sn,fun j hj=>absurd hj G⟩,hc,fun h=>absurd h G⟩
theorem bn5 {w:World} {A:Option Addr} {n cap:Nat} {bs:List Nat} (h:Sl w A n cap bs) {k:Nat} (hk:k<=n) {z:Int} (hz:z=k):
  ∃ A',(Instr.slice 45 (.slice A n cap) (some (I z)) none none).run prog w= .ok (.slice A' (n - k) (cap - k)) w/\Sl w A' (n - k) (cap - k) (bs.drop k)/\A'=if cap=k then A else A.map (·.add k):=by
 subst hz;have hcap:=h.cap;refine ⟨_,?_,?_,rfl⟩
 ·by_cases e:cap=k
  ·have d1:(k:Int)<=(n:Int):=G
   rw [if_pos e];subst e;go_simp
  ·have d1:(k:Int)<=(n:Int):=G
   rw [if_neg e];go_simp
 ·have:=h.of_part (A':=if cap=k then A else A.map (·.add k)) (m:=n - k) (k:=k) (cap':=cap - k) G G rfl
  rwa [List.take_of_length_le (by rw [List.length_drop,h.bytes.1]; omega)] at this
theorem az6:(prog.info? 5).map (·.size)=some 1:=X
theorem cl9 {w:World} {g:Nat} (hg:Blk 143 w g (cls [0,0,0,0])) {A:Option Addr} {n cap:Nat} {bs:List Nat} (h:Sl w A n cap bs) (ty:TypeId):
  ∃ w',(Builtin.copy_ #[45,45] ty #[Lt g 4 4,.slice A n cap]).run prog w= .ok (I (Nat.min n 4:Nat)) w'/\Blk 143 w' g (cls ((bs++[0,0,0,0]).take 4))/\Turn [g] w w':=by
 by_cases h0:n=0
 ·subst h0
  have hl:bs=[]:=List.length_eq_zero_iff.1 h.bytes.1;subst hl;refine ⟨w,?_,hg,.refl _ _⟩;have:=run_copy_none (P:=prog) w 45 45 ty 5 (some (Y g 0)) A 4 4 0 cap X az6 sn;rw [this]; rfl
 ·obtain ⟨b,off,rfl⟩:=h.plain G
  have hl:=h.bytes.1;have hmin:((bs.take 4).map cell).length=Nat.min n 4:=by simp [hl,Nat.min_comm]
  have hrun:=run_copy_row (P:=prog) w 45 45 ty 5 g 0 4 4 ⟨b,off,none⟩ n cap (cls [0,0,0,0]) 143 ((bs.take 4).map cell) X az6 hg hmin
   (fun j v hv=>by
    rw [List.getElem?_map,List.getElem?_take] at hv;split at hv
    ·have hj:j<n:=by
      rcases Nat.lt_or_ge j n with h'|h'
      ·exact h'
      ·rw [List.getElem?_eq_none G] at hv; cases hv
     rw [Addr.add_mid,h.at_ hj,<- hv];have hj':j<bs.length:=G
     simp [hj',cell]
    ·cases hv) (by simp only [Nat.zero_add,List.length_map,List.length_take]; exact Nat.le_trans (Nat.min_le_left _ _) (by decide)) (al6 _)
  refine ⟨_,?_,setRow_heap w g _ _ _ _ hg,⟨rfl,rfl,rfl,by simp [World.setRow],fun i _ hn=>setRow_other w g i _ (by simpa using hn)⟩⟩;rw [hrun];congr 1
  ·rw [hmin]; rfl
  ·congr 1
   apply congrArg;have hz:(cls [0,0,0,0]).toList=[0,0,0,0].map cell:=by simp [cls]
   rw [hz,List.take_zero,List.nil_append,Nat.zero_add,List.length_map,<- List.map_drop,<- List.map_append];congr 1;rw [List.take_append,List.length_take];congr 1;rcases Nat.lt_or_ge bs.length 4 with h4|h4
   ·have:bs.length=0\/bs.length=1\/bs.length=2\/bs.length=3:=G
    rcases this with h|h|h|h<;>rw [h]<;>rfl
   ·rw [Nat.min_eq_left h4,show 4 - bs.length=0 by omega]; rfl
end Go.Proofs.YtafkfnodcemefaaGreat.T
set_option maxRecDepth 20000
namespace Go.Proofs.YtafkfnodcemefaaGreat.T
open _root_.Go.Proofs.Tryz (prog)
section
open Go.RowKit Tm
variable {x:List Nat}{a id met seq:Nat}{w:World}{t:TypeId}
def Tm.upOf (x:List Nat) (id:Nat):Up:=⟨Tm.val ((x.drop 7++[0,0,0,0]).take 4),x.getD 0 0,if Tm.val ((x.drop 5).take 2)=65535 then 0 else id,Tm.val ((x.drop 1).take 4),Tm.val ((x.drop 5).take 2)⟩
def Tm.fits (x:List Nat):Bool:=decide (7<=x.length) && decide (x.length=7+nb (x.getD 0 0))
theorem cz0 (h:fits x=false):told x id=none:=by
 unfold fits at h;unfold told;by_cases h1:x.length<7
 ·rw [if_pos h1]
 ·rw [if_neg h1]
  by_cases h2:x.length=7+nb (x.getD 0 0)
  ·rw [decide_eq_true h2,decide_eq_true (show 7<=x.length by omega)] at h; cases h
  ·rw [if_pos h2]
theorem cp6 (h:fits x=true):told x id=if right (upOf x id) then some (upOf x id) else none:=by
 unfold fits at h;simp only [Bool.and_eq_true,decide_eq_true_eq] at h;unfold told;rw [if_neg G,if_neg G];rfl
theorem cp5:∃ d,prog.underlying 71=some d/\d.isRow=true:=⟨_,rfl,rfl⟩
theorem cb9 (a:Nat) (len:Int) (id seq met:Nat):(prog.info? 71).map (·.size)=some (ucs a len id seq met).size:=by
 show _=some 5
 kernel_rfl
theorem ak3 {fn:Func} {p u:Tmp} (h:fn.results=#[.cell p 71,.tmp u]) {tmps:Array Value} {w:World} {g:Nat} {a:Nat} {len:Int} {id seq met:Nat} {v:Value} (hp:tmps.getD p undef= K g) (hu:tmps.getD u undef=v)
  (hb:Blk 71 w g (ucs a len id seq met)):(results fn tmps).run prog w= .ok (.tuple #[.agg (ucs a len id seq met),v]) w:=by
 obtain ⟨d,h1,h2⟩:=cp5;rw [results_cell_tmp h,hp,hu];have hl:=run_loadVar_row (P:=prog) w g 71 71 _ (0,0) d hb h1 (by cases d<;>first|rfl|cases h2) (cb9 a len id seq met);simp [asAddr,hl]
theorem _root_.Go.Proofs.YtafkfnodcemefaaGreat.Blk.up_there {g:Nat} {len:Int} (h:Blk t w g (ucs a len id seq met)):w.there g 0 5:=fun j hj=>by
 rw [Nat.zero_add];refine ⟨?_,h.free j⟩;rw [h.at_ j,Array.getElem?_eq_getElem (show j<(ucs a len id seq met).size from hj)];rfl
theorem up_one (a:Nat) (len:Int) (id seq met:Nat):(ucs a len id seq met).all (·.oneCell')=true:=by simp [ucs,Value.oneCell']
theorem aq3 (vs:List Value) (C:Array Value) (h:C.size=vs.length):over C 0 vs=vs.toArray:=by
 apply Array.ext_getElem?;intro k;rw [ah7 _ _ _ G,Nat.zero_add];by_cases hk:k<vs.length
 ·rw [if_pos G]; simp
 ·rw [if_neg G,Array.getElem?_eq_none G,Array.getElem?_eq_none (by simp; omega)]
theorem _root_.Go.Proofs.YtafkfnodcemefaaGreat.Blk.up_over {b:Nat} {len:Int} {a':Nat} {len':Int} {id' seq' met':Nat} (h:Blk t w b (ucs a len id seq met)):
  Blk t (w.setCells b 0 (ucs a' len' id' seq' met').toList) b (ucs a' len' id' seq' met'):=by
 have h2:=h.setCells (ucs a' len' id' seq' met').toList 0
 rwa [aq3 _ _ (by rfl)] at h2
theorem bu7 {A:Option Addr} {n cap:Nat} {bs:List Nat} (h:Sl w A n cap bs) (hf:fits bs=false) (id:Nat):
  Q 39 #[.slice A n cap,U id] w (Rr0 w (.tuple #[.agg (ucs 0 0 0 0 0),O false])):=by
 have hl:=h.bytes.1;have hmx:=h.bytes.2.1;have hmx':n<=9223372036854775807:=by unfold maxLen at hmx; omega
 clear hmx;have hZ:Blk 71 (w.alloc (.cells #[U 0,I 0,U 0,U 0,V 0] 71)) w.heap.size (ucs 0 0 0 0 0):=Blk.new w _ _;have hb:=aa0 w (.cells #[U 0,I 0,U 0,U 0,V 0] 71);have h1:=h.held hb;by_cases h7:n<7
 ·have d1:=dT ((n:Int)<7)
  have T:=H2 hZ hb;clear hZ hb h h1 hf hl;go_enter Tryz.func39,Tryz.ntmps39;go_wp2_with fail;generalize w.alloc _=w2 at*;exact bodyPost_ret (v:= .tuple #[.agg (ucs 0 0 0 0 0),O false]) (ak3 (p:=4) (u:=5) X rfl rfl T.out.1) rfl ⟨rfl,T.out.2⟩
 ·obtain ⟨b,off,rfl⟩:=h.plain G
  have d1:=df ((n:Int)<7);have hx:=h.bytes.lt 0;have c0:(w.alloc (.cells #[U 0,I 0,U 0,U 0,V 0] 71)).cell? (Y b off)=some (Yy (bs.getD 0 0:Nat)):=h1.at_ (k:=0) G;have hne:¬ n=7+nb (bs.getD 0 0):=fun e=>by
   unfold fits at hf;rw [hl,decide_eq_true e,decide_eq_true (by omega:7<=n)] at hf
   cases hf
  generalize bs.getD 0 0=x0 at*;have d2:((n:Int)==((7+nb x0:Nat):Int))=false:=beq_eq_false_iff_ne.2 G;have T:=H2 hZ hb;clear hZ hb h h1 hf hl hne;go_enter Tryz.func39,Tryz.ntmps39;go_wp2_with fail;generalize w.alloc _=w2 at*;refine (ai2 x0 G _).mono ?_;rintro e w' ⟨rfl,rfl⟩;generalize 7+nb x0=q at*;go_wp2_with (first|(refine wpList_store_mid (P:=prog) rfl 71 (.tmp 4) (.tmp 21) rfl w.heap.size 0 (ucs 0 0 0 0 0) rfl rfl T.out.1.up_there (cb9 0 0 0 0 0) (up_one 0 0 0 0 0) ?_)|fail);refine bodyPost_ret (v:= .tuple #[.agg (ucs 0 0 0 0 0),O false]) (ak3 (p:=4) (u:=5) X rfl rfl T.out.1.up_over) rfl ⟨rfl,?_⟩;exact T.out.2.trans ((Turn.setCells (L:=[w.heap.size]) w2 sn 0 _).below sn T.out.2.size)
end
end Go.Proofs.YtafkfnodcemefaaGreat.T
namespace Go.Proofs.YtafkfnodcemefaaGreat
open _root_.Go.Proofs.Tryz (prog)
section
open Go.RowKit
section
variable {α:Type} {cl:α->List Value} {k:Nat}
end
end
section
open Go.RowKit Go.Maps
def clampCost (c:Int):Int:=if c<1 then 1 else if 1000<c then 1000 else c
def far (m c:Int):Int:=if 65535<m+clampCost c then 65535 else m+clampCost c
theorem ao2 {m c:Int} (hm:0<=m):0<=far m c/\far m c<=65535:=by unfold far clampCost; (repeat' split)<;>omega
theorem az2 (s m c:Int) (hm:0<=m) (hm2:m<=65535) (w:World):
  Q 92 #[.agg #[U s,V m],I c] w (Rr0 w (.agg #[U s,V (far m c)])):=by
 go_enter Tryz.func92,Tryz.ntmps92;go_wp2;all_goals
  refine bodyPost_ret (v:= .agg #[U s,V (far m c)]) ?_ rfl ⟨rfl,((Below.refl _ _).alloc (Nat.le_refl _) _).alloc sn _⟩;simp [results,Tryz.results92,go_sem];unfold far clampCost
  (repeat' split)<;>omega
end
section
open Go.RowKit Go.Maps Rm
def rtX (tb:Option Nat) (c:Nat->Int) (now:Int) (seq:Nat) (since:Int):List Value:=[.map tb,I (c 0),I (c 1),I (c 2),I (c 3),I (c 4),I (c 5),I (c 6),I (c 7),I now,U seq,I since]
structure Jr where
 d:Nat
 first:Nat
 size:Nat
 gen:Nat
 len:Nat
 laid:Bool
def Jr.X (j:Jr):List Value:=lgX j.d j.first j.size j.gen j.len j.laid
structure Mr where
 id:Nat
 sm:Sm
 f:Ways
 c:Nat->Int
 now:Int
 seq:Nat
 since:Int
 d:Nat
def Mr.C (M:Mr) (o fl:Option Nat) (j:Jr):Option Nat->Array Value:=fun tb=>(Value.int .u32 M.id::Value.int .u32 M.sm.lease::Value.map o::Value.map fl::(j.X++rtX tb M.c M.now M.seq M.since)).toArray
instance (M:Mr) (o fl:Option Nat) (j:Jr):Ten (M.C o fl j):=⟨fun _=>rfl,fun _ _=>rfl⟩
structure Mr.Fits (M:Mr):Prop where
 id:0<M.id/\M.id<4294967296
 f:∀ k r,M.f k=some r->r.Fits
 c:∀ k,0<=M.c k/\M.c k<=1000
 now:0<=M.now/\M.now<=1000000
 seq:M.seq<=1073741824
 since:0<=M.since/\M.since<=M.now
structure Rr (w:World) (R:Nat) (o fl tb:Option Nat) (j:Jr) (N n:Nat) (M:Mr):Prop where
 nt:Notes 116 (j.X++rtX tb M.c M.now M.seq M.since) w R o fl M.id N M.sm
 mp:Mo rkE w tb n (vals M.f)
 apart:∀ b,tb=some b->o≠some b/\fl≠some b
 fits:M.Fits
def rp (R:Nat) (o fl tb:Option Nat):List Nat:=fp R o fl++tb.toList
section
variable {w w':World} {R:Nat} {o fl tb:Option Nat} {j:Jr} {N n:Nat} {M:Mr}
theorem ae6 {x:Nat}:x∈rp R o fl tb↔x=R\/o=some x\/fl=some x\/tb=some x:=by
 unfold rp;rw [List.mem_append,ab6]
 cases tb<;>simp [or_assoc,eq_comm]
theorem Rr.turn {L:List Nat} (h:Rr w R o fl tb j N n M) (t:Turn L w w') (hL:∀ x,x∈rp R o fl tb->x∉L):Rr w' R o fl tb j N n M:=by
 obtain ⟨cn,cm,hnm,hS⟩:=h.nt;exact ⟨⟨cn,cm,hnm,hS.turn t (fun x hx=>hL x (List.mem_append_left _ hx))⟩,h.mp.of_block (fun b hb=>t.block b (h.mp.lt hb) (hL b (ae6.2 (.inr (.inr (.inr hb)))))),h.apart,h.fits⟩
theorem Rr.held (h:Rr w R o fl tb j N n M) (hb:Below w.heap.size w w'):Rr w' R o fl tb j N n M:=h.turn (L:=[]) (.of_below _ hb) sn
theorem Rr.head (h:Rr w R o fl tb j N n M):Blk 116 w R (M.C o fl j tb):=by
 obtain ⟨cn,cm,hnm,hS⟩:=h.nt;exact hS.head
theorem Rr.tab (h:Rr w R o fl tb j N n M):Tb (M.C o fl j) w R tb n M.f:=⟨h.head,h.mp⟩
theorem Rr.lt (h:Rr w R o fl tb j N n M) {x:Nat} (hx:x∈rp R o fl tb):x<w.heap.size:=by
 rcases List.mem_append.1 hx with h1|h1
 ·obtain ⟨cn,cm,hnm,hS⟩:=h.nt
  exact hS.lt h1
 ·exact h.mp.lt (by simpa using h1)
theorem ac4 (h:Rr w R o fl tb j N n M):Q 24 #[K R] w (Rr0 w (K R)):=by
 obtain ⟨cn,cm,hnm,hS⟩:=h.nt;have HS:=cc9 hS;clear h hS;go_enter Tryz.func24,Tryz.ntmps24;go_wp2_with fail;refine HS.mono ?_;rintro e w' ⟨rfl,rfl⟩;go_wp2_with fail;go_ret;exact ⟨rfl,.refl _ _⟩
def cAt (c:Nat->Int) (n:Int):Int:=if n<0\/8<=n then 0 else c n.toNat
theorem Rr.cost_cell (h:Rr w R o fl tb j N n M) {k:Nat} (hk:k<8):w.cell? (Y R (11+k))=some (I (M.c k)):=by
 have hh:=h.head;have:k=0\/k=1\/k=2\/k=3\/k=4\/k=5\/k=6\/k=7:=G
 rcases this with rfl|rfl|rfl|rfl|rfl|rfl|rfl|rfl
 ·exact hh.at_ 11
 ·exact hh.at_ 12
 ·exact hh.at_ 13
 ·exact hh.at_ 14
 ·exact hh.at_ 15
 ·exact hh.at_ 16
 ·exact hh.at_ 17
 ·exact hh.at_ 18
theorem bk9 (h:Rr w R o fl tb j N n M) (z:Int):Q 40 #[K R,I z] w fun e w'=>e= .returned (I (cAt M.c z))/\w=w':=by
 by_cases h1:z<0
 ·have E:=Z (show cAt M.c z=0 by unfold cAt; rw [if_pos (.inl h1)])
  have d1:decide (z<0)=true:=decide_eq_true h1;clear h;go_enter Tryz.func40,Tryz.ntmps40;go_wp2;go_ret;exact ⟨ab0 E.out.symm,rfl⟩
 ·have d1:decide (z<0)=false:=decide_eq_false h1
  by_cases h2:(8:Int)<=z
  ·have E:=Z (show cAt M.c z=0 by unfold cAt; rw [if_pos (.inr h2)])
   have d2:decide ((8:Int)<=z)=true:=decide_eq_true h2;clear h;go_enter Tryz.func40,Tryz.ntmps40;go_wp2;go_ret;exact ⟨ab0 E.out.symm,rfl⟩
  ·obtain ⟨k,rfl⟩:=Int.eq_ofNat_of_zero_le (show 0<=z by omega)
   have hk:k<8:=G
   have E:=Z (show cAt M.c (k:Int)=M.c k by unfold cAt; rw [if_neg G]; simp);have d2:decide ((8:Int)<=(k:Int))=false:=decide_eq_false h2;have c:=h.cost_cell hk;clear h h1 h2;go_enter Tryz.func40,Tryz.ntmps40;go_wp2;go_ret;exact ⟨ab0 E.out.symm,rfl⟩
def Mr.owns (M:Mr) (p:Pk):Bool:=(M.sm.own p).getD false
theorem ba7 (h:Rr w R o fl tb j N n M) {a:Nat} {len:Int} (hp:Pk.ok ⟨a,len⟩):Q 60 #[K R,.agg #[U a,I len]] w (Rr0 w (O (M.owns ⟨a,len⟩))):=by
 obtain ⟨v,hv⟩:=ey (M.owns ⟨a,len⟩);obtain ⟨ok,hok⟩:∃ ok,(M.sm.own ⟨a,len⟩).isSome=ok:=⟨_,rfl⟩;obtain ⟨hb,PB⟩:=nw w 28 #[U a,I len];have h1:=h.held hb;generalize hW:w.alloc (.cells #[U a,I len] 28)=W at*;have HW:=Z hW;have hS:∀ (d:Nat) (os:Array Obj),Q 24 #[K R] (Sort.grow (redrawn W d) os) fun e w'=>e= .returned (K R)/\Below (Sort.grow (redrawn W d) os).heap.size (Sort.grow (redrawn W d) os) w':=fun d os=>ac4 (h1.held (below_regrown W d os))
 have hO:∀ (d:Nat) (os:Array Obj),Q 80 #[K R,.agg #[U a,I len]] (Sort.grow (redrawn W d) os) fun e w'=>e= .returned (.tuple #[O v,O ok])/\Below (Sort.grow (redrawn W d) os).heap.size (Sort.grow (redrawn W d) os) w':=fun d os=>by
  obtain ⟨cn,cm,hnm,hS⟩:=(h1.held (below_regrown W d os)).nt;refine cg0 hS hp ?_ hok;rw [<- hv];unfold Mr.owns
  cases M.sm.own ⟨a,len⟩<;>rfl
 have p0:=cell_regrown (PB.at_ 0);have p1:=cell_regrown (PB.at_ 1);have HB:=Z hb;clear h h1 hW PB hb;go_enter Tryz.func60,Tryz.ntmps60;go_upto_region 1 with fail;rw [HW.out];refine wp_region_quiet_below X X ?_
 repeat (go_big_quiet_step (first|(go_at_call 24; exact Calls.regrown_of (hS _ _))|(go_at_call 80; exact Calls.regrown_of (hO _ _))))
 refine wpQuiet_nil ?_;intro _ hw';obtain ⟨⟨dq,osq⟩,hw''⟩:=hw';subst hw'';have hbz:=next HB.out (below_regrown W dq osq);clear hS hO p0 p1;go_wp2;go_ret;exact ⟨aa4 hv.symm,hbz⟩
end
end
end Go.Proofs.YtafkfnodcemefaaGreat
