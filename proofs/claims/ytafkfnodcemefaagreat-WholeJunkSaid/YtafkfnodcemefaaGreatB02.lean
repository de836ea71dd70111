import Derived.Test.YtafkfnodcemefaaGreatB01
set_option maxHeartbeats 8000000
namespace Go.Proofs.YtafkfnodcemefaaGreat
section
open Go.RowKit
variable {b fuel g i:Nat}{t:TypeId}{l:List Oper}{a:Act}{w:World}{o:Oper}
theorem ci6 {i:Int} (h1:-9223372036854775808<=i) (h2:i<=9223372036854775807):(Lit.int .i64 i).wf=true:=by
 have e1:IntKind.i64.min=-9223372036854775808:=rfl;have e2:IntKind.i64.max=9223372036854775807:=rfl;simp only [Lit.wf,Bool.and_eq_true,decide_eq_true_eq];omega
structure Turn (L:List Nat) (w w':World):Prop where
 os:w'.os=w.os
 tape:w'.tape=w.tape
 output:w'.output=w.output
 size:w.heap.size<=w'.heap.size
 block:∀ i,i<w.heap.size->i∉L->w'.heap[i]?=w.heap[i]?
section
variable {L:List Nat} {w w' w2:World}
theorem Turn.refl (L:List Nat) (w:World):Turn L w w:=⟨rfl,rfl,rfl,Nat.le_refl _,fun _ _ _=>rfl⟩
theorem Turn.trans (h:Turn L w w') (k:Turn L w' w2):Turn L w w2:=
 ⟨k.os.trans h.os,k.tape.trans h.tape,k.output.trans h.output,Nat.le_trans h.size k.size,fun i hi hn=>(k.block i (Nat.lt_of_lt_of_le hi h.size) hn).trans (h.block i hi hn)⟩
theorem Turn.of_below (L:List Nat) (h:Below w.heap.size w w'):Turn L w w':=⟨h.os,h.tape,h.output,h.size,fun i hi _=>h.block i hi⟩
theorem Turn.and_below (h:Turn L w w') (k:Below w'.heap.size w' w2):Turn L w w2:=h.trans (.of_below L k)
theorem Turn.of_grown (h:w.grownBy w' (some b)) (hb:b∈L):Turn L w w':=⟨h.os,h.tape,h.output,h.size,fun i hi hn=>h.block i hi (fun e=>hn (by cases e; exact hb))⟩
theorem Turn.below {B:Nat} (h:Turn L w w') (hL:∀ i,i∈L->B<=i) (hB:B<=w.heap.size):Below B w w':=
 ⟨h.os,h.tape,h.output,h.size,fun i hi=>h.block i G (fun hm=>by have:=hL i hm; omega)⟩
theorem Turn.mono {L':List Nat} (h:Turn L w w') (hL:∀ i,i∈L->i∈L'):Turn L' w w':=⟨h.os,h.tape,h.output,h.size,fun i hi hn=>h.block i hi (fun hm=>hn (hL i hm))⟩
theorem Turn.setCell (w:World) {p:Addr} (hp:p.block∈L) (u:Value):Turn L w (w.setCell p u):=
 ⟨rfl,rfl,rfl,by simp [World.setCell],fun i _ hn=>Below.heap_setCell _ _ _ _ (fun e=>hn (e ▸ hp))⟩
theorem Turn.alloc (h:Turn L w w') (o:Obj):Turn L w (w'.alloc o):=h.and_below (aa0 _ _)
theorem Turn.drew (h:Turn L w w'):Turn L w w'.drew:=⟨h.os,h.tape,h.output,h.size,h.block⟩
theorem Turn.fresh (h:Turn L w w') (k:Turn [g] w' w2) (hg:w.heap.size<=g):Turn L w w2:=
 ⟨k.os.trans h.os,k.tape.trans h.tape,k.output.trans h.output,Nat.le_trans h.size k.size,fun i hi hn=>(k.block i (Nat.lt_of_lt_of_le hi h.size) (by simp; omega)).trans (h.block i hi hn)⟩
theorem Turn.cell (h:Turn L w w') {a:Addr} {v:Value} (hc:w.cell? a=some v) (ha:a.block∉L):w'.cell? a=some v:=by
 rw [World.cell?_of_block (h.block _ (aw8 hc) ha)]; exact hc
theorem Blk.turn {cs:Array Value} (k:Blk t w g cs) (h:Turn L w w') (hg:g∉L):Blk t w' g cs:=(h.block g k.lt hg).trans k
end
theorem ae7 (b:Nat):∀ (vs:List Value) (o:Nat) (w:World) (i:Nat),i≠b->(w.setCells b o vs).heap[i]?=w.heap[i]?
 |[],_,_,_,_=>rfl
 |v::r,o,w,i,h=>by
  rw [World.setCells,ae7 b r (o+1) _ i h];exact Below.heap_setCell _ _ _ _ h
theorem setCells_size (b:Nat):∀ (vs:List Value) (o:Nat) (w:World),(w.setCells b o vs).heap.size=w.heap.size
 |[],_,_=>rfl
 |v::r,o,w=>by rw [World.setCells,setCells_size b r]; simp [World.setCell]
theorem ab8 (b:Nat):∀ (vs:List Value) (o:Nat) (w:World),(w.setCells b o vs).os=w.os/\(w.setCells b o vs).tape=w.tape/\(w.setCells b o vs).output=w.output
 |[],_,_=>⟨rfl,rfl,rfl⟩
 |v::r,o,w=>by rw [World.setCells]; exact ab8 b r (o+1) _
theorem Turn.setCells {L:List Nat} (w:World) {b:Nat} (hb:b∈L) (o:Nat) (vs:List Value):Turn L w (w.setCells b o vs):=
 ⟨(ab8 b vs o w).1,(ab8 b vs o w).2.1,(ab8 b vs o w).2.2,by rw [setCells_size]; exact Nat.le_refl _,fun i _ hn=>ae7 b vs o w i (fun e=>hn (e ▸ hb))⟩
def over (C:Array Value) (o:Nat):List Value->Array Value
 |[]=>C
 |v::r=>over (C.setIfInBounds o v) (o+1) r
theorem av0:∀ (vs:List Value) (C:Array Value) (o:Nat),(over C o vs).size=C.size
 |[],_,_=>rfl
 |v::r,C,o=>by rw [over,av0 r]; simp
theorem ah7:∀ (vs:List Value) (C:Array Value) (o:Nat),o+vs.length<=C.size->∀ k:Nat,(over C o vs)[k]?=if o<=k/\k<o+vs.length then vs[k - o]? else C[k]?
 |[],C,o,_,k=>by rw [over,if_neg sn]
 |v::r,C,o,h,k=>by
  simp only [List.length_cons] at h;rw [over,ah7 r (C.setIfInBounds o v) (o+1) (by simp; omega)];by_cases h1:o+1<=k/\k<o+1+r.length
  ·rw [if_pos h1,if_pos (by simp only [List.length_cons]; omega)]
   have e:k - o=k - (o+1)+1:=G
   rw [e,List.getElem?_cons_succ]
  ·rw [if_neg h1,Array.getElem?_setIfInBounds]
   by_cases h2:o=k
   ·subst h2
    rw [if_pos rfl,if_pos G,if_pos (by simp only [List.length_cons]; omega)];simp
   ·rw [if_neg h2,if_neg (by simp only [List.length_cons]; omega)]
theorem Blk.setCells :∀ (vs:List Value) (o:Nat) (w:World) (C:Array Value),Blk t w b C->Blk t (w.setCells b o vs) b (over C o vs)
 |[],_,_,_,h=>h
 |v::r,o,w,C,h=>by
  rw [World.setCells,over];exact Blk.setCells r (o+1) _ _ (h.store o v)
def sec (s:List UInt8):List Value:=s.map fun b=> Yy (b.toNat:Int)
theorem aa8 (s:List UInt8):(sec s).length=s.length:=by simp [sec]
theorem ba3 (s:List UInt8) (j:Nat):(sec s)[j]?=(s[j]?).map fun b=> Yy (b.toNat:Int):=by simp [sec]
theorem ai7 (s:List UInt8):∀ v∈sec s,v.oneCell'=true:=by
 intro v hv;obtain ⟨b,_,rfl⟩:=List.mem_map.1 hv;rfl
section
variable {P:Program} {Q:Exit->Act->World->Prop} {md:Region.Mode} {S:World->Prop}
theorem aq4 {α:Type} {l rest:List α} {o:α} (h:l.drop i=o::rest):l.toArray[i]?=some o:=by
 have e:(l.drop i)[0]?=some o:=by rw [h]; rfl
 rw [List.getElem?_drop] at e;simpa using e
theorem aa6 {rest:List Oper} {oi:Oper} {v:Value} {listed:Array Bool} (hi:l.drop i=oi::rest)
  (hs:Region.noSelect l.toArray=true) (hf:Region.free md l.toArray listed i=true) (hr:(Region.ready md l.toArray listed).contains i=true)
  (hQ:∀ c a w,Q (.panic c) (a.put oi.dst v) w->Q (.panic c) a w) (hy:YieldsIf P l.toArray S oi v a) (hS:S w)
  (h:wpAnyH P md l.toArray Q S fuel (listed.setIfInBounds i true) (a.put oi.dst v) w):wpAnyH P md l.toArray Q S (fuel+1) listed a w:=
 wpAnyH_take (aq4 hi) hs hf hr hQ hy hS h
theorem bw6 {rest:List Oper} {listed:Array Bool} (ho:l.drop i=o::rest) (hr:Region.ready md l.toArray listed=[i])
  (h:∀ K':Act->World->Prop,Shut (∀ a w,S w->(S w->wpAnyH P md l.toArray Q S fuel (listed.setIfInBounds i true) a w)->K' a w)->if Region.wanted o (yielded l.toArray a.tmps)=true then Oper.wp P o a w K' Q else K' (a.put o.dst undef) w):
  wpAnyH P md l.toArray Q S (fuel+1) listed a w:=
 wpAnyH_ready hr sn (AllReadyH.cons (aq4 ho) h AllReadyH.nil)
theorem tk {rest:List Oper} (i:Nat) {oi:Oper} (v:Value) {fuel:Nat} {listed:Array Bool} {a:Act} {w:World} (hi:l.drop i=oi::rest) (hS:S w)
 (h:wpAnyH P md l.toArray Q S fuel (listed.setIfInBounds i true) (a.put oi.dst v) w)
 (hs:Region.noSelect l.toArray=true:=by kernel_rfl) (hf:Region.free md l.toArray listed i=true:=by kernel_rfl) (hr:(Region.ready md l.toArray listed).contains i=true:=by kernel_rfl)
 (hQ:∀ c a w,Q (.panic c) (a.put oi.dst v) w->Q (.panic c) a w:=by exact fun _ _ _ h=>h) (hy:YieldsIf P l.toArray S oi v a:=by exact .inl ⟨rfl,by intro w hSw; go_simp⟩):wpAnyH P md l.toArray Q S (fuel+1) listed a w:=
 aa6 hi hs hf hr hQ hy hS h
theorem rl {rest:List Oper} {listed:Array Bool} (i:Nat) {o:Oper} (ho:l.drop i=o::rest)
 (h:∀ K':Act->World->Prop,Shut (∀ a w,S w->(S w->wpAnyH P md l.toArray Q S fuel (listed.setIfInBounds i true) a w)->K' a w)->if Region.wanted o (yielded l.toArray a.tmps)=true then Oper.wp P o a w K' Q else K' (a.put o.dst undef) w)
 (hr:Region.ready md l.toArray listed=[i]:=by kernel_rfl):wpAnyH P md l.toArray Q S (fuel+1) listed a w:=
 bw6 ho hr h
theorem ad8 {rest rest':List Oper} {listed:Array Bool} {i':Nat} {o':Oper} (ho:l.drop i=o::rest) (ho':l.drop i'=o'::rest') (hr:Region.ready md l.toArray listed=[i,i'])
  (h:∀ K':Act->World->Prop,Shut (∀ a w,S w->(S w->wpAnyH P md l.toArray Q S fuel (listed.setIfInBounds i true) a w)->K' a w)->if Region.wanted o (yielded l.toArray a.tmps)=true then Oper.wp P o a w K' Q else K' (a.put o.dst undef) w)
  (h':∀ K':Act->World->Prop,Shut (∀ a w,S w->(S w->wpAnyH P md l.toArray Q S fuel (listed.setIfInBounds i' true) a w)->K' a w)->if Region.wanted o' (yielded l.toArray a.tmps)=true then Oper.wp P o' a w K' Q else K' (a.put o'.dst undef) w):
  wpAnyH P md l.toArray Q S (fuel+1) listed a w:=
 wpAnyH_ready hr sn (AllReadyH.cons (aq4 ho) h (AllReadyH.cons (aq4 ho') h' AllReadyH.nil))
end
end
section
open Go.RowKit Go.Maps
structure Elem {α:Type} (P:Program) (t e:TypeId) (cl:α->List Value) (k bytes:Nat):Prop where
 ht:P.underlying t=some (.slice e)
 info:∃ i z,P.info? e=some i/\i.zero=some z/\i.size=k/\i.bytes=bytes/\z.cells.size=k
 pos:0<k
 len:∀ x,(cl x).length=k
 one:∀ x,∀ v∈cl x,v.oneCell'=true
 small:bytes<=1000
theorem ae2 {P:Program} {e:TypeId} {z:Value} {k b:Nat} (h:(P.info? e).map (fun i=>(i.zero,i.size,i.bytes))=some (some z,k,b)) (hz:z.cells.size=k):∃ i z,P.info? e=some i/\i.zero=some z/\i.size=k/\i.bytes=b/\z.cells.size=k:=by
 cases hi:P.info? e with
 |none=>rw [hi] at h; cases h
 |some i=>
  rw [hi] at h;simp only [Option.map_some,Option.some.injEq,Prod.mk.injEq] at h;exact ⟨i,z,rfl,h.1,h.2.1,h.2.2,hz⟩
section
variable {α:Type} {P:Program} {t e:TypeId} {cl:α->List Value} {k bytes:Nat}
theorem aa9 (hk:∀ x,(cl x).length=k) (xs:List α):(xs.flatMap cl).length=xs.length*k:=by
 induction xs with
 |nil=>simp
 |cons x r ih=>rw [List.flatMap_cons,List.length_append,ih,hk,List.length_cons,Nat.add_mul,Nat.one_mul,Nat.add_comm]
theorem ai1 (hk:∀ x,(cl x).length=k):∀ (xs:List α) (i:Nat) (h:i<xs.length) (j:Nat),j<k->(xs.flatMap cl)[i*k+j]?=(cl xs[i])[j]?
 |[],i,h,_,_=>by simp at h
 |x::r,0,h,j,hj=>by
  rw [List.flatMap_cons,Nat.zero_mul,Nat.zero_add,List.getElem?_append_left (by rw [hk]; exact hj)];rfl
 |x::r,i+1,h,j,hj=>by
  rw [List.flatMap_cons,List.getElem?_append_right (by rw [hk,Nat.add_mul]; omega),hk,show (i+1)*k+j - k=i*k+j by rw [Nat.add_mul]; omega];rw [ai1 hk r i (by simpa using h) j hj];rfl
def Ol (e:TypeId) (cl:α->List Value) (k:Nat) (B:Nat) (v:Value) (xs:List α) (W:World):Prop:=W.ownsRow B e k v xs.length (xs.flatMap cl)
variable {B:Nat} {v:Value} {xs:List α} {W W':World}
theorem Ol.nil (B:Nat) (W:World):Ol e cl k B (.slice none 0 0) [] W:=⟨by simp,.inl ⟨rfl,rfl⟩⟩
theorem Ol.of_block (h:Ol e cl k B v xs W) (hb:∀ b,v.ownBlock=some b->W'.heap[b]?=W.heap[b]?):Ol e cl k B v xs W':=by
 obtain ⟨h1,h2⟩:=h;refine ⟨h1,?_⟩;rcases h2 with h2|⟨g,cap,cur,rfl,h4,h5,h6⟩
 ·exact .inl h2
 ·exact .inr ⟨g,cap,cur,rfl,h4,(hb g rfl).trans h5,h6⟩
theorem Ol.lt (h:Ol e cl k B v xs W) {b:Nat} (hb:v.ownBlock=some b):b<W.heap.size/\B<=b:=by
 rcases h.2 with ⟨rfl,_⟩|⟨g,cap,cur,rfl,h4,h5,_⟩
 ·cases hb
 ·cases hb
  exact ⟨(Array.getElem?_eq_some_iff.1 h5).1,h4⟩
theorem Ol.held (h:Ol e cl k B v xs W) (hb:Below W.heap.size W W'):Ol e cl k B v xs W':=h.of_block fun b e=>hb.block b (h.lt e).1
theorem Ol.turn {L:List Nat} (h:Ol e cl k B v xs W) (t:Turn L W W') (hL:∀ b,v.ownBlock=some b->b∉L):Ol e cl k B v xs W':=h.of_block fun b e=>t.block b (h.lt e).1 (hL b e)
theorem Ol.drew (h:Ol e cl k B v xs W):Ol e cl k B v xs W.drew:=h
theorem Ol.mono (h:Ol e cl k B v xs W) {B':Nat} (hB:B'<=B):Ol e cl k B' v xs W:=by
 obtain ⟨h1,h2⟩:=h;refine ⟨h1,?_⟩;rcases h2 with h2|⟨g,cap,cur,rfl,h4,h5⟩
 ·exact .inl h2
 ·exact .inr ⟨g,cap,cur,rfl,Nat.le_trans hB h4,h5⟩
theorem Ol.form (h:Ol e cl k B v xs W):∃ p cap,v= .slice p xs.length cap/\xs.length<=cap:=by
 rcases h.2 with ⟨rfl,h0⟩|⟨g,cap,cur,rfl,_,_,h6,_⟩
 ·exact ⟨none,0,by rw [h0],G⟩
 ·exact ⟨_,cap,rfl,h6⟩
theorem Ol.at_ (hk:∀ x,(cl x).length=k) (h:Ol e cl k B v xs W) {i:Nat} (hi:i<xs.length):∃ g cap,v= Lt g xs.length cap/\xs.length<=cap/\cap<=maxLen/\∀ j,j<k->W.cell? (Y g (i*k+j))=(cl xs[i])[j]?:=by
 rcases h.2 with ⟨rfl,h0⟩|⟨g,cap,cur,rfl,h4,h5,h6,h7,h8,h9⟩
 ·omega
 ·refine ⟨g,cap,rfl,h6,h7,fun j hj=>?_⟩
  have h5':Blk e W g cur:=h5;rw [h5'.at_,<- ai1 hk xs i hi j hj,<- h9,List.getElem?_take,if_pos]
  ·simp
  ·have:=Nat.mul_le_mul_right k (show i+1<=xs.length from hi)
   rw [Nat.add_mul,Nat.one_mul] at this;omega
theorem Ol.push (E:Elem P t e cl k bytes) (h:Ol e cl k B v xs W) (hB:B<=W.heap.size) {ad:Addr} {c:Nat} (x:α) (hx:∀ j u,(cl x)[j]?=some u->W.cell? (ad.add j)=some u) (hbig:xs.length<=10000000000) (ty:TypeId):
  ∃ g' cap' W',(Builtin.append_ #[t,t] ty #[v,.slice (some ad) 1 c]).run P W= .ok (Lt g' (xs.length+1) cap') W'/\Ol e cl k B (Lt g' (xs.length+1) cap') (xs++[x]) W'/\W.grownBy W' v.ownBlock/\(v.ownBlock=some g'\/g'=W.heap.size):=by
 obtain ⟨i0,z,hi,hz0,hz1,hz2,hz3⟩:=E.info;obtain ⟨v',W',hr,hown,hgr,hnil,hat⟩:=run_append_own_at (P:=P) W B t ty e i0 z k bytes E.ht hi hz0 hz1 hz2 hz3 E.pos v xs.length (xs.flatMap cl) h ad 1 c (cl x) (by rw [E.len,Nat.one_mul]) hx (E.one x)
  (by unfold maxLen; omega) (by have h1:=E.small; have:=Nat.mul_le_mul (show xs.length+1<=10000000001 by omega) h1; omega) hB
 have hne:¬ v'= .slice none 0 0:=fun e=>by have:=(hnil.1 e).2; omega
 rcases hown.2 with ⟨rfl,_⟩|⟨g',cap',cur,rfl,h4,h5,h6,h7,h8,h9⟩
 ·exact absurd rfl hne
 ·have e1:(xs++[x]).flatMap cl=xs.flatMap cl++cl x:=sn
  have e2:(xs++[x]).length=xs.length+1:=sn;refine ⟨g',cap',W',hr,⟨by rw [e1,e2]; exact hown.1,.inr ⟨g',cap',cur,by rw [e2],h4,h5,by rw [e2]; exact h6,h7,h8,by rw [e1,e2]; exact h9⟩⟩,hgr,?_⟩;rcases hat with h|h
  ·exact .inl (h.symm.trans rfl)
  ·exact .inr (by simpa [Value.ownBlock] using h)
theorem Ol.push1 (E:Elem P t e cl k bytes) (h:Ol e cl k B v xs W) (hB:B<=W.heap.size) (x:α) (hbig:xs.length<=10000000000) (ty:TypeId):
  ∃ g' cap' W',(Builtin.append_ #[t,t] ty #[v,Lt W.heap.size 1 1]).run P (W.alloc (.cells (cl x).toArray e))= .ok (Lt g' (xs.length+1) cap') W'/\Ol e cl k B (Lt g' (xs.length+1) cap') (xs++[x]) W'/\Turn v.ownBlock.toList W W'/\(v.ownBlock=some g'\/W.heap.size<g'):=by
 have hb:=aa0 W (.cells (cl x).toArray e);have hX:=Blk.new W e (cl x).toArray;have h5:=h.held hb;have hs:=aa1 W (.cells (cl x).toArray e);obtain ⟨g',cap',W6,hrun,h6,hg6,hat⟩:=Ol.push E h5 (Nat.le_trans hB hb.size) (ad:=⟨W.heap.size,0,none⟩) (c:=1) x (fun jj vv hv=>by
  rw [Addr.add_mid,Nat.zero_add,hX.at_ jj];simpa using hv) hbig ty
 refine ⟨g',cap',W6,hrun,h6,⟨hg6.os.trans hb.os,hg6.tape.trans hb.tape,hg6.output.trans hb.output,Nat.le_trans hb.size hg6.size,fun i hi hn=>?_⟩,?_⟩
 ·refine (hg6.block i G (fun e=>?_)).trans (hb.block i hi)
  rw [<- e] at hn;simp at hn
 ·rcases hat with h|h
  ·exact .inl h
  ·exact .inr G
theorem own_below (h:Ol e cl k B v xs W) {w0:World} (h0:Below B w0 W) (hB:B<=W.heap.size) (T:Turn v.ownBlock.toList W W'):Below B w0 W':=
 h0.trans (T.below (B:=B) (fun i hi=>by
  have:v.ownBlock=some i:=by simpa using hi
  exact (h.lt this).2) hB)
end
end
end Go.Proofs.YtafkfnodcemefaaGreat
