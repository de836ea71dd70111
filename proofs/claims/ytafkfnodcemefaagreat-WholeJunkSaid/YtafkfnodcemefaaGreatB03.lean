import Derived.Test.YtafkfnodcemefaaGreatB02
import Derived.Laws.CopyOwn
set_option maxHeartbeats 8000000
set_option maxRecDepth 20000
namespace Go.Proofs.YtafkfnodcemefaaGreat
open _root_.Go.Proofs.Tryz (prog)
open Go.RowKit Go.Maps Go.WideShapes
open Go.WideElems (Fit rd rg rd_key rg_of)
def asIsD (v:Value):Option (DataW Value×List MemPlace):=some (.held v,[])
def SeesD (D:DataW Value) (f:Int->Option Value):Prop:=
 ∀ z,(∀ v,D.atKey (.int .i64 z) (.held v)= .held ((f z).getD v))/\Maps.has D (.int .i64 z)=(f z).isSome
def Mp (P:Program) (k:TypeId) (w:World) (b:Nat) (f:Int->Option Value):Prop:=
 ∃ D:DataW Value,w.ownsMap P k asIsD b (Maps.size D) D/\SeesD D f
def updD {α:Type} (f:Int->Option α) (i:Int) (v:α):Int->Option α:=fun z=>if z=i then some v else f z
theorem ai3 {α:Type} (f:Int->Option α) (i:Int) (v:α):updD f i v i=some v:=by simp [updD]
theorem ag3 {α:Type} (f:Int->Option α) {i z:Int} (h:z≠i) (v:α):updD f i v z=f z:=by simp [updD,h]
theorem bh5 {a b:Value} (h:(DataW.held a:DataW Value)= .held b):a=b:=by cases h; rfl
theorem lit_ne {z i:Int} (h:z≠i):(Lit.int .i64 z)≠ .int .i64 i:=fun e=>h (by cases e; rfl)
section
variable {D:DataW Value}{cnt n:Nat}{left:Int->Bool}
variable {P:Program} {k t e:TypeId} {w w':World} {b r:Nat} {f:Int->Option Value}
theorem Mp.lt (h:Mp P k w b f):b<w.heap.size:=by obtain ⟨D,h,_⟩:=h; exact h.lt
theorem Mp.isMap (h:Mp P k w b f):∃ es clock,w.heap[b]?=some (.map es clock):=by obtain ⟨D,⟨es,clock,h,_⟩,_⟩:=h; exact ⟨es,clock,h⟩
theorem Mp.of_block (h:Mp P k w b f) (hb:w'.heap[b]?=w.heap[b]?):Mp P k w' b f:=by
 obtain ⟨D,⟨es,clock,h1,r⟩,S⟩:=h;exact ⟨D,⟨es,clock,hb.trans h1,r⟩,S⟩
theorem Mp.new (w:World):Mp P k (w.alloc (.map #[] 0)) w.heap.size (fun _=>none):=
 ⟨.map [],World.ownsMap_made _ _ _ _,fun _=>⟨fun _=>rfl,rfl⟩⟩
theorem an6 (h:w.ownsMap P k asIsD b n D):w.ownsMap P k asIsD b (Maps.size D) D:=by
 obtain ⟨es,clock,h1,F,hs,rfl⟩:=h;exact ⟨es,clock,h1,F,by simp [Maps.size,length_sorted],rfl⟩
theorem Mp.look_ok (h:Mp P k w b f) (hk:P.underlying k=some (.int .i64)) (ht:P.underlying t=some (.map k e)) {z:Value} (hz:(zeroValue e).run P w= .ok z w) {i:Int} (hw:(Lit.int .i64 i).wf=true):
  (Instr.lookup t (.map (some b)) (.int .i64 i) true).run P w= .ok (.tuple #[(f i).getD z,.bool (f i).isSome]) w:=by
 obtain ⟨D,h,S⟩:=h;obtain ⟨v,ps,hrun,hv⟩:=h.look_ok (int_keyed hk) ht hz (zd:= .held z) (zp:=[]) rfl (keyOf_int_mk hk hw);rw [hrun,(S i).2];simp only [asIsD,Option.some.injEq,Prod.mk.injEq] at hv;rw [bh5 (hv.1.trans ((S i).1 z))]
theorem isKey (i:Int):WideAt.IsKeyLit (.int .i64 i):=by first|trivial|exact True.intro|simp [WideAt.IsKeyLit]
theorem SeesD.put (hD:Maps.IsMap D) (S:SeesD D f) (i:Int) (v:Value):SeesD (D.put (.int .i64 i) (.held v)) (updD f i v):=by
 intro z;by_cases h:z=i
 ·subst h
  rw [ai3];exact ⟨fun u=>by rw [atKey_put_same hD (isKey z)]; rfl,by rw [has_put_same hD (isKey z)]; rfl⟩
 ·rw [ag3 f h]
  exact ⟨fun u=>by rw [atKey_put_other (lit_ne h)]; exact (S z).1 u,by rw [has_put_other (lit_ne h)]; exact (S z).2⟩
theorem ag9:∀ (N:Nat) (es:List (Lit×DataW Value)),es.Pairwise (fun p q=>p.1≠q.1)->(∀ p∈es,∃ z:Int,p.1= .int .i64 z/\0<=z/\z<N)->es.length<=N
 |0,es,_,h=>by
  cases es with
  |nil=>simp
  |cons x r=>
   obtain ⟨z,_,h1,h2⟩:=h x sn;omega
 |N+1,es,hp,h=>by
  have ih:=ag9 N (es.filter fun p=>!p.1.sameKey (.int .i64 (N:Int))) (hp.filter _) (fun p hq=>by
   obtain ⟨hq1,hq2⟩:=List.mem_filter.1 hq;obtain ⟨z,e,h1,h2⟩:=h p hq1;refine ⟨z,e,h1,?_⟩;by_cases e2:z=(N:Int)
   ·rw [e,e2,WideAt.sameKey_self (isKey _)] at hq2; cases hq2
   ·omega)
  have:=length_strike (k:= .int .i64 (N:Int)) es hp;split at this<;>omega
theorem bg0 (h:w.ownsMap P k asIsD b n D) (hk:P.underlying k=some (.int .i64)):∃ es,D= .map es/\es.Pairwise (fun p q=>p.1≠q.1)/\∀ p∈es,∃ z:Int,p.1= .int .i64 z/\(Lit.int .i64 z).wf=true:=by
 obtain ⟨es,clock,_,F,_,rfl⟩:=h;refine ⟨_,rfl,((sorted_perm _).pairwise_iff (fun {_ _} hne=>Ne.symm hne)).2 (Maps.fit_apart (int_keyed hk) F),fun p hp=>?_⟩;obtain ⟨v,hv⟩:=Maps.fit_keys F p ((sorted_perm _).mem_iff.1 hp);obtain ⟨x,_,e,hw⟩:=keyOf_int_inv hk hv;exact ⟨x,e,hw⟩
theorem Mp.store (h:Mp P k w b f) (hk:P.underlying k=some (.int .i64)) (ht:P.underlying t=some (.map k e)) {N:Nat} (hN:N<maxLen) (hf:∀ z,(f z).isSome=true->0<=z/\z<N) {i:Int} (hw:(Lit.int .i64 i).wf=true) (v:Value):
  ∃ w',(Instr.mapUpdate t (.map (some b)) (.int .i64 i) v).run P w= .ok () w'/\Mp P k w' b (updD f i v)/\w.grownBy w' (some b)/\w'.heap.size=w.heap.size:=by
 obtain ⟨D,h,S⟩:=h;have hle:Maps.size D<=N:=by
  obtain ⟨es,rfl,hp,hz⟩:=bg0 h hk;refine ag9 N es hp (fun p hp'=>?_);obtain ⟨z,e,_⟩:=hz p hp';refine ⟨z,e,hf z ?_⟩;rw [<- (S z).2];exact List.any_eq_true.2 ⟨p,hp',by rw [e]; exact WideAt.sameKey_self (isKey z)⟩
 obtain ⟨w',hrun,h',hg⟩:=h.store (int_keyed hk) ht (Nat.lt_of_le_of_lt hle hN) (keyOf_int_mk hk hw) (val:=v) (d:= .held v) (ps:=[]) rfl;obtain ⟨es0,c0,es1,c1,hb0,rfl⟩:=id hg;exact ⟨_,hrun,⟨_,an6 h',S.put h.isMap i v⟩,hg.grown,by simp [ChangeMaps.setBlock]⟩
theorem Mp.clear (h:Mp P k w b f) (ht:P.underlying t=some (.map k e)) (ty:TypeId):
  ∃ w',(Builtin.clear_ #[t] ty #[.map (some b)]).run P w= .ok (.tuple #[]) w'/\Mp P k w' b (fun _=>none)/\w.grownBy w' (some b)/\w'.heap.size=w.heap.size:=by
 obtain ⟨D,⟨es,clock,hb,F,hs,rfl⟩,S⟩:=h;refine ⟨ChangeMaps.setBlock w b (.map #[] clock),?_,⟨.map [],⟨#[],clock,ChangeMaps.heap_setBlock_same hb _,⟨by simp,MapKept.stamped_empty clock,sn⟩,Nat.le_refl _,rfl⟩,fun z=>⟨fun _=>rfl,rfl⟩⟩,
  ⟨rfl,rfl,rfl,by simp [ChangeMaps.setBlock],fun i _ hi=>ChangeMaps.heap_setBlock_other hb _ (fun e=>hi (by rw [e]))⟩,by simp [ChangeMaps.setBlock]⟩
 simp [Builtin.clear_,run_underlying ht,MapKept.run_getObj_map hb,MapKept.run_setObj_map _ hb,Result.andThen,ChangeMaps.setBlock]
def RgD (P:Program) (k:TypeId) (w:World) (b r:Nat) (f:Int->Option Value) (left:Int->Bool) (cnt:Nat):Prop:=
 ∃ (D:DataW Value) (n:Nat) (L:Lit->Bool),w.ranges P k asIsD b r n D L cnt/\SeesD D f/\∀ z,L (.int .i64 z)=left z
theorem RgD.mp (h:RgD P k w b r f left cnt):Mp P k w b f:=by
 obtain ⟨D,n,L,h,S,_⟩:=h;exact ⟨D,an6 h.owns,S⟩
theorem RgD.lt (h:RgD P k w b r f left cnt):r<w.heap.size:=by obtain ⟨D,n,L,h,S,_⟩:=h; exact h.lt
theorem RgD.left_eq (h:RgD P k w b r f left cnt):w.rangeLeft b r=cnt:=by obtain ⟨D,n,L,h,S,_⟩:=h; exact h.left_eq
theorem RgD.of_block (h:RgD P k w b r f left cnt) (hb:w'.heap[b]?=w.heap[b]?) (hr:w'.heap[r]?=w.heap[r]?):RgD P k w' b r f left cnt:=by
 obtain ⟨D,n,L,⟨es,clock,since,seen,c0,h1,h2,h3,h4,h5,rest⟩,S,l⟩:=h;exact ⟨D,n,L,⟨es,clock,since,seen,c0,hb.trans h1,h2,h3,h4,hr.trans h5,rest⟩,S,l⟩
theorem Mp.range (h:Mp P k w b f) (hk:P.underlying k=some (.int .i64)) (ht:P.underlying t=some (.map k e)):
  ∃ w' cnt,(Instr.range t (.map (some b))).run P w= .ok (K w.heap.size) w'/\RgD P k w' b w.heap.size f (fun z=>(f z).isSome) cnt/\w.grownBy w' none/\w'.heap.size=w.heap.size+1:=by
 obtain ⟨D,h,S⟩:=h;obtain ⟨w',hrun,hr,hg,hs⟩:=h.range (int_keyed hk) ht;exact ⟨w',_,hrun,⟨D,_,_,hr,S,fun z=>(S z).2⟩,hg,hs⟩
theorem bk5 (z x:Int):(Lit.int .i64 z).sameKey (.int .i64 x)=decide (z=x):=by
 by_cases h:z=x
 ·subst h; rw [WideAt.sameKey_self (isKey z)]; simp
 ·rw [sameKey_ne (lit_ne h)]; simp [h]
theorem RgD.next (h:RgD P k w b r f left cnt) (hk:P.underlying k=some (.int .i64)) (ty:TypeId):
  (cnt=0/\(∀ z,left z=false)/\(Instr.next (K r) false ty).run P w= .ok (.tuple #[.bool false]) w)\/
  ∃ (i:Int) (v:Value) (w':World) (cnt':Nat),left i=true/\f i=some v/\(Instr.next (K r) false ty).run P w= .ok (.tuple #[.bool true,.int .i64 i,v]) w'/\
   RgD P k w' b r f (fun z=>left z && !decide (z=i)) cnt'/\cnt'<cnt/\w.grownBy w' (some r)/\w'.heap.size=w.heap.size/\(Instr.entry (K r)).run P w'= .ok (.tuple #[.int .i64 i,v]) w':=by
 obtain ⟨D,n,L,h,S,hL⟩:=h;rcases h.next (int_keyed hk) ty with ⟨h0,hl,hrun⟩|⟨key,v,kl,y,w',cnt',hkey,hlk,hv,hat,hrun,hrg,hlt,hgr,hsz,hen⟩
 ·exact .inl ⟨h0,fun z=>by rw [<- hL]; exact hl _,hrun⟩
 ·obtain ⟨i,rfl,rfl,hw⟩:=keyOf_int_inv hk hkey
  simp only [asIsD,Option.some.injEq] at hv;subst hv;have hf:f i=some v:=by
   have hh:(f i).isSome=true:=by rw [<- (S i).2]; exact has_true_of_atKey hat
   obtain ⟨u,hu⟩:=Option.isSome_iff_exists.1 hh;have:=(S i).1 v;rw [hat,hu] at this;rw [hu,bh5 this];rfl
  exact .inr ⟨i,v,w',cnt',by rw [<- hL]; exact hlk,hf,hrun,⟨D,n,_,hrg,S,fun z=>by simp only [hL,bk5]⟩,hlt,hgr,hsz,hen⟩
end
end Go.Proofs.YtafkfnodcemefaaGreat
set_option maxRecDepth 20000
namespace Go.Proofs.YtafkfnodcemefaaGreat
open _root_.Go.Proofs.Tryz (prog)
open Go.RowKit
theorem bk4:(prog.info? 218).map (·.size)=some 48:=X
theorem ai6:prog.underlying 218=some (.array 48 5):=X
theorem secInfo {s:List UInt8} (h:s.length=48):(prog.info? 218).map (·.size)=some (sec s).length:=by rw [aa8,h]; exact bk4
abbrev z48:Array Value:=#[Yy 0,Yy 0,Yy 0,Yy 0,Yy 0,Yy 0,Yy 0,Yy 0,Yy 0,Yy 0,Yy 0,Yy 0,Yy 0,Yy 0,Yy 0,Yy 0,Yy 0,Yy 0,Yy 0,Yy 0,Yy 0,Yy 0,Yy 0,Yy 0,Yy 0,Yy 0,Yy 0,Yy 0,Yy 0,Yy 0,Yy 0,Yy 0,Yy 0,Yy 0,Yy 0,Yy 0,Yy 0,Yy 0,Yy 0,Yy 0,Yy 0,Yy 0,Yy 0,Yy 0,Yy 0,Yy 0,Yy 0,Yy 0]
theorem cb0 (w:World) (t:TypeId):(w.alloc (.cells z48 t)).there w.heap.size 0 48:=fun j hj=>by
 have h:=Blk.new w t z48;rw [Nat.zero_add];refine ⟨?_,h.free j⟩;rw [h.at_ j,Array.getElem?_eq_getElem (show j<z48.size from hj)];rfl
theorem aj9 (w:World) (t:TypeId) {s:List UInt8} (hs:s.length=48):(w.alloc (.cells z48 t)).there w.heap.size 0 (sec s).toArray.size:=by
 rw [show (sec s).toArray.size=48 by rw [List.size_toArray,aa8,hs]];exact cb0 w t
theorem secInfo' {s:List UInt8} (hs:s.length=48):(prog.info? 218).map (·.size)=some (sec s).toArray.size:=by
 rw [List.size_toArray];exact secInfo hs
theorem br7 (s:List UInt8) (C:Array Value) (h:C.size=s.length):over C 0 (sec s)=(sec s).toArray:=by
 apply Array.ext_getElem?;intro k;rw [ah7 _ _ _ (by rw [aa8]; omega),Nat.zero_add,aa8];by_cases hk:k<s.length
 ·rw [if_pos G]; simp
 ·rw [if_neg G,Array.getElem?_eq_none G,Array.getElem?_eq_none (by simp [aa8]; omega)]
theorem ak6 (w:World) (t:TypeId) {s:List UInt8} (hs:s.length=48):Below w.heap.size w ((w.alloc (.cells z48 t)).setCells w.heap.size 0 (sec s))/\Blk t ((w.alloc (.cells z48 t)).setCells w.heap.size 0 (sec s)) w.heap.size (sec s).toArray/\
  ((w.alloc (.cells z48 t)).setCells w.heap.size 0 (sec s)).heap.size=w.heap.size+1:=by
 have h1:=Turn.setCells (L:=[w.heap.size]) (w.alloc (.cells z48 t)) (b:=w.heap.size) sn 0 (sec s);have h2:=(Blk.new w t z48).setCells (sec s) 0;rw [br7 s z48 (by rw [hs]; rfl)] at h2;refine ⟨(aa0 w (.cells z48 t)).trans (h1.below sn sn),h2,by rw [setCells_size]; simp⟩
theorem Blk.restored {w:World} {g:Nat} {t:TypeId} {s s':List UInt8} (h:Blk t w g (sec s').toArray) (hs:s.length=48) (hs':s'.length=48):Blk t (w.setCells g 0 (sec s)) g (sec s).toArray:=by
 have k:=h.setCells (sec s) 0
 rwa [br7 s _ (by simp [aa8,hs,hs'])] at k
theorem Blk.there_all {w:World} {g:Nat} {t:TypeId} {s s':List UInt8} (h:Blk t w g (sec s').toArray) (hs:s.length=48) (hs':s'.length=48):w.there g 0 (sec s).toArray.size:=fun j hj=>by
 rw [Nat.zero_add];refine ⟨?_,h.free j⟩;rw [h.at_ j,Array.getElem?_eq_getElem (by simp [aa8] at hj ⊢; omega)];rfl
theorem Blk.range_all {w:World} {g:Nat} {t:TypeId} {s:List UInt8} (h:Blk t w g (sec s).toArray):w.rangeAt g 0 (sec s):=fun j v hv=>by
 rw [Nat.zero_add,h.at_ j];simpa using hv
theorem Blk.there_z48 {w:World} {g:Nat} {t:TypeId} {s:List UInt8} (h:Blk t w g z48) (hs:s.length=48):w.there g 0 (sec s).toArray.size:=fun j hj=>by
 rw [Nat.zero_add];refine ⟨?_,h.free j⟩;rw [h.at_ j,Array.getElem?_eq_getElem (show j<z48.size by simp [aa8,hs] at hj; exact hj)];rfl
theorem Blk.stored {w:World} {g:Nat} {t:TypeId} {s:List UInt8} (h:Blk t w g z48) (hs:s.length=48):Blk t (w.setCells g 0 (sec s)) g (sec s).toArray:=by
 have k:=h.setCells (sec s) 0
 rwa [br7 s _ (by rw [hs]; rfl)] at k
structure Dk (w:World) (d S M n:Nat) (safe:Nat->List UInt8) (wn:Int->Option (List UInt8)) (well:Int):Prop where
 head:Blk 151 w d #[Lt S n n,.map (some M),I well]
 rows:∃ C,Blk 218 w S C/\C.size=n*48/\∀ i,i<n->∀ j v,(sec (safe i))[j]?=some v->C[i*48+j]?=some v
 map:Mp prog 3 w M (fun z=>(wn z).map fun s=> .agg (sec s).toArray)
 len:∀ i,i<n->(safe i).length=48
 wlen:∀ z s,wn z=some s->0<=z/\z<n/\s.length=48
 n1:1<=n
 n2:n<=512
 w1:-1<=well
 w2:well<=9223372036854775807
section
variable {w w':World} {d S M n:Nat} {safe:Nat->List UInt8} {wn:Int->Option (List UInt8)} {well:Int}
theorem Dk.of_blocks (h:Dk w d S M n safe wn well) (hd:w'.heap[d]?=w.heap[d]?) (hS:w'.heap[S]?=w.heap[S]?) (hM:w'.heap[M]?=w.heap[M]?):Dk w' d S M n safe wn well:=
 ⟨hd.trans h.head,by obtain ⟨C,h1,h2⟩:=h.rows; exact ⟨C,hS.trans h1,h2⟩,h.map.of_block hM,h.len,h.wlen,h.n1,h.n2,h.w1,h.w2⟩
theorem Dk.ltS (h:Dk w d S M n safe wn well):S<w.heap.size:=by obtain ⟨C,h1,_⟩:=h.rows; exact h1.lt
theorem Dk.held (h:Dk w d S M n safe wn well) (hb:Below w.heap.size w w'):Dk w' d S M n safe wn well:=
 h.of_blocks (hb.block _ h.head.lt) (hb.block _ h.ltS) (hb.block _ h.map.lt)
theorem Dk.drew (h:Dk w d S M n safe wn well):Dk w.drew d S M n safe wn well:=h.of_blocks rfl rfl rfl
theorem Dk.dS (h:Dk w d S M n safe wn well):d≠S:=by
 intro e;obtain ⟨C,h1,h2,_⟩:=h.rows;have h3:=h.head;unfold Blk at h1 h3;rw [e,h1] at h3;simp at h3
theorem Dk.dM (h:Dk w d S M n safe wn well):d≠M:=by
 intro e;obtain ⟨es,c,h1⟩:=h.map.isMap;have h3:=h.head;unfold Blk at h3;rw [e,h1] at h3;simp at h3
theorem Dk.SM (h:Dk w d S M n safe wn well):S≠M:=by
 intro e;obtain ⟨es,c,h1⟩:=h.map.isMap;obtain ⟨C,h3,_⟩:=h.rows;unfold Blk at h3;rw [e,h1] at h3;simp at h3
theorem Dk.setWell (h:Dk w d S M n safe wn well) {u:Int} (h1:-1<=u) (h2:u<=9223372036854775807):Dk (w.setCell (Y d 2) (I u)) d S M n safe wn u:=by
 have e:=h.head.store 2 (I u);exact ⟨e,by obtain ⟨C,h3,h4⟩:=h.rows; exact ⟨C,h3.away (p:=⟨d,2,none⟩) h.dS.symm _,h4⟩,h.map.of_block (Below.heap_setCell _ _ _ _ h.dM.symm),h.len,h.wlen,h.n1,h.n2,h1,h2⟩
theorem Dk.turn {L:List Nat} (h:Dk w d S M n safe wn well) (t:Turn L w w') (h1:d∉L) (h2:S∉L) (h3:M∉L):Dk w' d S M n safe wn well:=
 h.of_blocks (t.block _ h.head.lt h1) (t.block _ h.ltS h2) (t.block _ h.map.lt h3)
end
def synced (safe:Nat->List UInt8) (wn:Int->Option (List UInt8)) (i:Nat):List UInt8:=(wn i).getD (safe i)
section
variable {w w':World} {d S M n:Nat} {safe:Nat->List UInt8} {wn:Int->Option (List UInt8)} {well:Int}
theorem Dk.range (h:Dk w d S M n safe wn well) {i:Nat} (hi:i<n):w.rangeAt S (i*48) (sec (safe i)):=by
 obtain ⟨C,h1,h2,h3⟩:=h.rows;intro j v hv;rw [h1.at_];exact h3 i hi j v hv
theorem Dk.row (h:Dk w d S M n safe wn well) {i:Nat} (hi:i<n) {s:List UInt8} (hs:s.length=48):Dk (w.setCells S (i*48) (sec s)) d S M n (fun j=>if j=i then s else safe j) wn well:=by
 have hT:Turn [S] w (w.setCells S (i*48) (sec s)):=Turn.setCells w sn _ _;refine ⟨h.head.turn hT (by simpa using h.dS),?_,h.map.of_block (hT.block _ h.map.lt (by simpa using h.SM.symm)),fun j hj=>?_,h.wlen,h.n1,h.n2,h.w1,h.w2⟩
 ·obtain ⟨C,h1,h2,h3⟩:=h.rows
  refine ⟨_,h1.setCells (sec s) (i*48),by rw [av0]; exact h2,fun j hj k v hv=>?_⟩;rw [ah7 _ _ _ (by rw [aa8]; omega),aa8,hs];have hk:k<48:=by
   have:=(List.getElem?_eq_some_iff.1 hv).1;rw [aa8] at this;by_cases e:j=i
   ·simp only [e,if_true] at this; omega
   ·simp only [e,if_false] at this; have:=h.len j hj; omega
  by_cases e:j=i
  ·subst e
   simp only [if_true] at hv;rw [if_pos G,show j*48+k - j*48=k by omega];exact hv
  ·simp only [e,if_false] at hv
   rw [if_neg G];exact h3 j hj k v hv
 ·by_cases e:j=i
  ·simp [e,hs]
  ·simp [e,h.len j hj]
theorem Dk.there (h:Dk w d S M n safe wn well) {i:Nat} (hi:i<n):w.there S (i*48) 48:=by
 obtain ⟨C,h1,h2,h3⟩:=h.rows;intro j hj;refine ⟨?_,h1.free _⟩;rw [h1.at_,Array.getElem?_eq_getElem G];rfl
theorem Dk.synced_len (h:Dk w d S M n safe wn well) {i:Nat} (hi:i<n):(synced safe wn i).length=48:=by
 unfold synced
 cases e:wn i with
 |none=>exact h.len i hi
 |some s=>exact (h.wlen _ _ e).2.2
end
section
variable {w:World} {d S M n:Nat} {safe:Nat->List UInt8} {wn:Int->Option (List UInt8)} {well:Int}
theorem an2 (h:Dk w d S M n safe wn well):Q 122 #[K d] w fun e w'=>e= .returned (I n)/\w=w':=by
 have c0:=h.head.at_ 0;have hn:n<=512:=h.n2;have H:=Z h;clear h;simp at c0;go_enter Tryz.func122,Tryz.ntmps122;go_wp2;go_ret;exact ⟨rfl,rfl⟩
theorem bm6 (h:Dk w d S M n safe wn well) {i:Int} (h0:0<=i) (h1:i<n):Q 194 #[K d,I i] w fun e w'=>e= .returned (O true)/\w=w':=by
 have d1:decide (i<(n:Int))=true:=decide_eq_true h1;have H:=Z h;clear h;go_enter Tryz.func194,Tryz.ntmps194;go_wp2_with fail;refine (an2 H.out).mono ?_;rintro e w' ⟨rfl,rfl⟩;go_wp2;go_ret;exact ⟨rfl,rfl⟩
def dec (well:Int):Int:=if well<0 then well else well - 1
theorem bt6 (h:Dk w d S M n safe wn well) (hw:well≠0):Q 172 #[K d] w fun e w'=>e= .returned (O false)/\Dk w' d S M n safe wn (dec well)/\Turn [d] w w'/\w'.heap.size=w.heap.size:=by
 have c2:=h.head.at_ 2;have f2:=h.head.free 2;simp at c2;have b1:=h.w1;have b2:=h.w2;have H:=Z h;clear h;by_cases h0:well<0
 ·have E:Hid (dec well=well):=Z (by unfold dec; rw [if_pos h0])
  go_enter Tryz.func172,Tryz.ntmps172;go_wp2;go_ret;exact ⟨rfl,by rw [E.out]; exact H.out,Turn.refl _ _,rfl⟩
 ·have E:Hid (dec well=well - 1):=Z (by unfold dec; rw [if_neg h0])
  have h1:1<=well:=G
  clear h0 hw;have h2:¬ well - 1<0:=G
  go_enter Tryz.func172,Tryz.ntmps172;go_wp2;go_ret;exact ⟨rfl,by rw [E.out]; exact H.out.setWell G G,Turn.setCell _ sn _,by simp [World.setCell]⟩
theorem dk6 (h:Dk w d S M n safe wn 0):Q 172 #[K d] w fun e w'=>e= .returned (O true)/\Dk w' d S M n safe wn (-1)/\Turn [d] w w'/\w'.heap.size=w.heap.size:=by
 have c2:=h.head.at_ 2;have f2:=h.head.free 2;simp at c2;have H:=Z h;clear h;go_enter Tryz.func172,Tryz.ntmps172;go_wp2;go_ret;exact ⟨rfl,H.out.setWell G G,Turn.setCell _ sn _,by simp [World.setCell]⟩
def failAt (a:Int):Int:=if a<0 then -1 else a
end
end Go.Proofs.YtafkfnodcemefaaGreat
set_option maxRecDepth 20000
namespace Go.Proofs.YtafkfnodcemefaaGreat
open _root_.Go.Proofs.Tryz (prog)
open Go.RowKit
def Bys (w:World) (A:Option Addr) (len:Nat) (bs:List UInt8):Prop:=
 bs.length=len/\(0<len->∃ ad,A=some ad/\∀ j v,(sec bs)[j]?=some v->w.cell? (ad.add j)=some v)
theorem Bys.held {w w':World} {A:Option Addr} {len:Nat} {bs:List UInt8} (h:Bys w A len bs) (hb:Below w.heap.size w w'):Bys w' A len bs:=
 ⟨h.1,fun h0=>by
  obtain ⟨ad,e,hc⟩:=h.2 h0;exact ⟨ad,e,fun j v hv=>Go.Proofs.YtafkfnodcemefaaGreat.held hb (hc j v hv)⟩⟩
theorem Bys.turn {w w':World} {A:Option Addr} {len:Nat} {bs:List UInt8} {L:List Nat} (h:Bys w A len bs) (t:Turn L w w') (hA:∀ ad,A=some ad->ad.block∉L):Bys w' A len bs:=
 ⟨h.1,fun h0=>by
  obtain ⟨ad,e,hc⟩:=h.2 h0;exact ⟨ad,e,fun j v hv=>t.cell (hc j v hv) (by rw [add_block]; exact hA ad e)⟩⟩
section
variable {w:World} {d S M n:Nat} {safe:Nat->List UInt8} {wn:Int->Option (List UInt8)} {well:Int} {A:Option Addr} {bs:List UInt8} {len cap:Nat} {i:Int}
theorem dk8 (h:Dk w d S M n safe wn 0) (h0:0<=i) (h1:i<n):Q 170 #[Pt d,I i,.slice A 48 cap] w fun e w'=>
  e= .returned (I 4)/\Dk w' d S M n safe wn (-1)/\Turn [d,M] w w':=by
 have H:=Z h;clear h;go_enter Tryz.func170,Tryz.ntmps170;go_wp2_with fail;refine (bm6 H.out h0 h1).mono ?_;rintro e w' ⟨rfl,rfl⟩;go_wp2_with fail;refine (dk6 H.out).mono ?_;rintro e w1 ⟨rfl,hD,hT,-⟩;have K:=H2 hD hT;clear hD hT;go_wp2;go_ret;exact ⟨rfl,K.out.1,K.out.2.mono sn⟩
theorem bu5:(prog.info? 5).map (·.size)=some 1:=X
theorem Dk.upd (h:Dk w d S M n safe wn well) {w':World} {bs:List UInt8} (hb:bs.length=48) {i:Int} (h0:0<=i) (h1:i<n) (hM:Mp prog 3 w' M (updD (fun z=>(wn z).map fun s=>Value.agg (sec s).toArray) i (.agg (sec bs).toArray)))
  (hg:w.grownBy w' (some M)):Dk w' d S M n safe (Go.Proofs.YtafkfnodcemefaaGreat.updD wn i bs) well:=by
 refine ⟨(hg.block d h.head.lt (by simp; exact h.dM)).trans h.head,?_,?_,h.len,fun z s hz=>?_,h.n1,h.n2,h.w1,h.w2⟩
 ·obtain ⟨C,h3,h4⟩:=h.rows
  exact ⟨C,(hg.block S h.ltS (by simp; exact h.SM)).trans h3,h4⟩
 ·have e:(fun z=>((Go.Proofs.YtafkfnodcemefaaGreat.updD wn i bs) z).map fun s=>Value.agg (sec s).toArray)=Go.Proofs.YtafkfnodcemefaaGreat.updD (fun z=>(wn z).map fun s=>Value.agg (sec s).toArray) i (.agg (sec bs).toArray):=by
   funext z;by_cases e:z=i
   ·subst e; simp [ai3]
   ·simp [ag3 _ e]
  rw [e]; exact hM
 ·by_cases e:z=i
  ·subst e; rw [ai3] at hz; cases hz; exact ⟨h0,h1,hb⟩
  ·rw [ag3 _ e] at hz; exact h.wlen z s hz
theorem bv4 (s:List UInt8) (cur:List Value) (h:cur.length=s.length):splice cur 0 (sec s)=sec s:=by
 unfold splice;simp [aa8,<- h]
theorem co7 (h:Dk w d S M n safe wn well) (hw:well≠0) (h0:0<=i) (h1:i<n) (hb:Bys w A 48 bs) (hA:∀ ad,A=some ad->ad.block≠d):Q 170 #[Pt d,I i,.slice A 48 cap] w fun e w'=>
  e= .returned (I 0)/\Dk w' d S M n safe (updD wn i bs) (dec well)/\Turn [d,M] w w':=by
 have n2:=h.n2;have H:=Zq h;have HB:=Zq hb;clear h hb;go_enter Tryz.func170,Tryz.ntmps170;go_wp2_with fail;refine (bm6 H.out h0 h1).mono ?_;rintro e w' ⟨rfl,rfl⟩;go_wp2_with fail;refine (bt6 H.out hw).mono ?_;rintro e w1 ⟨rfl,hD,hT,-⟩;have HB1:=Zq (HB.out.turn hT (by simpa using hA));have K:=H2 hD hT;clear hD hT HB H hA;go_wp2_with fail;have hX:=Blk.new w1 218 z48;have hN:=aa0 w1 (.cells z48 218);have hS:=aa1 w1 (.cells z48 218);generalize w1.alloc _=w2 at*;have hD2:=K.out.1.held hN;have hT2:=K.out.2.and_below hN;obtain ⟨hlen,hcells⟩:=HB1.out.held hN;obtain ⟨ad,rfl,hcell⟩:=hcells G;have hg1:w1.heap.size≠d:=Nat.ne_of_gt K.out.1.head.lt;have hg2:w1.heap.size≠S:=Nat.ne_of_gt K.out.1.ltS;have hg3:w1.heap.size≠M:=Nat.ne_of_gt K.out.1.map.lt;clear HB1 hcells;have hwg:w.heap.size<=w1.heap.size:=K.out.2.size;clear K;generalize w1.heap.size=g at*;have hrun:=run_copy_row (P:=prog) w2 45 45 3 5 g 0 48 48 ad 48 cap z48 218 (sec bs) X bu5 hX (by rw [aa8,hlen]; rfl) hcell (by rw [aa8,hlen]; decide) (ai7 bs);have e:(z48.toList.take 0++sec bs++z48.toList.drop (0+(sec bs).length)).toArray=(sec bs).toArray:=by
  have:=bv4 bs z48.toList (by rw [hlen]; rfl);unfold splice at this;rw [List.append_assoc,this]
 rw [e] at hrun;have hX3:Blk 218 (w2.setRow g (sec bs).toArray) g (sec bs).toArray:=setRow_heap w2 g _ _ _ _ hX;have hT3:Turn [g] w2 (w2.setRow g (sec bs).toArray):=⟨rfl,rfl,rfl,by simp [World.setRow],fun i _ hn=>setRow_other w2 g i _ (by simpa using hn)⟩;have hD3:=hD2.turn hT3 (by simpa using hg1.symm) (by simpa using hg2.symm) (by simpa using hg3.symm);rw [hrun];clear hrun hcell hX e;have hT4:Turn [d,M] w (w2.setRow g (sec bs).toArray):=(hT2.mono sn).fresh hT3 hwg;generalize w2.setRow g (sec bs).toArray=w3 at*;have hR:w3.rangeAt g 0 (sec bs):=fun j v hv=>by rw [Nat.zero_add,hX3.at_ j]; simpa using hv
 have cM:=hD3.head.at_ 1;have cM0:w3.cell? (Y d 1)=some (.map (some M)):=cM;clear cM;obtain ⟨w4,hr,hM',hg4,hs4⟩:=hD3.drew.map.store (t:=149) (e:=218) X X (N:=n) (by unfold maxLen; omega) (fun z hz=>by
  simp only [Option.isSome_map] at hz;obtain ⟨s,hs⟩:=Option.isSome_iff_exists.1 hz;have:=hD3.wlen z s hs;omega) (i:=i) (ci6 G G) (.agg (sec bs).toArray)
 have hD4:=hD3.drew.upd hlen h0 h1 hM' hg4;have cM4:w4.cell? (Y d 1)=some (.map (some M)):=hD4.head.at_ 1;have hR4:w4.rangeAt g 0 (sec bs):=fun j v hv=>by
  rw [World.cell?_of_block (hg4.block g hX3.lt (by simpa using hg3))];exact hR j v hv
 have hT5:Turn [d,M] w w4:=hT4.drew.trans (Turn.of_grown hg4 sn);have Z:=H2 hD4 hT5;have hu:=ai6;have hi:=secInfo hlen;clear hD4 hT5 hX3 hT3 hD3 hT4 hD2 hT2 hN hS hM' hg4 hs4;go_wp2_with fail;go_region_held3 (fun w'=>w'.cell? (Y d 1)=some (.map (some M))/\w'.rangeAt g 0 (sec bs)) (exact ⟨by assumption,by assumption⟩) (fail);go_wp2;go_ret;exact ⟨rfl,Z.out⟩
end
end Go.Proofs.YtafkfnodcemefaaGreat
set_option maxRecDepth 20000
namespace Go.Proofs.YtafkfnodcemefaaGreat
open _root_.Go.Proofs.Tryz (prog)
section
open Go.RowKit
theorem bo2:(prog.info? 5).map (fun i=>(i.zero,i.size,i.bytes))=some (some (Yy 0),1,1):=X
theorem bl4 {w:World} {base:Nat} {v:Value} {s:List UInt8} (h:w.ownsRow base 5 1 v s.length (sec s)) (hs:0<s.length):∃ g cap,v= Lt g s.length cap/\base<=g/\Bys w (some (Y g 0)) s.length s:=by
 rcases h.2 with ⟨_,h0⟩|⟨g,cap,cur,rfl,hb,hg,h1,h2,h3,h4⟩
 ·omega
 ·refine ⟨g,cap,rfl,hb,rfl,fun _=>⟨_,rfl,fun j u hu=>?_⟩⟩
  rw [Addr.add_mid,Nat.zero_add,cell_of_row w g j cur _ _ hg];rw [<- h4,Nat.mul_one,List.getElem?_take] at hu;split at hu
  ·simpa using hu
  ·cases hu
theorem bi7 (w:World) (ad:Addr) (s:List UInt8) (cap:Nat) (hs:0<s.length) (hs2:s.length<=140737488355328) (hc:∀ j v,(sec s)[j]?=some v->w.cell? (ad.add j)=some v):
  Q 43 #[.slice (some ad) s.length cap] w fun e w'=>∃ g cap',e= .returned (Lt g s.length cap')/\w.heap.size<=g/\Bys w' (some (Y g 0)) s.length s/\Bw w w'/\s.length<=cap':=by
 have HC:=Zq hc;clear hc;obtain ⟨i0,hi0,hz0,hz1,hz2⟩:=info_parts bo2;have II:=H4 hi0 hz0 hz1 hz2;clear hi0 hz0 hz1 hz2;have hq:=Lib.run_eql_slice_nil (P:=prog) w 45 5 (some ad) s.length cap 0 0 X;go_enter Tryz.func43,Tryz.ntmps43;go_wp2_with (first|(at_builtin; have own0:=World.ownsRow_made (base:=w.heap.size) (e:=5) (size:=1) w #[] 0 (Nat.le_refl _) (by unfold maxLen; omega) rfl; (refine wpList_append_own _ rfl (.tmp 5) (.tmp 6) 45 rfl w.heap.size 5 i0 (Yy 0) 1 1 X II.out.1 II.out.2.1 II.out.2.2.1 II.out.2.2.2 rfl (by decide) _ 0 [] rfl own0 ad s.length cap (sec s) rfl ?c1 ?c2 (ai7 s) ?c3 ?c4 ?c5 ?_)))
 case c1=>rw [aa8,Nat.mul_one]
 case c2=>exact fun j u hu=>held (aa0 w _) (HC.out j u hu)
 case c3=>unfold maxLen; omega
 case c4=>omega
 case c5=>simp
 intro v' w1 hown hg hnil;have Z:=H2 hown hg;clear hown hg hnil hq;go_wp2_with fail;go_ret;obtain ⟨hown,hg⟩:=Z.out;obtain ⟨g,cap',rfl,hbg,hB⟩:=bl4 hown hs;have hcp:s.length<=cap':=by rcases hown.2 with ⟨h,-⟩|⟨_,_,_,h,-,-,h2,-⟩<;>cases h; simpa using h2
 exact ⟨g,cap',rfl,hbg,hB,(aa0 w _).grown hg sn (fun k hk=>by simp [Value.ownBlock] at hk; omega),hcp⟩
theorem as7 (w:World):(zeroValue 218).run prog w= .ok (.agg z48) w:=X
theorem cb1:z48=(sec (List.replicate 48 0)).toArray:=by
 unfold sec;simp [z48,List.replicate]
def ReadAns (w:World) (s:List UInt8) (e:Ending) (w':World):Prop:=
 ∃ g cap,e= .returned (.tuple #[Lt g 48 cap,I 0])/\w.heap.size<=g/\Bys w' (some (Y g 0)) 48 s/\Bw w w'/\48<=cap
section
variable {w:World} {d S M n:Nat} {safe:Nat->List UInt8} {wn:Int->Option (List UInt8)} {well:Int}
theorem da8 (h:Dk w d S M n safe wn well) {i:Nat} (hi:i<n):Q 192 #[K d,I i] w (ReadAns w (synced safe wn i)):=by
 have n2:=h.n2;have cM:w.cell? (Y d 1)=some (.map (some M)):=h.head.at_ 1;have c0:w.cell? (Y d 0)=Xp S n n:=h.head.at_ 0;have hl:=h.map.look_ok (t:=149) (e:=218) kr kr (as7 w) (i:=(i:Int)) (ci6 G G);have hlen:=h.synced_len hi;have hlt:=h.head.lt
 cases hw:wn i with
 |some s=>
  have E:Hid (synced safe wn i=s):=Zq (by unfold synced; rw [hw]; rfl);rw [E.out] at hlen;simp only [hw,Option.map_some,Option.getD_some,Option.isSome_some] at hl;have H:=Zq h;clear h hw;go_enter Tryz.func192,Tryz.ntmps192;go_wp2_with fail;refine (bm6 H.out (i:=(i:Int)) G G).mono ?_;rintro e w' ⟨rfl,rfl⟩;go_wp2_with (first|(refine wpList_store_mid (P:=prog) rfl 218 (.tmp 6) (.tmp 19) rfl _ 0 (sec s).toArray rfl rfl (aj9 _ _ hlen) (secInfo' hlen) (all_oneCell_toArray (ai7 s)) ?_));obtain ⟨hN,hX,-⟩:=ak6 w 218 hlen;dsimp only [z48] at hN hX;generalize (World.setCells (w.alloc _) w.heap.size 0 (sec s))=w2 at*;have hc:=bi7 w2 ⟨w.heap.size,0,none⟩ s 48 G G (fun j v hv=>by rw [Addr.add_mid,Nat.zero_add,hX.at_ j]; simpa using hv);rw [hlen] at hc;refine hc.mono ?_;rintro e w3 ⟨g,cap,rfl,hg,hB,hb3,hcap⟩;have Z:=H5 hN hg hB hb3 hcap;clear hN hg hB hb3 hcap hX hc hl;go_wp2_with fail;go_ret2;obtain ⟨hN,hg,hB,hb3,hcap⟩:=Z.out;rw [E.out];exact ⟨g,cap,rfl,Nat.le_trans hN.size hg,hB,next hN hb3,hcap⟩
 |none=>
  have E:Hid (synced safe wn i=safe i):=Zq (by unfold synced; rw [hw]; rfl);rw [E.out] at hlen;simp only [hw,Option.map_none,Option.getD_none,Option.isSome_none,cb1] at hl;have hl0:(List.replicate 48 (0:UInt8)).length=48:=sn;generalize List.replicate 48 (0:UInt8)=s0 at*;have H:=Zq h;clear h hw;go_enter Tryz.func192,Tryz.ntmps192;go_wp2_with fail;refine (bm6 H.out (i:=(i:Int)) G G).mono ?_;rintro e w' ⟨rfl,rfl⟩;go_wp2_with (first
   |(refine wpList_store_mid (P:=prog) rfl 218 (.tmp 6) (.tmp 19) rfl _ 0 (sec s0).toArray rfl rfl (aj9 _ _ hl0) (secInfo' hl0) (all_oneCell_toArray (ai7 s0)) ?_
     obtain ⟨hN,hX,-⟩:=ak6 w 218 hl0;dsimp only [z48] at hN hX;rw [List.toList_toArray];generalize (World.setCells (w.alloc _) w.heap.size 0 (sec s0))=w2 at*;have c2:w2.cell? (Y d 0)=Xp S n n:=(H.out.held hN).head.at_ 0;have X:=H2 hN hX;clear hN hX)
   |(refine wpList_load_mid (P:=prog) rfl 218 (.tmp 28) rfl _ _ rfl (sec (safe i)) _ ((H.out.held X.out.1).range hi) ai6 rfl (secInfo hlen) ?_)
   |(refine wpList_store_mid (P:=prog) rfl 218 (.tmp 6) (.tmp 29) rfl _ 0 (sec (safe i)).toArray rfl rfl (X.out.2.there_all hlen hl0) (secInfo' hlen) (all_oneCell_toArray (ai7 _)) ?_))
  obtain ⟨hN,hX⟩:=X.out;have hX3:=hX.restored hlen hl0;have hN3:Below w.heap.size w (w2.setCells w.heap.size 0 (sec (safe i))):=hN.trans ((Turn.setCells (L:=[w.heap.size]) w2 sn 0 _).below sn hN.size);generalize w2.setCells w.heap.size 0 (sec (safe i))=w4 at*;have hc:=bi7 w4 ⟨w.heap.size,0,none⟩ (safe i) 48 G G (fun j v hv=>by rw [Addr.add_mid,Nat.zero_add,hX3.at_ j]; simpa using hv);rw [hlen] at hc;refine hc.mono ?_;rintro e w3 ⟨g,cap,rfl,hg,hB,hb3,hcap⟩;have Z:=H5 hN3 hg hB hb3 hcap;clear hN hg hB hb3 hcap hX hc hl hX3 hN3;go_wp2_with fail;go_ret2;obtain ⟨hN,hg,hB,hb3,hcap⟩:=Z.out;rw [E.out];exact ⟨g,cap,rfl,Nat.le_trans hN.size hg,hB,next hN hb3,hcap⟩
end
end
end Go.Proofs.YtafkfnodcemefaaGreat
namespace Go.Proofs.YtafkfnodcemefaaGreat.Crc
open _root_.Go.Proofs.Tryz (prog)
def step (n:Nat):Nat:=if 2147483648<=n then (2*n % 4294967296) ^^^ 79764919 else 2*n % 4294967296
def steps:Nat->Nat->Nat
 |0,n=>n
 |k+1,n=>step (steps k n)
def byteAt (s c:Nat):Nat:=steps 8 (s ^^^ (c*16777216))
def all:List Nat->Nat
 |l=>l.foldl byteAt 4294967295
theorem cz4 (n:Nat):step n<4294967296:=by
 unfold step;have h:2*n % 4294967296<4294967296:=Nat.mod_lt _ (by decide);split
 ·exact Nat.xor_lt_two_pow (n:=32) h (by decide)
 ·exact h
theorem steps_lt (k n:Nat) (h:n<4294967296):steps k n<4294967296:=by
 cases k with
 |zero=>exact h
 |succ k=>exact cz4 _
theorem start_lt (s c:Nat) (h:s<4294967296) (hc:c<256):s ^^^ (c*16777216)<4294967296:=
 Nat.xor_lt_two_pow (n:=32) h G
theorem cn0 (s c:Nat) (h:s<4294967296) (hc:c<256):byteAt s c<4294967296:=steps_lt 8 _ (start_lt s c h hc)
theorem all_snoc (l:List Nat) (c:Nat):all (l++[c])=byteAt (all l) c:=by
 simp only [all,List.foldl_append,List.foldl_cons,List.foldl_nil]
theorem de7 (l:List Nat):∀ s:Nat,s<4294967296->(∀ c,c∈l->c<256)->l.foldl byteAt s<4294967296:=by
 induction l with
 |nil=>intro s hs _; simpa only [List.foldl_nil] using hs
 |cons c l ih=>
  intro s hs h;rw [List.foldl_cons];exact ih _ (cn0 s c hs (h c (List.mem_cons_self ..))) (fun d hd=>h d (List.mem_cons_of_mem _ hd))
theorem all_lt (l:List Nat) (h:∀ c,c∈l->c<256):all l<4294967296:=de7 l 4294967295 G h
end Go.Proofs.YtafkfnodcemefaaGreat.Crc
set_option maxRecDepth 20000
namespace Go.Proofs.YtafkfnodcemefaaGreat
open _root_.Go.Proofs.Tryz (prog)
section
open Go.RowKit
variable {w:World}{A:Option Addr}{n:Nat}{bs:List Nat}
def BytesAt (w:World) (A:Option Addr) (n:Nat) (bs:List Nat):Prop:=
 bs.length=n/\n<=maxLen/\(∀ c,c∈bs->c<256)/\∀ k,k<n->∃ ad,A=some ad/\w.cell? (ad.add k)=some (Yy (bs.getD k 0:Nat))
theorem BytesAt.take_succ (h:BytesAt w A n bs) {k:Nat} (hk:k<n):bs.take (k+1)=bs.take k++[bs.getD k 0]:=by
 have hl:k<bs.length:=by have:=h.1; omega
 rw [List.take_succ_eq_append_getElem hl];simp [List.getD,hl]
theorem BytesAt.takeAll (h:BytesAt w A n bs):bs.take n=bs:=by rw [<- h.1,List.take_length]
theorem BytesAt.lt (h:BytesAt w A n bs) (k:Nat):bs.getD k 0<256:=by
 rw [List.getD_eq_getElem?_getD]
 cases e:bs[k]? with
 |none=>simp
 |some c=>simpa using h.2.2.1 c (List.mem_of_getElem? e)
theorem BytesAt.take_lt (h:BytesAt w A n bs) (k:Nat):∀ c,c∈bs.take k->c<256:=
 fun c hc=>h.2.2.1 c (List.mem_of_mem_take hc)
theorem co0 (m:Nat) (hm:m<4294967296):(bits .and .u32 (m:Int) 2147483648 !=0)=decide (2147483648<=m):=by
 rw [show (2147483648:Int)=((2147483648:Nat):Int) from rfl,u32_and_nat m 2147483648 hm G];have h:=nat_bit 31 m;simp only [Nat.reducePow] at h;rw [h];by_cases hh:2147483648<=m
 ·have:m / 2147483648 % 2=1:=G
  simp [this,hh]
 ·have:m / 2147483648 % 2=0:=G
  simp [this,hh]
theorem dbl (m:Nat):(m:Int)*2 % 4294967296=((2*m % 4294967296:Nat):Int):=G
theorem co6 (m:Nat):bits .xor .u32 ((m:Int)*2 % 4294967296) 79764919=(((2*m % 4294967296) ^^^ 79764919:Nat):Int):=by
 rw [dbl];exact u32_xor_nat (2*m % 4294967296) 79764919 (Nat.mod_lt _ G) G
theorem cl2 (n:Nat) (hn:n<4294967296) (w:World):
  Q 209 #[U n] w fun e w'=>e= .returned (U (Crc.steps 8 n:Nat))/\w=w':=by
 go_enter Tryz.func209,Tryz.ntmps209;go_wp2;go_loop [0,3,4] (fun s _ i=>∃ k:Nat,k<=8/\i= I k/\s= U (Crc.steps k n:Nat)) (fun _ _ i=>8 - (intOf i).toNat)
 case atStart=>exact ⟨0,G,rfl,rfl⟩
 case round=>
  obtain ⟨k,hk,rfl,rfl⟩:=hrel;by_cases hlt:k<8
  ·have hm:=Crc.steps_lt k n hn
   have E:Hid (Crc.steps (k+1) n=Crc.step (Crc.steps k n)):=Z rfl;generalize Crc.steps k n=m at hm E;go_wp2
   ·have ht:2147483648<=m:=by
     have h:(bits .and .u32 (m:Int) 2147483648 !=0)=true:=by assumption
     rw [co0 m hm] at h; simpa using h
    go_round
    case rel=>exact ⟨k+1,G,by go_num,by rw [E.out,Crc.step,if_pos ht,co6]⟩
    case measure=>simp [intOf]; omega
   ·have ht:¬ 2147483648<=m:=by
     have h:(bits .and .u32 (m:Int) 2147483648 !=0)=false:=by assumption
     rw [co0 m hm] at h; simpa using h
    go_round
    case rel=>exact ⟨k+1,G,by go_num,by rw [E.out,Crc.step,if_neg ht,dbl]⟩
    case measure=>simp [intOf]; omega
  ·obtain rfl:k=8:=G
   go_wp2;go_ret;exact ⟨rfl,rfl⟩
theorem put_in (s c:Nat) (hs:s<4294967296) (hc:c<256):bits .xor .u32 (s:Int) ((c:Int)*16777216)=((s ^^^ (c*16777216):Nat):Int):=by
 rw [show ((c:Int)*16777216)=((c*16777216:Nat):Int) from by omega];exact u32_xor_nat s (c*16777216) hs G
theorem cx3 (A:Option Addr) (n cap:Nat) (bs:List Nat) (w:World) (h:BytesAt w A n bs):
  Q 195 #[.slice A n cap] w fun e w'=>e= .returned (U (Crc.all bs:Nat))/\w=w':=by
 have hn:n<=9223372036854775807:=by have:=h.2.1; unfold maxLen at this; omega
 have H:=Z h;clear h;go_enter Tryz.func195,Tryz.ntmps195;go_wp2;go_loop [3,8] (fun s i=>∃ k:Nat,k<=n/\i= I k/\s= U (Crc.all (bs.take k):Nat)) (fun _ i=>n - (intOf i).toNat)
 case atStart=>exact ⟨0,G,rfl,rfl⟩
 case round=>
  obtain ⟨k,hk,rfl,rfl⟩:=hrel;have hm:=Crc.all_lt _ (H.out.take_lt k);by_cases hlt:k<n
  ·obtain ⟨ad,ha,hcell⟩:=H.out.2.2.2 k hlt
   have hc:=H.out.lt k;have E:Hid (Crc.all (bs.take (k+1))=Crc.byteAt (Crc.all (bs.take k)) (bs.getD k 0)):=Z (by rw [H.out.take_succ hlt,Crc.all_snoc]);generalize Crc.all (bs.take k)=s at hm E ⊢;generalize bs.getD k 0=c at hc E hcell;subst ha;go_wp2_with fail;rw [put_in s c hm hc];refine (cl2 _ (Crc.start_lt s c hm hc) _).mono ?_;rintro e w' ⟨rfl,rfl⟩;go_wp2;go_round
   case rel=>exact ⟨k+1,G,by go_num,by rw [E.out]; rfl⟩
   case measure=>simp [intOf]; omega
  ·go_wp2
   go_ret;obtain rfl:k=n:=G
   exact ⟨ab0 (by rw [H.out.takeAll]),rfl⟩
end
end Go.Proofs.YtafkfnodcemefaaGreat
namespace Go.Proofs.YtafkfnodcemefaaGreat.Rm
open _root_.Go.Proofs.Tryz (prog)
section
variable {b:List Nat}
structure Rc where
 kind:Int
 gen:Nat
 lsn:Nat
 id:Nat
 a:Nat
 len:Int
 on:Bool
 seq:Nat
 met:Nat
deriving DecidableEq
structure Rc.Fits (r:Rc):Prop where
 k1:-9223372036854775808<=r.kind
 k2:r.kind<=9223372036854775807
 gen:r.gen<4294967296
 lsn:r.lsn<4294967296
 id:r.id<4294967296
 a:r.a<4294967296
 n1:-9223372036854775808<=r.len
 n2:r.len<=9223372036854775807
 seq:r.seq<4294967296
 met:r.met<65536
def zero:Rc:=⟨0,0,0,0,0,0,false,0,0⟩
def pared (r:Rc):Rc:=
 if r.kind=1 then ⟨r.kind,r.gen,r.lsn,r.id,0,0,false,0,0⟩
 else if r.kind=2 then ⟨r.kind,r.gen,r.lsn,0,r.a,r.len,r.on,0,0⟩
 else if r.kind=3 then ⟨r.kind,r.gen,r.lsn,0,0,0,false,r.seq,0⟩
 else if r.kind=4 then ⟨r.kind,r.gen,r.lsn,r.id,r.a,r.len,false,r.seq,r.met⟩
 else ⟨r.kind,r.gen,r.lsn,0,0,0,false,0,0⟩
def named (k:Int):Bool:=k==1||k==4
def right (r:Rc):Bool:=
 decide (1<=r.kind) && decide (r.kind<=4) && decide (r=pared r) && (r.id !=0||!named r.kind) && Am.right r.a r.len && decide (r.seq<=1073741824) && !(r.met==65535)
def right2 (r:Rc):Bool:=
 if !Am.right r.a r.len||decide (1073741824<r.seq)||r.met==65535 then false
 else if r.kind=1 then decide (0<r.id) && (r.a==0 && r.len==0) && !r.on && (r.seq==0 && r.met==0)
 else if r.kind=2 then r.id==0 && (r.seq==0 && r.met==0)
 else if r.kind=3 then r.id==0 && (r.a==0 && r.len==0) && !r.on && r.met==0
 else if r.kind=4 then decide (0<r.id) && !r.on
 else false
theorem ai8 (r:Rc):right2 r=right r:=by
 obtain ⟨k,g,l,i,a,n,o,s,m⟩:=r;unfold right right2;by_cases hA:Am.right a n=true
 ·by_cases hs:1073741824<s
  ·simp [hs,show ¬ s<=1073741824 by omega]
  ·by_cases hm:m=65535
   ·simp [hm]
   ·have hs':s<=1073741824:=G
    by_cases h1:k=1
    ·subst h1; simp [hA,hs,hm,pared,named,hs']; cases o<;>simp<;>grind
    by_cases h2:k=2
    ·subst h2; simp [hA,hs,hm,pared,named,hs']; grind
    by_cases h3:k=3
    ·subst h3; simp [hA,hs,hm,pared,named,hs']; cases o<;>simp<;>grind
    by_cases h4:k=4
    ·subst h4; simp [hA,hs,hm,pared,named,hs']; cases o<;>simp<;>grind
    ·have:¬ (1<=k/\k<=4):=G
     simp [h1,h2,h3,h4,hA,hs,hm];intro h5 h6;omega
 ·simp [hA]
def four (n:Nat):List Nat:=[n / 16777216 % 256,n / 65536 % 256,n / 256 % 256,n % 256]
def two (n:Nat):List Nat:=[n / 256 % 256,n % 256]
def low (z:Int):Nat:=(z % 256).toNat
def body (r:Rc):List Nat:=
 [low r.kind,if r.on then 1 else 0]++two r.met++four r.gen++four r.lsn++four r.id++four r.a++[low r.len,0,0,0]++four r.seq++[0,0,0,0,0,0,0,0,0,0,0,0,0,0,0,0]
def bytes (r:Rc):List Nat:=body r++four (Crc.all (body r))
theorem cx4 (z:Int):low z<256:=by unfold low; omega
theorem am7 (n:Nat):∀ c∈four n,c<256:=by
 intro c hc;simp only [four,List.mem_cons,List.not_mem_nil,or_false] at hc;omega
theorem ac1 (r:Rc):(body r).length=44:=rfl
theorem aj7 (r:Rc):(bytes r).length=48:=rfl
theorem an0 (r:Rc):∀ c∈body r,c<256:=by
 intro c hc;have:=cx4 r.kind;have:=cx4 r.len;simp only [body,two,four,List.cons_append,List.nil_append,List.mem_cons,List.not_mem_nil,or_false] at hc;rcases hc with h|h|h
 ·omega
 ·split at h<;>omega
 ·omega
theorem bd6 (r:Rc):∀ c∈bytes r,c<256:=by
 intro c hc;rcases List.mem_append.1 hc with h|h
 ·exact an0 r c h
 ·exact am7 _ c h
def num4 (b:List Nat) (i:Nat):Nat:=((b.getD i 0*256+b.getD (i+1) 0)*256+b.getD (i+2) 0)*256+b.getD (i+3) 0
def num2 (b:List Nat) (i:Nat):Nat:=b.getD i 0*256+b.getD (i+1) 0
def parse (b:List Nat):Rc:=⟨b.getD 0 0,num4 b 4,num4 b 8,num4 b 12,num4 b 16,b.getD 20 0,b.getD 1 0==1,num4 b 24,num2 b 2⟩
def of (b:List Nat):Option Rc:=if b.length=48/\right (parse b)=true/\bytes (parse b)=b then some (parse b) else none
theorem getD_lt (h:∀ c∈b,c<256) (i:Nat):b.getD i 0<256:=by
 rw [List.getD_eq_getElem?_getD]
 cases e:b[i]? with
 |none=>simp
 |some c=>simpa using h c (List.mem_of_getElem? e)
theorem av2 (h:∀ c∈b,c<256) (i:Nat):num4 b i<4294967296:=by
 have g:=getD_lt h;have:=g i; have:=g (i+1); have:=g (i+2); have:=g (i+3);unfold num4; omega
theorem cg8 (h:∀ c∈b,c<256) (i:Nat):num2 b i<65536:=by
 have g:=getD_lt h;have:=g i; have:=g (i+1);unfold num2; omega
theorem ak5 (h:∀ c∈b,c<256):(parse b).Fits:=
 ⟨by simp only [parse]; omega,by have:=getD_lt h 0; simp only [parse]; omega,av2 h _,av2 h _,av2 h _,av2 h _,
  by simp only [parse]; omega,by have:=getD_lt h 20; simp only [parse]; omega,av2 h _,cg8 h _⟩
end
end Go.Proofs.YtafkfnodcemefaaGreat.Rm
