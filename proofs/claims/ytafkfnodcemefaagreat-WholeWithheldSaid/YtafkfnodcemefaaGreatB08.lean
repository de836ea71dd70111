import Derived.Test.YtafkfnodcemefaaGreatB07
import Derived.RangeFuncNested
import Derived.RangeFuncBound
import Derived.Sort.KeysCollected
import Derived.Shelf.RegionOpen
import Derived.OwnWalkIn
import Derived.LoopNIn
import Derived.LoopIn
set_option maxHeartbeats 8000000
set_option maxRecDepth 100000
namespace Go.Proofs.YtafkfnodcemefaaGreat
open _root_.Go.Proofs.Tryz (prog)
section
open Go.RowKit Rm
variable {gen id:Nat}
theorem ax1 (h:0<id):right ⟨1,gen,0,id,0,0,false,0,0⟩=true:=by
 rw [<- ai8];unfold right2;simp [show Am.right 0 0=true by decide,h]
theorem az4 (hg:gen<4294967296) (h:id<4294967296):(⟨1,gen,0,id,0,0,false,0,0⟩:Rc).Fits:=by constructor<;>(dsimp only; omega)
section
variable {w w':World} {d S M n:Nat} {safe:Nat->List UInt8} {wn:Int->Option (List UInt8)} {well:Int} {tS:TypeId} {XS:List Value} {lb:Nat} {o fl:Option Nat} {id lease cn cm:Nat} {own:Pk->Option Bool} {floor:Ky->Option (Nat×Nat)}
theorem cf2 (h:Dk w d S M n safe wn well) (hw:well≠0) (hw2:dec well≠0) {first size gen id:Nat} (hi:first<n) (hg:gen<4294967296) (h0:0<id) (h1:id<4294967296):
  Q 114 #[.agg #[K d,I first,I size,U gen],I 0,.agg #[I 1,U 0,U 0,U id,U 0,I 0,O false,U 0,V 0]] w fun e w'=>e= .returned (I 0)/\Dk w' d S M n (synced safe (updD wn ((first:Int)+(0:Nat)) (u8s (Rm.bytes (⟨1,gen,0,id,0,0,false,0,0⟩:Rc))))) (fun _=>none) (dec (dec well))/\Turn [d,S,M] w w':=
 bq8 h hw hw2 (place:=0) (size:=size) (k:=1) (g:=0) (l:=0) (a:=0) (len:=0) (on:=false) (s:=0) (m:=0) hi (az4 hg h1) (ax1 h0)
theorem ca3 (hS:St tS XS w lb o fl id lease cn cm own floor) (h:Dk w d S M n safe wn well) (hw:well≠0) (hw2:dec well≠0) {first size gen:Nat} (hi:first<n) (hg:gen<4294967296) (h0:0<id) (h1:id<4294967296):
  Q 141 #[K lb,.agg #[K d,I first,I size,U gen]] w fun e w'=>e= .returned (I 0)/\Dk w' d S M n (synced safe (updD wn ((first:Int)+(0:Nat)) (u8s (Rm.bytes (⟨1,gen,0,id,0,0,false,0,0⟩:Rc))))) (fun _=>none) (dec (dec well))/\Turn [d,S,M] w w':=by
 obtain ⟨hb,hP⟩:=nw w 109 #[K d,I first,I size,U gen];have hlt:=h.head.lt;have hltM:=h.map.lt;have hltS:=h.ltS;have hll:=hS.head.lt;go_enter Tryz.func141,Tryz.ntmps141;go_wp2_with fail;generalize w.alloc _=W at*;have c0:W.drew.cell? (Y w.heap.size 0)=Np d:=hP.at_ 0;have c1:W.drew.cell? (Y w.heap.size 1)=some (I first):=hP.at_ 1;have c2:W.drew.cell? (Y w.heap.size 2)=some (I size):=hP.at_ 2;have c3:W.drew.cell? (Y w.heap.size 3)=some (U gen):=hP.at_ 3;have hSW:=Z ((hS.held hb).drew);have hPUT:=Z (cf2 ((h.held hb).drew) hw hw2 (size:=size) hi hg h0 h1);have HB:=Z hb;clear hP hb hS h;go_region_held3 (fun w'=>w'.cell? (Y w.heap.size 0)=Np d/\w'.cell? (Y w.heap.size 1)=some (I first)/\w'.cell? (Y w.heap.size 2)=some (I size)/\w'.cell? (Y w.heap.size 3)=some (U gen))
  (first|exact ⟨c0,c1,c2,c3⟩|exact ⟨hT3.cell c0 (by simp; omega),hT3.cell c1 (by simp; omega),hT3.cell c2 (by simp; omega),hT3.cell c3 (by simp; omega)⟩|go_keep)
  (first|(go_at_call 72; refine (ci8 hSW.out).mono ?_; rintro e w' ⟨rfl,rfl⟩)|(go_at_call 114; refine hPUT.out.mono ?_; rintro e w3 ⟨rfl,hD3,hT3⟩))
 have hTT:=(Turn.of_below [d,S,M] HB.out.drew).trans hT3;clear c0 c1 c2 c3 hSW hPUT;go_wp2_with fail;go_ret;exact ⟨rfl,hD3,hTT⟩
theorem dm7 (h:Dk w d S M n safe wn 1) {first size gen id:Nat} (hi:first<n) (hg:gen<4294967296) (h0:0<id) (h1:id<4294967296):
  Q 114 #[.agg #[K d,I first,I size,U gen],I 0,.agg #[I 1,U 0,U 0,U id,U 0,I 0,O false,U 0,V 0]] w fun e w'=>e= .returned (I 4)/\Dk w' d S M n safe (updD wn ((first:Int)+(0:Nat)) (u8s (Rm.bytes (⟨1,gen,0,id,0,0,false,0,0⟩:Rc)))) (-1)/\Turn [d,S,M] w w':=
 dn8 h (place:=0) (size:=size) (k:=1) (g:=0) (l:=0) (a:=0) (len:=0) (on:=false) (s:=0) (m:=0) hi (az4 hg h1) (ax1 h0)
theorem dl4 (hS:St tS XS w lb o fl id lease cn cm own floor) (h:Dk w d S M n safe wn 1) {first size gen:Nat} (hi:first<n) (hg:gen<4294967296) (h0:0<id) (h1:id<4294967296):
  Q 141 #[K lb,.agg #[K d,I first,I size,U gen]] w fun e w'=>e= .returned (I 4)/\Dk w' d S M n safe (updD wn ((first:Int)+(0:Nat)) (u8s (Rm.bytes (⟨1,gen,0,id,0,0,false,0,0⟩:Rc)))) (-1)/\Turn [d,S,M] w w':=by
 obtain ⟨hb,hP⟩:=nw w 109 #[K d,I first,I size,U gen];have hlt:=h.head.lt;have hltM:=h.map.lt;have hltS:=h.ltS;have hll:=hS.head.lt;go_enter Tryz.func141,Tryz.ntmps141;go_wp2_with fail;generalize w.alloc _=W at*;have c0:W.drew.cell? (Y w.heap.size 0)=Np d:=hP.at_ 0;have c1:W.drew.cell? (Y w.heap.size 1)=some (I first):=hP.at_ 1;have c2:W.drew.cell? (Y w.heap.size 2)=some (I size):=hP.at_ 2;have c3:W.drew.cell? (Y w.heap.size 3)=some (U gen):=hP.at_ 3;have hSW:=Z ((hS.held hb).drew);have hPUT:=Z (dm7 ((h.held hb).drew) (size:=size) hi hg h0 h1);have HB:=Z hb;clear hP hb hS h;go_region_held3 (fun w'=>w'.cell? (Y w.heap.size 0)=Np d/\w'.cell? (Y w.heap.size 1)=some (I first)/\w'.cell? (Y w.heap.size 2)=some (I size)/\w'.cell? (Y w.heap.size 3)=some (U gen))
  (first|exact ⟨c0,c1,c2,c3⟩|exact ⟨hT3.cell c0 (by simp; omega),hT3.cell c1 (by simp; omega),hT3.cell c2 (by simp; omega),hT3.cell c3 (by simp; omega)⟩|go_keep)
  (first|(go_at_call 72; refine (ci8 hSW.out).mono ?_; rintro e w' ⟨rfl,rfl⟩)|(go_at_call 114; refine hPUT.out.mono ?_; rintro e w3 ⟨rfl,hD3,hT3⟩))
 have hTT:=(Turn.of_below [d,S,M] HB.out.drew).trans hT3;clear c0 c1 c2 c3 hSW hPUT;go_wp2_with fail;go_ret;exact ⟨rfl,hD3,hTT⟩
theorem dm8 (h:Dk w d S M n safe wn 0) {first size gen id:Nat} (hi:first<n) (hg:gen<4294967296) (h0:0<id) (h1:id<4294967296):
  Q 114 #[.agg #[K d,I first,I size,U gen],I 0,.agg #[I 1,U 0,U 0,U id,U 0,I 0,O false,U 0,V 0]] w fun e w'=>e= .returned (I 4)/\Dk w' d S M n safe wn (-1)/\Turn [d,S,M] w w':=
 dn9 h (place:=0) (size:=size) (k:=1) (g:=0) (l:=0) (a:=0) (len:=0) (on:=false) (s:=0) (m:=0) hi (az4 hg h1) (ax1 h0)
theorem dl5 (hS:St tS XS w lb o fl id lease cn cm own floor) (h:Dk w d S M n safe wn 0) {first size gen:Nat} (hi:first<n) (hg:gen<4294967296) (h0:0<id) (h1:id<4294967296):
  Q 141 #[K lb,.agg #[K d,I first,I size,U gen]] w fun e w'=>e= .returned (I 4)/\Dk w' d S M n safe wn (-1)/\Turn [d,S,M] w w':=by
 obtain ⟨hb,hP⟩:=nw w 109 #[K d,I first,I size,U gen];have hlt:=h.head.lt;have hltM:=h.map.lt;have hltS:=h.ltS;have hll:=hS.head.lt;go_enter Tryz.func141,Tryz.ntmps141;go_wp2_with fail;generalize w.alloc _=W at*;have c0:W.drew.cell? (Y w.heap.size 0)=Np d:=hP.at_ 0;have c1:W.drew.cell? (Y w.heap.size 1)=some (I first):=hP.at_ 1;have c2:W.drew.cell? (Y w.heap.size 2)=some (I size):=hP.at_ 2;have c3:W.drew.cell? (Y w.heap.size 3)=some (U gen):=hP.at_ 3;have hSW:=Z ((hS.held hb).drew);have hPUT:=Z (dm8 ((h.held hb).drew) (size:=size) hi hg h0 h1);have HB:=Z hb;clear hP hb hS h;go_region_held3 (fun w'=>w'.cell? (Y w.heap.size 0)=Np d/\w'.cell? (Y w.heap.size 1)=some (I first)/\w'.cell? (Y w.heap.size 2)=some (I size)/\w'.cell? (Y w.heap.size 3)=some (U gen))
  (first|exact ⟨c0,c1,c2,c3⟩|exact ⟨hT3.cell c0 (by simp; omega),hT3.cell c1 (by simp; omega),hT3.cell c2 (by simp; omega),hT3.cell c3 (by simp; omega)⟩|go_keep)
  (first|(go_at_call 72; refine (ci8 hSW.out).mono ?_; rintro e w' ⟨rfl,rfl⟩)|(go_at_call 114; refine hPUT.out.mono ?_; rintro e w3 ⟨rfl,hD3,hT3⟩))
 have hTT:=(Turn.of_below [d,S,M] HB.out.drew).trans hT3;clear c0 c1 c2 c3 hSW hPUT;go_wp2_with fail;go_ret;exact ⟨rfl,hD3,hTT⟩
end
def lgX (d first size gen len:Nat) (laid:Bool):List Value:=[K d,I first,I size,U gen,I len,O laid]
section
variable {w w':World} {d S M n:Nat} {safe:Nat->List UInt8} {wn:Int->Option (List UInt8)} {well:Int}
theorem dd6 (h:Dk w d S M n safe wn well) {id:Nat} (hn:n<4):
  Q 107 #[K d,U id] w (Rr0 w (.tuple #[.pointer none,I 1])):=by
 have HR:=au4 h (half:=n / 2) rfl;obtain ⟨half,hh⟩:=eX (n / 2);rw [<- hh] at HR;have hlt:=dT ((half:Int)<2);clear hh h;go_enter Tryz.func107,Tryz.ntmps107;go_wp2_with fail;refine HR.mono ?_;rintro e w1 ⟨rfl,hb1⟩;have hb2:=next hb1 (aa0 w1 (.cells #[K d,I 0,I half,U 0,K d,I half,I half,U 0] 236));clear HR hb1;go_wp2_with fail;go_ret2;exact ⟨rfl,hb2⟩
end
variable {tL:TypeId} {YS:List Value}
section
variable {w w':World} {d lb first size gen len:Nat} {laid:Bool} {o fl:Option Nat} {id lease cn cm:Nat} {own:Pk->Option Bool} {floor:Ky->Option (Nat×Nat)}
theorem aj2 (h:St tL (lgX d first size gen len laid++YS) w lb o fl id lease cn cm own floor):Blk tL w lb (Value.int .u32 id::Value.int .u32 lease::Value.map o::Value.map fl::(lgX d first size gen len laid++YS)).toArray:=h.head
theorem cc9 (h:St tL (lgX d first size gen len laid++YS) w lb o fl id lease cn cm own floor):
  Q 50 #[K lb] w fun e w'=>e= .returned (K lb)/\w=w':=by
 have c0:=(aj2 h).at_ 0;clear h;go_enter Tryz.func50,Tryz.ntmps50;go_wp2;go_ret;exact ⟨rfl,rfl⟩
theorem br8 (h:St tL (lgX d first size gen len laid++YS) w lb o fl id lease cn cm own floor) (hl:len<=1000000000):
  Q 115 #[K lb] w fun e w'=>e= .returned (I (1+(len:Int)))/\w=w':=by
 have c8:w.cell? (Y lb 8)=some (I len):=(aj2 h).at_ 8;have hw:IntKind.i64.wrap (1+(len:Int))=1+(len:Int):=by simp only [IntKind.wrap,IntKind.bits,IntKind.signed]; simp; omega
 clear h;go_enter Tryz.func115,Tryz.ntmps115;go_wp2;go_ret;exact ⟨rfl,rfl⟩
theorem cu4 (h:St tL (lgX d first size gen len laid++YS) w lb o fl id lease cn cm own floor) (hl:len<=1000000000) {q:Bool} (hq:decide ((size:Int)<=1+(len:Int))=q):
  Q 112 #[K lb] w (Rr0 w (O q)):=by
 have c6:w.drew.cell? (Y lb 6)=some (I size):=(aj2 h).at_ 6;have HN:=br8 h.drew hl;clear h;go_enter Tryz.func112,Tryz.ntmps112;go_wp2_with fail;go_region_held3 (fun w'=>w'.cell? (Y lb 6)=some (I size)) (go_keep)
  (first|(go_at_call 115; refine HN.mono ?_; rintro e w' ⟨rfl,rfl⟩))
 go_wp2_with fail;go_ret;exact ⟨aa4 (by rw [<- hq]),(Below.refl _ _).drew⟩
end
end
section
open Go.RowKit Go.Maps
variable {B B' cnt f l m n:Nat}{P:Program}{args tmps:Array Value}{A W W' w:World}{R:Ending->World->Prop}{assign:Code}{L:List Nat}
section
variable {P:Program} {k t e:TypeId} {α:Type} [DecidableEq α] {E:Ke P k α} {w w':World} {b r n:Nat} {f:α->Option Value}
theorem Mk.card (h:Mk E w b n f) {xs:List α} (hnd:xs.Nodup) (hm:∀ k,k∈xs↔E.ok k/\(f k).isSome=true):xs.length=n:=by
 obtain ⟨D,hown,hn,S⟩:=h;obtain ⟨es,hD,hpw,_⟩:=hown.entries E.law;obtain ⟨es',hD',hko⟩:=hown.keysOf;obtain rfl:es=es':=by rw [hD] at hD'; simpa using hD'
 subst hD;have hn':es.length=n:=hn;have hlit:∀ p∈es,∃ x,E.ok x/\p.1=E.lit x:=fun p hp=>by
  obtain ⟨v,hv⟩:=hko p hp;obtain ⟨x,hx,-,e⟩:=E.inv _ _ hv;exact ⟨x,hx,e⟩
 have hP:(xs.map E.lit).Perm (es.map fun p=>p.1):=by
  refine (List.perm_ext_iff_of_nodup ?_ ?_).2 fun l=>?_
  ·refine List.pairwise_map.2 (hnd.imp_of_mem fun {a b} ha hb hne e=>hne (E.inj a b ((hm a).1 ha).1 ((hm b).1 hb).1 e))
  ·exact List.pairwise_map.2 hpw
  ·rw [List.mem_map,List.mem_map]
   constructor
   ·rintro ⟨x,hx,rfl⟩
    obtain ⟨h1,h2⟩:=(hm x).1 hx;rw [<- (S x h1).2,has_eq,List.any_eq_true] at h2;obtain ⟨p,hp,hs⟩:=h2;obtain ⟨y,hy,e⟩:=hlit p hp;refine ⟨p,hp,?_⟩;rw [e] at hs ⊢;rw [E.sameKey hy h1,decide_eq_true_eq] at hs;rw [hs]
   ·rintro ⟨p,hp,rfl⟩
    obtain ⟨y,hy,e⟩:=hlit p hp;refine ⟨y,(hm y).2 ⟨hy,?_⟩,e.symm⟩;rw [<- (S y hy).2,has_eq,List.any_eq_true];refine ⟨p,hp,?_⟩;rw [e,E.sameKey hy hy];simp
 have:=hP.length_eq;simpa [hn'] using this
def Came (E:Ke P k α) (f:α->Option Value) (left:α->Bool) (xs:List α):Prop:=xs.Nodup/\∀ x,x∈xs↔E.ok x/\(f x).isSome=true/\left x=false
omit [DecidableEq α] in
theorem Came.start (E:Ke P k α) (f:α->Option Value):Came E f (fun z=>(f z).isSome) []:=
 ⟨List.nodup_nil,fun x=>⟨fun h=>by simp at h,fun h=>by have h1:=h.2.1; have h2:(f x).isSome=false:=h.2.2; rw [h1] at h2; cases h2⟩⟩
theorem Came.step {left:α->Bool} {xs:List α} (h:Came E f left xs) {x:α} (hx:E.ok x) (hl:left x=true) {v:Value} (hf:f x=some v):Came E f (fun z=>left z && !decide (z=x)) (xs++[x]):=by
 have hnew:x∉xs:=fun hm=>by have:=((h.2 x).1 hm).2.2; rw [hl] at this; cases this
 refine ⟨List.nodup_append.2 ⟨h.1,sn,fun a ha b hb=>by simp at hb; subst hb; exact fun e=>hnew (e ▸ ha)⟩,fun y=>?_⟩;by_cases hy:y=x
 ·subst hy; simp [hx,hf]
 ·simp [h.2 y,hy]
omit [DecidableEq α] in
theorem Came.all {left:α->Bool} {xs:List α} (h:Came E f left xs) (hl:∀ z,E.ok z->left z=false):xs.Nodup/\∀ x,x∈xs↔E.ok x/\(f x).isSome=true:=
 ⟨h.1,fun x=>by rw [h.2 x]; exact ⟨fun h=>⟨h.1,h.2.1⟩,fun h=>⟨h.1,h.2,hl x h.1⟩⟩⟩
omit [DecidableEq α] in
theorem Rg.of_walks {left:α->Bool} (h:Rg E w b r n f left cnt) (hk:KeepsWalks w w'):Rg E w' b r n f left cnt:=by
 obtain ⟨D,m,L,h1,h2⟩:=h;exact ⟨D,m,L,h1.of_walks hk,h2⟩
omit [DecidableEq α] in
theorem Rg.iter_walk {left:α->Bool} (h:Rg E w b r n f left cnt):∃ o:Obj,w.heap[r]?=some o/\o.isWalk=true:=by
 obtain ⟨D,m,L,h1,h2⟩:=h;exact h1.iter_walk
end
inductive Fv
 |fn (g:Nat) (lb:Array Value)
 |loop (l:Nat)
def Fv.val:Fv->Value
 | .fn g lb=> .func (.func g) #[] lb
 | .loop l=> .func (.yield l) #[] #[]
def Fv.At (P:Program) (fv:Fv) (args:Array Value) (W:World) (R:Ending->World->Prop):Prop:=
 match fv with
 | .fn g lb=>(∀ args w,(callFunc g args).run P w= .ok (.enter g args) w)/\Calls P g (args++lb) W R
 | .loop l=>YieldAt Fence.wide 0 P l args W R
theorem Fv.At.mono {fv:Fv} {R':Ending->World->Prop} (h:fv.At P args W R) (hr:∀ e w,R e w->R' e w):fv.At P args W R':=by
 cases fv with
 |fn g lb=>exact ⟨h.1,h.2.mono hr⟩
 |loop l=>
  obtain ⟨fn,tmps,assign,body,h1,h2⟩:=h;exact ⟨fn,tmps,assign,body,h1,h2.mono hr⟩
theorem af4 {body:Code} (h:RoundIn Fence.wide n P l f tmps assign body w R):RoundIn Fence.wide m P l f tmps assign body w R:=
 ⟨trivial,fun c cs _=>h.2 c cs (room_wide _)⟩
theorem bw2 {l':Nat} {body:Code} (h:RoundIn Fence.wide n P l f tmps assign body w R):RoundIn (Fence.wide.inRound l') m P l f tmps assign body w R:=
 af4 (m:=m) h
theorem as8 (h:YieldAt Fence.wide n P l args W R):YieldAt Fence.wide m P l args W R:=by
 obtain ⟨fn,tmps,assign,body,h1,h2⟩:=h;exact ⟨fn,tmps,assign,body,h1,af4 h2⟩
theorem aa7 (h:Calls P f args w R):CallsIn Fence.wide n P f args w R:=callsIn_wide.2 h
theorem ad1 (h:Calls P f args w R):CallsIn (Fence.wide.inRound l) n P f args w R:=callsIn_wide.2 h
def Keep (L:List Nat) (W W':World):Prop:=∀ b,b∈L->W'.heap[b]?=W.heap[b]?
theorem Keep.refl (L:List Nat) (W:World):Keep L W W:=fun _ _=>rfl
theorem Keep.trans {B C:World} (h:Keep L A B) (k:Keep L B C):Keep L A C:=fun b hb=>(k b hb).trans (h b hb)
theorem Keep.of_below (hL:∀ b,b∈L->b<W.heap.size) (h:Below W.heap.size W W'):Keep L W W':=fun b hb=>h.block b (hL b hb)
theorem ct3 (hL:∀ b,b∈L->b<w.heap.size) (W:World) (l:Nat) (o o':Obj) (hl:w.heap.size<=l) (_:W.heap[l]?=some o) (_:o.isCells=false) (_:o.isWalk=false):Keep L W (W.putObj l o'):=
 fun b hb=>World.putObj_heap_other (by have:=hL b hb; omega)
theorem ac7 (B:Nat) (h:Below W.heap.size W W'):KeepsFrom B W W':=⟨h.size,fun k _ _ hk _=>(h.block k (Array.getElem?_eq_some_iff.1 hk).1).trans hk⟩
theorem KeepsFrom.mono (h:KeepsFrom B W W') (hB:B<=B'):KeepsFrom B' W W':=⟨h.size,fun k o hk=>h.same k o G⟩
theorem Blk.grown {t:TypeId} {row:Option Nat} {b:Nat} {C:Array Value} (h:Blk t W b C) (hg:W.grownBy W' row) (hr:∀ r,row=some r->B<=r/\∃ o:Obj,W.heap[r]?=some o/\o.isCells=false):Blk t W' b C:=by
 refine (hg.block b h.lt fun e=>?_).trans h;obtain ⟨_,o,ho,hc⟩:=hr b e.symm;unfold Blk at h;rw [h] at ho
 cases ho
 cases hc
theorem br9 (w:World) (C:Array Value) (t:TypeId) (j:Nat):(w.alloc (.cells C t)).cell? ((Y w.heap.size 0:Addr).add j)=C[j]?:=by
 rw [show ((Y w.heap.size 0:Addr).add j)=⟨w.heap.size,j,none⟩ from by unfold Addr.add; simp; omega];exact ab3 _ _ _ _
def KeepS (L:List Nat) (A B:World):Prop:=Keep L A B/\A.heap.size<=B.heap.size
theorem KeepS.trans {B C:World} (h:KeepS L A B) (k:KeepS L B C):KeepS L A C:=⟨h.1.trans k.1,Nat.le_trans h.2 k.2⟩
theorem af8 (hL:∀ b,b∈L->b<w.heap.size) (W:World) (l:Nat) (o o':Obj) (hl:w.heap.size<=l) (h:W.heap[l]?=some o) (h1:o.isCells=false) (h2:o.isWalk=false):KeepS L W (W.putObj l o'):=
 ⟨ct3 hL W l o o' hl h h1 h2,sn⟩
theorem KeepS.of_below (hL:∀ b,b∈L->b<W.heap.size) (h:Below W.heap.size W W'):KeepS L W W':=⟨.of_below hL h,h.size⟩
theorem OwnFrom.up {β:Type} {I:β->World->Prop} (h:OwnFrom B I) (hB:B<=B'):OwnFrom B' I:=fun s W W' row hs hg hr=>h s W W' row hs hg fun r e=>⟨Nat.le_trans hB (hr r e).1,(hr r e).2⟩
section
variable {P:Program} {k t e:TypeId} {α:Type} {E:Ke P k α} {w w':World} {r:Option Nat} {n:Nat} {f:α->Option Value}
end
section
variable {P:Program} {k t e:TypeId} {α:Type} [DecidableEq α] {E:Ke P k α} {w w':World} {b r n:Nat} {f:α->Option Value}
def cut (f:α->Option Value) (i:α):α->Option Value:=fun z=>if z=i then none else f z
theorem Sees.del {D:DataW Value} (S:Sees E D f) {i:α} (hi:E.ok i):Sees E (D.del (E.lit i)) (cut f i):=by
 intro z hz;by_cases h:z=i
 ·subst h
  rw [cut,if_pos rfl];exact ⟨fun u=>by rw [atKey_del_same]; rfl,by rw [has_del_same]; rfl⟩
 ·rw [cut,if_neg h]
  exact ⟨fun u=>by rw [atKey_del_other (E.lit_ne hz hi h)]; exact (S z hz).1 u,by rw [has_del_other (E.lit_ne hz hi h)]; exact (S z hz).2⟩
theorem Mk.drop (h:Mk E w b n f) (ht:P.underlying t=some (.map k e)) {i:α} (hw:E.ok i) (ty:TypeId):
  ∃ w' n',(Builtin.delete_ #[t,k] ty #[.map (some b),E.enc i]).run P w= .ok (.tuple #[]) w'/\Mk E w' b n' (cut f i)/\n'<=n/\w.grownBy w' (some b)/\w'.heap.size=w.heap.size:=by
 obtain ⟨D,h,hn,S⟩:=h;obtain ⟨w',hrun,h',hg⟩:=h.drop E.law ht (E.made i hw) ty;have hz:=size_del (k:=E.lit i) (h.tidy E.law);obtain ⟨es0,c0,es1,c1,hb0,rfl⟩:=id hg;exact ⟨_,_,hrun,⟨_,aj1 h',rfl,S.del hw⟩,by rw [<- hn,<- hz]; exact Nat.le_add_right _ _,hg.grown,by simp [ChangeMaps.setBlock]⟩
omit [DecidableEq α] in
theorem drop_nil (ht:P.underlying t=some (.map k e)) {i:α} (hw:E.ok i) (ty:TypeId):(Builtin.delete_ #[t,k] ty #[.map none,E.enc i]).run P w= .ok (.tuple #[]) w:=
 Maps.drop_nil E.law ht (E.made i hw) ty
theorem Rg.drop {left:α->Bool} (h:Rg E w b r n f left cnt) (ht:P.underlying t=some (.map k e)) {i:α} (hw:E.ok i) (ty:TypeId):
  ∃ w' n' cnt',(Builtin.delete_ #[t,k] ty #[.map (some b),E.enc i]).run P w= .ok (.tuple #[]) w'/\Rg E w' b r n' (cut f i) (fun z=>left z && !decide (z=i)) cnt'/\cnt'<=cnt/\w.grownBy w' (some b)/\w'.heap.size=w.heap.size:=by
 obtain ⟨D,m,L,h,hn,S,hL⟩:=h;obtain ⟨w',cnt',hrun,h',hc,hg⟩:=h.drop E.law ht (E.made i hw) ty;obtain ⟨es0,c0,es1,c1,hb0,rfl⟩:=id hg;exact ⟨_,_,cnt',hrun,⟨_,m,_,h',rfl,S.del hw,fun z hz=>by simp only [hL z hz,E.sameKey hz hw]⟩,hc,hg.grown,by simp [ChangeMaps.setBlock]⟩
theorem Mk.list (h:Mk E w b n f):∃ xs:List α,xs.Nodup/\(∀ k,k∈xs↔E.ok k/\(f k).isSome=true):=by
 obtain ⟨D,hown,hn,S⟩:=h;obtain ⟨es,hD,hpw,_⟩:=hown.entries E.law;obtain ⟨es',hD',hko⟩:=hown.keysOf;obtain rfl:es=es':=by rw [hD] at hD'; simpa using hD'
 subst hD;have hlit:∀ p∈es,∃ x,E.ok x/\p.1=E.lit x:=fun p hp=>by
  obtain ⟨v,hv⟩:=hko p hp;obtain ⟨x,hx,-,e⟩:=E.inv _ _ hv;exact ⟨x,hx,e⟩
 have:∀ l:List (Lit×DataW Value),(∀ p∈l,∃ x,E.ok x/\p.1=E.lit x)->l.Pairwise (fun p q=>p.1≠q.1)->∃ xs:List α,xs.Nodup/\∀ k,k∈xs↔E.ok k/\∃ p∈l,p.1=E.lit k:=by
  intro l
  induction l with
  |nil=>intro _ _; exact ⟨[],List.nodup_nil,fun k=>by simp⟩
  |cons p l ih=>
   intro h1 h2;obtain ⟨xs,hx,hm⟩:=ih (fun q hq=>h1 q (List.mem_cons_of_mem _ hq)) (List.pairwise_cons.1 h2).2;obtain ⟨x,hxo,ex⟩:=h1 p (List.mem_cons_self ..);refine ⟨x::xs,List.nodup_cons.2 ⟨fun hc=>?_,hx⟩,fun k=>?_⟩
   ·obtain ⟨_,q,hq,e⟩:=(hm x).1 hc
    exact (List.pairwise_cons.1 h2).1 q hq (ex.trans e.symm)
   ·rw [List.mem_cons,hm k]
    constructor
    ·rintro (rfl|⟨ho,q,hq,e⟩)
     ·exact ⟨hxo,p,List.mem_cons_self ..,ex⟩
     ·exact ⟨ho,q,List.mem_cons_of_mem _ hq,e⟩
    ·rintro ⟨ho,q,hq,e⟩
     rcases List.mem_cons.1 hq with rfl|hq
     ·exact .inl (E.inj k x ho hxo (e.symm.trans ex))
     ·exact .inr ⟨ho,q,hq,e⟩
 obtain ⟨xs,hx,hm⟩:=this es hlit hpw;refine ⟨xs,hx,fun k=>?_⟩;rw [hm k];constructor
 ·rintro ⟨ho,p,hp,e⟩
  refine ⟨ho,?_⟩;rw [<- (S k ho).2,has_eq,List.any_eq_true];exact ⟨p,hp,by rw [e,E.sameKey ho ho]; simp⟩
 ·rintro ⟨ho,h2⟩
  refine ⟨ho,?_⟩;rw [<- (S k ho).2,has_eq,List.any_eq_true] at h2;obtain ⟨p,hp,hs⟩:=h2;obtain ⟨y,hy,e⟩:=hlit p hp;rw [e,E.sameKey hy ho,decide_eq_true_eq] at hs;exact ⟨p,hp,by rw [e,hs]⟩
end
end
section
open Go.RowKit Go.Maps Go.WideMaps
structure Rk where
 a:Nat
 n:Int
 fr:Int
deriving DecidableEq
def Rk.ok (p:Rk):Prop:=p.a<4294967296/\(-9223372036854775808<=p.n/\p.n<=9223372036854775807)/\(-9223372036854775808<=p.fr/\p.fr<=9223372036854775807)
def Rk.enc (p:Rk):Value:= .agg #[U p.a,I p.n,I p.fr]
def Rk.lit (p:Rk):Lit:= .string (keyBytes [.int .u32 p.a,.int .i64 p.n,.int .i64 p.fr])
theorem aq8:prog.cellsOf 196=3:=kr
theorem dd0:prog.keyType 196=true:=kr
theorem bg7 (d:Nat) (cs:List Value) (ls:List Lit):prog.keyLits (d+3) 196 cs=some ls↔∃ p:Rk,p.ok/\cs=[.int .u32 p.a,.int .i64 p.n,.int .i64 p.fr]/\ls=[.int .u32 p.a,.int .i64 p.n,.int .i64 p.fr]:=by
 constructor
 ·intro h
  unfold Program.keyLits at h;rw [Tryz.underlying196] at h;simp only [aq8] at h;split at h
  case isFalse=>cases h
  rename_i hc;obtain ⟨c0,c1,c2,rfl⟩:=list3 hc.1;simp [ao5,af9,Option.bind_eq_some_iff] at h;obtain ⟨l0,h0,_,⟨l1,h1,rfl⟩,rfl⟩:=h;obtain ⟨p,hp,e0,rfl⟩:=(ak7 d _ l0).1 h0;obtain ⟨z1,rfl,w1,rfl⟩:=(ag1 Tryz.underlying3 (d+1) c2 l1).1 h1;simp only [List.cons.injEq,and_true] at e0;obtain ⟨rfl,rfl⟩:=e0;exact ⟨⟨p.a,p.n,z1⟩,⟨hp.1,hp.2,cx2 w1⟩,rfl,rfl⟩
 ·rintro ⟨p,⟨h1,h2,h3,h4⟩,rfl,rfl⟩
  unfold Program.keyLits;rw [Tryz.underlying196];simp [aq8,ao5,af9,(ak7 d _ _).2 ⟨⟨p.a,p.n⟩,⟨h1,h2⟩,rfl,rfl⟩,(ag1 Tryz.underlying3 (d+1) _ _).2 ⟨_,rfl,wf_i64 h3 h4,rfl⟩]
theorem bs5 (v:Value) (l:Lit):keyOf prog 196 v=some l↔∃ p:Rk,p.ok/\v=p.enc/\l=p.lit:=by
 obtain ⟨d,hd⟩:=ap0;unfold keyOf;rw [Tryz.underlying196,dd0,hd];simp only [Bool.true_and];constructor
 ·intro h
  split at h
  case isFalse=>cases h
  rename_i hf
  cases e:prog.keyLits (d+3) 196 v.cells.toList with
  |none=>rw [e] at h; cases h
  |some ls=>
   rw [e] at h;obtain ⟨p,hp,hc,rfl⟩:=(bg7 d _ _).1 e;simp only [Option.map_some,Option.some.injEq] at h
   cases v with
   |agg cs=>
    refine ⟨p,hp,?_,h.symm⟩;have e2:cs.toList=[.int .u32 p.a,.int .i64 p.n,.int .i64 p.fr]:=by simpa [Value.cells] using hc
    unfold Rk.enc;have e3:cs=#[.int .u32 p.a,.int .i64 p.n,.int .i64 p.fr]:=Array.toList_inj.1 e2;rw [e3]
   |_=>simp [Value.formed,Tryz.underlying196] at hf
 ·rintro ⟨p,hp,rfl,rfl⟩
  have hf:(Rk.enc p).formed prog 196=true:=by simp [Value.formed,Rk.enc,Tryz.underlying196,aq8]
  have hl:prog.keyLits (d+3) 196 p.enc.cells.toList=some [.int .u32 p.a,.int .i64 p.n,.int .i64 p.fr]:=(bg7 d _ _).2 ⟨p,hp,rfl,rfl⟩;rw [hf,hl];rfl
theorem ci5:Keyed prog 196:=Keyed.of_law (deep_law_laid ap2 (m:=5) G (of_decide_eq_true kr) kr (by rw [Tryz.underlying196]))
def rkE:Ke prog 196 Rk where
 enc:=Rk.enc
 lit:=Rk.lit
 ok:=Rk.ok
 law:=ci5
 made x h:=(bs5 _ _).2 ⟨x,h,rfl,rfl⟩
 inv v l h:=(bs5 v l).1 h
 inj x y hx hy h:=by
  have e:=ci5.inj ((bs5 _ _).2 ⟨x,hx,rfl,rfl⟩) (h ▸ (bs5 _ _).2 ⟨y,hy,rfl,rfl⟩)
  cases x
  cases y;simp [Rk.enc] at e;obtain ⟨e1,rfl,rfl⟩:=e;rw [Int.ofNat_inj.1 e1]
end
section
open Go.RowKit Go.Maps
structure Rt where
 fr:Int
 id:Nat
 seq:Nat
 met:Nat
 exp:Int
deriving DecidableEq
def Rt.zero:Rt:=⟨0,0,0,0,0⟩
instance:Inhabited Rt:=⟨Rt.zero⟩
structure Rt.Fits (r:Rt):Prop where
 f:-9223372036854775808<=r.fr/\r.fr<=9223372036854775807
 id:r.id<4294967296
 seq:r.seq<4294967296
 met:r.met<65536
 e:-9223372036854775808<=r.exp/\r.exp<=9223372036854775807
def rV (r:Rt):Value:= .agg #[I r.fr,U r.id,U r.seq,V r.met,I r.exp]
abbrev Ways:=Rk->Option Rt
def vals (f:Ways):Rk->Option Value:=fun k=>(f k).map rV
class Ten (X:Option Nat->Array Value):Prop where
 at_:∀ o,(X o)[10]?=some (.map o)
 set:∀ o o',(X o).setIfInBounds 10 (.map o')=X o'
theorem Blk.ten {X:Option Nat->Array Value} [Ten X] {T:TypeId} {w:World} {t:Nat} {o:Option Nat} (h:Blk T w t (X o)):w.cell? (Y t 10)=some (.map o):=(h.at_ 10).trans (Ten.at_ o)
structure Tb (X:Option Nat->Array Value) (w:World) (t:Nat) (o:Option Nat) (n:Nat) (f:Ways):Prop where
 head:Blk 116 w t (X o)
 map:Mo rkE w o n (vals f)
variable {X:Option Nat->Array Value}
theorem Tb.ne {w:World} {t n:Nat} {o:Option Nat} {f:Ways} (h:Tb X w t o n f) {b:Nat} (hb:o=some b):t≠b:=fun e=>by
 subst e;obtain ⟨es,cl,h2⟩:=h.map.isMap hb;have:=h.head;unfold Blk at this;rw [h2] at this
 cases this
theorem Tb.held {w w':World} {t n:Nat} {o:Option Nat} {f:Ways} (h:Tb X w t o n f) (hb:Below w.heap.size w w'):Tb X w' t o n f:=
 ⟨h.head.held hb,h.map.of_block fun b e=>hb.block b (h.map.lt e)⟩
def putR (f:Ways) (k:Rk) (r:Rt):Ways:=fun z=>if z=k then some r else f z
def cutR (f:Ways) (k:Rk):Ways:=fun z=>if z=k then none else f z
theorem bp8 (f:Ways) (k:Rk) (r:Rt):vals (putR f k r)=upd (vals f) k (rV r):=by
 funext z;unfold vals putR upd;split<;>rfl
theorem bp9 (f:Ways) (k:Rk):vals (cutR f k)=cut (vals f) k:=by
 funext z;unfold vals cutR cut;split<;>rfl
theorem af3 (f:Ways) (k:Rk):(vals f k).isSome=(f k).isSome:=by unfold vals; cases f k<;>rfl
theorem bu3 (w:World):(zeroValue 130).run prog w= .ok (rV Rt.zero) w:=kr
theorem rt_new (w:World):Q 108 #[] w fun e w'=>e= .returned (K w.heap.size)/\w'=w.alloc (.cells #[.map none] 114):=by
 go_enter Tryz.func108,Tryz.ntmps108;go_wp2;go_ret;exact ⟨rfl,rfl⟩
theorem ce4 [Ten X] {w:World} {t n:Nat} {o:Option Nat} {f:Ways} (h:Tb X w t o n f) (a:Nat) (len fr:Int) (hk:Rk.ok ⟨a,len,fr⟩) {r:Rt} {ok:Bool} (hr:(f ⟨a,len,fr⟩).getD Rt.zero=r) (ho:(f ⟨a,len,fr⟩).isSome=ok):
  Q 76 #[Qt t 10,.agg #[U a,I len],I fr] w (Rr0 w (.tuple #[rV r,O ok])):=by
 obtain ⟨fr',id,seq,met,exp⟩:=r;have hlook:∀ w',Below w.heap.size w w'->(Instr.lookup 112 (.map o) (.agg #[U a,I len,I fr]) true).run prog w'= .ok (.tuple #[.agg #[I fr',U id,U seq,Vv met,I exp],O ok]) w':=fun w' hb=>by
  have h2:=((h.held hb).map).look_ok (t:=112) (e:=130) kr bu3 (i:=⟨a,len,fr⟩) hk;rw [af3,ho,show (vals f ⟨a,len,fr⟩).getD (rV Rt.zero)=rV ((f ⟨a,len,fr⟩).getD Rt.zero) by unfold vals; cases f ⟨a,len,fr⟩<;>rfl,hr] at h2;exact h2
 have c0:=h.head.ten;have tl:=h.head.lt;clear h hr ho;go_enter Tryz.func76,Tryz.ntmps76;go_wp2_with fail;have KB:=(Blk.new w 28 #[U a,I len]).more (.cells #[I 0,U 0,U 0,Vv 0,I 0] 130);have RB:=Blk.new (w.alloc (.cells #[U a,I len] 28)) 130 #[I 0,U 0,U 0,Vv 0,I 0];have hb2:=next (aa0 w (.cells #[U a,I len] 28)) (aa0 _ (.cells #[I 0,U 0,U 0,Vv 0,I 0] 130));have hz:((w.alloc (.cells #[U a,I len] 28)).alloc (.cells #[I 0,U 0,U 0,Vv 0,I 0] 130)).heap.size=w.heap.size+2:=by rw [aa1,aa1]
 rw [aa1] at RB;generalize (w.alloc (.cells #[U a,I len] 28)).alloc (.cells #[I 0,U 0,U 0,Vv 0,I 0] 130)=W at*;have fc:=held hb2 c0;have k0:=KB.at_ 0;have k1:=KB.at_ 1;have dW:t<W.heap.size:=G
 have kW:w.heap.size<W.heap.size:=G
 have fc3:=held (aa0 W (.cells #[I 0,U 0,U 0,Vv 0,I 0] 130)) fc;have k03:=held (aa0 W (.cells #[I 0,U 0,U 0,Vv 0,I 0] 130)) k0;have k13:=held (aa0 W (.cells #[I 0,U 0,U 0,Vv 0,I 0] 130)) k1;have q1:=hlook _ hb2.drew;have q2:=hlook _ (next hb2 (aa0 W (.cells #[I 0,U 0,U 0,Vv 0,I 0] 130))).drew;have HR:=Zq RB;clear hlook c0 RB;go_region;all_goals
  have hb4:=next hb2 (aa0 W (.cells #[I fr',U id,U seq,Vv met,I exp] 130)).drew;have R2:=(HR.out.more (.cells #[I fr',U id,U seq,Vv met,I exp] 130)).drew;have N2:=(Blk.new W 130 #[I fr',U id,U seq,Vv met,I exp]).drew;rw [hz] at N2;have hsV:w.heap.size+1<(W.alloc (.cells #[I fr',U id,U seq,Vv met,I exp] 130)).drew.heap.size:=R2.lt;clear q1 q2 fc3 k03 k13 fc k0 k1 KB hb2;generalize (W.alloc (.cells #[I fr',U id,U seq,Vv met,I exp] 130)).drew=V at*;have r0:=R2.at_ 0;have r1:=R2.at_ 1;have r2:=R2.at_ 2;have r3:=R2.at_ 3;have r4:=R2.at_ 4;have g0:=R2.free 0;have g1:=R2.free 1;have g2:=R2.free 2;have g3:=R2.free 3;have g4:=R2.free 4;have n0:=N2.at_ 0;have n1:=N2.at_ 1;have n2:=N2.at_ 2;have n3:=N2.at_ 3;have n4:=N2.at_ 4;go_wp2_with fail;have R4:=((((R2.store 0 (I fr')).store 1 (U id)).store 2 (U seq)).store 3 (Vv met)).store 4 (I exp);have hb5:Below w.heap.size w (((((V.setCell (Y (w.heap.size+1) 0) (I fr')).setCell (Y (w.heap.size+1) 1) (U id)).setCell (Y (w.heap.size+1) 2) (U seq)).setCell (Y (w.heap.size+1) 3) (Vv met)).setCell (Y (w.heap.size+1) 4) (I exp)):=
   ((((hb4.setCell sn _).setCell sn _).setCell sn _).setCell sn _).setCell sn _
  have q0:=R4.at_ 0;have q1:=R4.at_ 1;have q2:=R4.at_ 2;have q3:=R4.at_ 3;have q4:=R4.at_ 4;refine bodyPost_ret (v:= .tuple #[rV ⟨fr',id,seq,met,exp⟩,O ok]) ?_ rfl ⟨rfl,hb5⟩;generalize ((((V.setCell (Y (w.heap.size+1) 0) (I fr')).setCell (Y (w.heap.size+1) 1) (U id)).setCell (Y (w.heap.size+1) 2) (U seq)).setCell (Y (w.heap.size+1) 3) (Vv met)).setCell (Y (w.heap.size+1) 4) (I exp)=Z at*;clear hsV R2 N2 R4 r0 r1 r2 r3 r4 g0 g1 g2 g3 g4 n0 n1 n2 n3 n4 hb4;simp [results,Tryz.results76,go_sem,q0,q1,q2,q3,q4,rV]
theorem rt_set [Ten X] {w:World} {t n:Nat} {o:Option Nat} {f:Ways} (h:Tb X w t o n f) (hn:n<1000000000) (a:Nat) (len:Int) (r:Rt) (hk:Rk.ok ⟨a,len,r.fr⟩):
  Q 75 #[Qt t 10,.agg #[U a,I len],rV r] w fun e w'=>e= .returned (.tuple #[])/\∃ b n',Tb X w' t (some b) n' (putR f ⟨a,len,r.fr⟩ r)/\n'<=n+1/\Turn (t::o.toList) w w'/\(o=some b\/w.heap.size<=b):=by
 obtain ⟨fr,id,seq,met,exp⟩:=r;have hlt:=h.head.lt;have c0:=h.head.ten;have hn2:n<maxLen:=by unfold maxLen; omega
 have q:∀ (w:World) (r:Option Nat),(binOp .eql 112 (.map r) (.map none)).run prog w= .ok (O r.isNone) w:=fun w r=>run_eql_map_nil w _ _ _ r Tryz.underlying112
 have KV:=Zq h;clear h;show Calls _ _ #[_,_,.agg #[I fr,U id,U seq,V met,I exp]] _ _;have hb2:=next (aa0 w (.cells #[U a,I len] 28)) (aa0 _ (.cells #[I fr,U id,U seq,V met,I exp] 130));have PB:=(Blk.new w 28 #[U a,I len]).more (.cells #[I fr,U id,U seq,V met,I exp] 130);have RB:=Blk.new (w.alloc (.cells #[U a,I len] 28)) 130 #[I fr,U id,U seq,V met,I exp];have hz:((w.alloc (.cells #[U a,I len] 28)).alloc (.cells #[I fr,U id,U seq,V met,I exp] 130)).heap.size=w.heap.size+2:=by rw [aa1,aa1]
 rw [aa1] at RB;have hmm:= @run_makeMap prog;go_enter Tryz.func75,Tryz.ntmps75
 cases o with
 |some b=>
  have c2:=held hb2 c0;have hdb:=KV.out.ne (b:=b) rfl;go_wp2_with fail;have TV:=KV.out.held hb2;have HTV:Turn [t,b] w _:=Turn.of_below _ hb2;generalize ((w.alloc (.cells #[U a,I len] 28)).alloc (.cells #[I fr,U id,U seq,V met,I exp] 130))=W at*;have HM:Mk rkE W b n (vals f):=TV.map;have HB:=TV.head;have PW:=PB;have RW:=RB;clear TV PB RB KV c0 c2 q hmm;obtain ⟨w4,hu,hM4,hg4,-⟩:=(Mk.of_block (w':=W.drew) HM rfl).store (t:=112) (e:=130) kr hn2 (i:=⟨a,len,fr⟩) hk (rV ⟨fr,id,seq,met,exp⟩);have hu:(Instr.mapUpdate 112 (.map (some b)) (.agg #[U a,I len,I fr]) (.agg #[I fr,U id,U seq,V met,I exp])).run prog W.drew= .ok () w4:=hu;have k0:=PW.at_ 0;have k1:=PW.at_ 1;have v0:=RW.at_ 0;have v1:=RW.at_ 1;have v2:=RW.at_ 2;have v3:=RW.at_ 3;have v4:=RW.at_ 4;have t0:W.cell? (Y t 10)=some (.map (some b)):=HB.ten;have HB4:=HB.drew.turn (Turn.of_grown hg4 (List.mem_singleton.2 rfl)) (by simpa using hdb);have Z:=H3 HB4 hM4 hg4;clear HB4 hM4 hg4 HM HB PW RW;go_region;all_goals
   refine bodyPost_end (v:= .tuple #[]) (results_none rfl _ _ _) rfl ?_;have hM:=Z.out.2.1;rw [<- bp8] at hM;exact ⟨rfl,b,_,⟨Z.out.1,hM⟩,by split<;>omega,HTV.drew.trans (Turn.of_grown Z.out.2.2 sn),.inl rfl⟩
 |none=>
  have f3:=(((KV.out.head.more (.cells #[U a,I len] 28)).more (.cells #[I fr,U id,U seq,V met,I exp] 130)).more (.map #[] 0)).free 10;have c2:=held hb2 c0;have c3:=held (next hb2 (aa0 _ (.map #[] 0))) c0;go_wp2_with fail;have hf0:n=0/\∀ x,vals f x=none:=KV.out.map;obtain ⟨b,hbz⟩:=eX (w.heap.size+2);have HM0:Mk rkE (((w.alloc (.cells #[U a,I len] 28)).alloc (.cells #[I fr,U id,U seq,V met,I exp] 130)).alloc (.map #[] 0)) b 0 (fun _=>none):=by
   have h0:=Mk.new rkE ((w.alloc (.cells #[U a,I len] 28)).alloc (.cells #[I fr,U id,U seq,V met,I exp] 130));rw [hz,<- hbz] at h0;exact h0
  have hdb:t≠b:=G
  have HB0:=((KV.out.head.held hb2).more (.map #[] 0)).store 10 (.map (some b));have HM1:=HM0.of_block (w':=(((w.alloc (.cells #[U a,I len] 28)).alloc (.cells #[I fr,U id,U seq,V met,I exp] 130)).alloc (.map #[] 0)).setCell (Y t 10) (.map (some b))) (Below.heap_setCell _ _ _ _ (Ne.symm hdb));have PW:=(PB.more (.map #[] 0)).away (p:=⟨t,10,none⟩) (by show w.heap.size≠t; omega) (.map (some b));have RW:=(RB.more (.map #[] 0)).away (p:=⟨t,10,none⟩) (by show w.heap.size+1≠t; omega) (.map (some b));have HTV:Turn [t] w ((((w.alloc (.cells #[U a,I len] 28)).alloc (.cells #[I fr,U id,U seq,V met,I exp] 130)).alloc (.map #[] 0)).setCell (Y t 10) (.map (some b))):=((Turn.of_below [t] hb2).alloc _).trans (Turn.setCell _ (p:=⟨t,10,none⟩) sn _);have hbe:(w.heap.size+1+1)=b:=G
  have hvf:vals f=fun _=>none:=funext hf0.2
  have F0:=H3 hf0.1 hvf hbz;clear HM0 PB RB KV c0 c2 c3 f3 q hmm hf0 hvf;simp only [hbe];clear hbe hz;generalize ((((w.alloc (.cells #[U a,I len] 28)).alloc (.cells #[I fr,U id,U seq,V met,I exp] 130)).alloc (.map #[] 0)).setCell (Y t 10) (.map (some b)))=W at*;have HM:=HM1;have HB:Blk 116 W t (X (some b)):=by rw [<- Ten.set (X:=X) none]; exact HB0
  clear HM1 HB0 hbz;obtain ⟨w4,hu,hM4,hg4,-⟩:=(Mk.of_block (w':=W.drew) HM rfl).store (t:=112) (e:=130) kr (show 0<maxLen by unfold maxLen; omega) (i:=⟨a,len,fr⟩) hk (rV ⟨fr,id,seq,met,exp⟩);have hu:(Instr.mapUpdate 112 (.map (some b)) (.agg #[U a,I len,I fr]) (.agg #[I fr,U id,U seq,V met,I exp])).run prog W.drew= .ok () w4:=hu;have k0:=PW.at_ 0;have k1:=PW.at_ 1;have v0:=RW.at_ 0;have v1:=RW.at_ 1;have v2:=RW.at_ 2;have v3:=RW.at_ 3;have v4:=RW.at_ 4;have t0:W.cell? (Y t 10)=some (.map (some b)):=HB.ten;have HB4:=HB.drew.turn (Turn.of_grown hg4 (List.mem_singleton.2 rfl)) (by simpa using hdb);have Z:=H3 HB4 hM4 hg4;clear HB4 hM4 hg4 HM HB PW RW;go_region;all_goals
   refine bodyPost_end (v:= .tuple #[]) (results_none rfl _ _ _) rfl ?_;have hM:=Z.out.2.1;rw [<- F0.out.2.1,<- bp8] at hM;exact ⟨rfl,b,_,⟨Z.out.1,hM⟩,by split<;>omega,HTV.drew.fresh (Turn.of_grown (L:=[b]) Z.out.2.2 sn) (by have:=F0.out.2.2; omega),.inr (by have:=F0.out.2.2; omega)⟩
end
end Go.Proofs.YtafkfnodcemefaaGreat
namespace Go.Proofs.YtafkfnodcemefaaGreat.T.Tm
open _root_.Go.Proofs.Tryz (prog)
section
structure Up where
 a:Nat
 len:Int
 id:Nat
 seq:Nat
 met:Nat
deriving DecidableEq
structure Up.Fits (u:Up):Prop where
 a:u.a<4294967296
 n1:-9223372036854775808<=u.len
 n2:u.len<=9223372036854775807
 id:u.id<4294967296
 seq:u.seq<4294967296
 met:u.met<65536
def right (u:Up):Bool:=Am.right u.a u.len && decide (u.seq<=1073741824) && (if u.met=65535 then u.id==0 && u.seq==0 else u.id !=0)
def four (n:Nat):List Nat:=[n / 16777216 % 256,n / 65536 % 256,n / 256 % 256,n % 256]
def two (n:Nat):List Nat:=[n / 256 % 256,n % 256]
def nb (n:Nat):Nat:=(n+7) / 8
def body (u:Up):List Nat:=u.len.toNat::(four u.seq++two u.met++(four u.a).take (nb u.len.toNat))
def parts (u:Up) (id:Nat):List Nat:=(if u.id=id then [] else 2::4::four u.id)++3::(7+nb u.len.toNat)::body u
def page (b:List Nat):List Nat:=87::1::(two b.length++b)
def pages (cur:List Nat) (id:Nat):List Up->List (List Nat)
 |[]=>if cur=[] then [] else [cur]
 |u::r=>
  if right u=false then pages cur id r
  else if 1024<cur.length+(parts u id).length+4 then cur::pages (parts u 0) u.id r
  else pages (cur++parts u id) u.id r
def encode (l:List Up):List (List Nat):=(pages [] 0 l).map page
def val (b:List Nat):Nat:=b.foldl (fun s c=>s*256+c) 0
def told (x:List Nat) (id:Nat):Option Up:=
 if x.length<7 then none
 else if x.length≠7+nb (x.getD 0 0) then none
 else
  let u:Up:=⟨val ((x.drop 7++[0,0,0,0]).take 4),x.getD 0 0,if val ((x.drop 5).take 2)=65535 then 0 else id,val ((x.drop 1).take 4),val ((x.drop 5).take 2)⟩
  if right u then some u else none
def walk (id:Nat) (b:List Nat):Option (List Up):=
 match b with
 |[]=>some []
 |k::r=>
  if k=0 then walk id r
  else match r with
   |[]=>none
   |n::r=>if r.length<n then none else
    let id':=if k=2/\n=4 then val (r.take n) else id
    (walk id' (r.drop n)).map fun l=>(if k=3 then (told (r.take n) id').toList else [])++l
termination_by b.length
decreasing_by all_goals simp_all; try omega
def headed (b:List Nat):Bool:=decide (4<=b.length/\b.length<=1024/\b.getD 0 0=87/\b.getD 1 0=1/\b.getD 2 0*256+b.getD 3 0=b.length - 4)
def decode (b:List Nat):Option (List Up):=if headed b then walk 0 (b.drop 4) else none
theorem right_len {u:Up} (h:right u=true):0<=u.len/\u.len<=32:=by
 unfold right Am.right at h;simp only [Bool.and_eq_true,decide_eq_true_eq] at h;exact h.1.1.1
theorem cn6 {u:Up} (h:right u=true):Am.right u.a u.len=true:=by
 unfold right at h;simp only [Bool.and_eq_true] at h;exact h.1.1
theorem cn5 {u:Up} (h:right u=true):(if u.met=65535 then 0 else u.id)=u.id:=by
 unfold right at h;simp only [Bool.and_eq_true] at h;have h2:=h.2;split at h2
 ·simp only [Bool.and_eq_true,beq_iff_eq] at h2
  rw [if_pos (by assumption),h2.1]
 ·rw [if_neg (by assumption)]
theorem ah9 (n:Nat):(four n).length=4:=rfl
theorem ax6 (n:Nat):(two n).length=2:=rfl
theorem am7 (n:Nat):∀ c∈four n,c<256:=by
 intro c hc;simp only [four,List.mem_cons,List.not_mem_nil,or_false] at hc;omega
theorem bq1 (n:Nat):∀ c∈two n,c<256:=by
 intro c hc;simp only [two,List.mem_cons,List.not_mem_nil,or_false] at hc;omega
theorem bx7 {n:Nat} (h:n<=32):nb n<=4:=by unfold nb; omega
theorem ac1 {u:Up} (h:right u=true):(body u).length=7+nb u.len.toNat:=by
 have:=right_len h;have:=bx7 (n:=u.len.toNat) G;simp only [body,List.length_cons,List.length_append,ah9,ax6,List.length_take];omega
theorem an0 {u:Up} (h:right u=true):∀ c∈body u,c<256:=by
 intro c hc;have:=right_len h;simp only [body,List.mem_cons,List.mem_append] at hc;rcases hc with rfl|(hc|hc)|hc
 ·omega
 ·exact am7 _ c hc
 ·exact bq1 _ c hc
 ·exact am7 _ c (List.mem_of_mem_take hc)
theorem as2 {u:Up} (h:right u=true) (id:Nat):∀ c∈parts u id,c<256:=by
 intro c hc;have:=right_len h;have:=bx7 (n:=u.len.toNat) G;simp only [parts,List.mem_append,List.mem_cons] at hc;rcases hc with hc|rfl|rfl|hc
 ·split at hc
  ·simp at hc
  ·simp only [List.mem_cons] at hc
   rcases hc with rfl|rfl|hc
   ·omega
   ·omega
   ·exact am7 _ c hc
 ·omega
 ·omega
 ·exact an0 h c hc
theorem bd9 {u:Up} (h:right u=true) (id:Nat):(parts u id).length<=19:=by
 have:=right_len h;have:=bx7 (n:=u.len.toNat) G;have:=ac1 h;unfold parts;split<;>simp [ah9]<;>omega
theorem cq7 (u:Up) (id:Nat):parts u id≠[]:=by unfold parts; split<;>simp
theorem ah4 (n:Nat) (h:n<4294967296):val (four n)=n:=by simp only [val,four,List.foldl]; omega
theorem bj5 (n:Nat) (h:n<65536):val (two n)=n:=by simp only [val,two,List.foldl]; omega
theorem co2 {a n:Nat} (ha:a<4294967296) (hn:n<=32) (h:a % 2 ^ (32 - n)=0):val (((four a).take (nb n)++[0,0,0,0]).take 4)=a:=by
 have e:(four a).take (nb n)++(four a).drop (nb n)=four a:=List.take_append_drop _ _;have hd:((four a).take (nb n)++[0,0,0,0]).take 4=four a:=by
  have hk:nb n=0\/nb n=1\/nb n=2\/nb n=3\/nb n=4:=by have:=bx7 hn; omega
  have hdv:∀ k,n<=k->k<=32->2 ^ (32 - k) ∣ a:=fun k h1 h2=>Nat.dvd_trans (Nat.pow_dvd_pow 2 G) (Nat.dvd_of_mod_eq_zero h)
  rcases hk with hk|hk|hk|hk|hk
  ·have:=hdv 0 (by unfold nb at hk; omega) G
   obtain ⟨q,hq⟩:=this;rw [hk]; simp [four]; omega
  ·have:=hdv 8 (by unfold nb at hk; omega) G
   obtain ⟨q,hq⟩:=this;rw [hk]; simp [four]; omega
  ·have:=hdv 16 (by unfold nb at hk; omega) G
   obtain ⟨q,hq⟩:=this;rw [hk]; simp [four]; omega
  ·have:=hdv 24 (by unfold nb at hk; omega) G
   obtain ⟨q,hq⟩:=this;rw [hk]; simp [four]; omega
  ·rw [hk]; simp [four]
 rw [hd,ah4 a ha]
theorem ce0 {u:Up} (h:right u=true) (hf:u.Fits):told (body u) u.id=some u:=by
 have hl:=right_len h;have hb:=ac1 h;have hid:=cn5 h;have ha:=cn6 h;have hseq:=ah4 u.seq hf.seq;have hmet:=bj5 u.met hf.met;obtain ⟨n,hn⟩:=Int.eq_ofNat_of_zero_le hl.1;have hn32:n<=32:=G
 have h0:(body u).getD 0 0=u.len.toNat:=by simp [body]
 have e1:((body u).drop 1).take 4=four u.seq:=rfl;have e2:((body u).drop 5).take 2=two u.met:=rfl;have e3:(body u).drop 7=(four u.a).take (nb u.len.toNat):=rfl;unfold told;rw [if_neg G,h0,if_neg G,e1,e2,e3,hseq,hmet,hid];have hm:u.a % 2 ^ (32 - n)=0:=by
  rw [hn] at ha;rw [Am.right_in hn32] at ha;exact of_decide_eq_true ha
 have e4:u.len.toNat=n:=G
 rw [e4,co2 hf.a hn32 hm];have e5:(⟨u.a,(n:Int),u.id,u.seq,u.met⟩:Up)=u:=by
  cases u; simp_all
 simp only [e5,h,if_true]
theorem walk_nil (id:Nat):walk id []=some []:=by unfold walk; rfl
theorem cb6 (id:Nat) (r:List Nat):walk id (0::r)=walk id r:=by rw [walk.eq_def]; simp
theorem at0 (id k n:Nat) (x r:List Nat) (hk:k≠0) (hn:x.length=n):
  walk id (k::n::(x++r))=(walk (if k=2/\n=4 then val x else id) r).map fun l=>(if k=3 then (told x (if k=2/\n=4 then val x else id)).toList else [])++l:=by
 subst hn;rw [walk.eq_def];simp only [if_neg hk];rw [if_neg sn];simp only [List.take_left,List.drop_left]
theorem walk_parts {u:Up} (h:right u=true) (hf:u.Fits) (id:Nat) (r:List Nat):walk id (parts u id++r)=(walk u.id r).map (u::·):=by
 have hb:=ac1 h;have key:walk u.id ((3::(7+nb u.len.toNat)::body u)++r)=(walk u.id r).map (u::·):=by
  rw [List.cons_append,List.cons_append,at0 u.id 3 _ (body u) r G hb];simp [ce0 h hf]
 unfold parts;split
 ·rename_i e
  rw [List.nil_append,<- e];exact key
 ·rw [List.append_assoc,List.cons_append,List.cons_append,at0 id 2 4 (four u.id) _ G rfl]
  have e2:(if (2:Nat)=2/\(4:Nat)=4 then val (four u.id) else id)=u.id:=by rw [if_pos ⟨rfl,rfl⟩,ah4 u.id hf.id]
  rw [e2,key,if_neg (show ¬ (2:Nat)=3 by decide)]
  cases walk u.id r<;>rfl
end
end Go.Proofs.YtafkfnodcemefaaGreat.T.Tm
