import Derived.Test.YtafkfnodcemefaaGreatB15
set_option maxHeartbeats 8000000
set_option maxRecDepth 100000
namespace Go.Proofs.YtafkfnodcemefaaGreat
open _root_.Go.Proofs.Tryz (prog)
section
open Go.RowKit Go.Maps Go.Sort
attribute [local go_sem] Oper.semAt_some
variable {W w:World}{B1 B2 n:Nat}{v:Value}{o:Option Nat}{f:Pk->Option (Bool)}{xs:List Pk}
def fitP (y:Bool):Prop:=
 y=y
structure ElP (f:Pk->Option (Bool)) where
 key:Pk
 val:Bool
 ok:key.ok
 fit:fitP val
 has:f key=some val
def EsP (f:Pk->Option (Bool)) (xs:List Pk) (es:List (ElP f)):Prop:=es.map (·.key)=xs
theorem bt7 {f:Pk->Option (Bool)} (hf:∀ x y,f x=some y->fitP y):∀ xs:List Pk,(∀ x∈xs,x.ok/\(f x).isSome=true)->∃ es,EsP f xs es
 |[],_=>⟨[],rfl⟩
 |x::r,h=>by
  obtain ⟨es,h1⟩:=bt7 hf r fun y hy=>h y (by simp [hy])
  obtain ⟨h3,h4⟩:=h x sn;obtain ⟨y,hy⟩:=Option.isSome_iff_exists.1 h4;exact ⟨⟨x,y,h3,hf x y hy,hy⟩::es,by show x::es.map (·.key)=_; rw [h1]⟩
def arP {f:Pk->Option (Bool)} (x:ElP f):Array Value:=#[.agg (clP x.key).toArray,ownV x.val]
def goP {f:Pk->Option (Bool)} (L:List Nat) (J Jx:List (ElP f)->World->Prop) (pre:List (ElP f)) (x:ElP f) (W1:World) (e:Ending) (W':World):Prop:=
 ∃ b:Bool,e= .returned (O b)/\(if b then J (pre++[x]) W'/\Keep L W1 W'/\W1.heap.size<=W'.heap.size else Jx (pre++[x]) W')
theorem zeroP (w:World):(zeroValue 203).run prog w= .ok (.agg #[O false]) w:=X
theorem inOrd1P {es:List (ElP f)} (h:ItP W B1 B2 v o n f xs) (hE:EsP f xs es) (fv:Fv) (J Jx:List (ElP f)->World->Prop) (hJ:AbidesFrom W.heap.size J)
  (hY:∀ pre x rest W1,es=pre++x::rest->J pre W1->fv.At prog (arP x) W1 (goP (itL B1 B2 v o) J Jx pre x W1)) (h0:J [] W) (m:Nat):
  CallsIn Fence.wide m prog 156 #[fv.val,K B1,K B2] W fun e W'=>(∃ v,e= .returned v)/\(J es W'\/∃ pre,pre<+:es/\Jx pre W'):=by
 have c1:=h.b1.at_ 0;have hlen:es.length=xs.length:=by rw [<- show es.map (·.key)=xs from hE]; simp
 have hl5:=h.len;rcases h.row with ⟨rfl,rfl⟩|⟨g,cap,rfl,hr1,hr2,hr3⟩
 ·have he:es=[]:=List.eq_nil_of_length_eq_zero hlen
  subst he;clear h hY hE
  cases fv with
  |fn gg lb=>
   refine callsIn_of_wp Tryz.func156 rfl trivial ?_ rfl;simp only [Fv.val,Tryz.ntmps156,List.size_toArray,List.length_cons,List.length_nil,Nat.reduceAdd,Nat.reduceSub,Array.replicate_succ,Array.replicate_zero,List.push_toArray,List.append_toArray,List.nil_append,List.cons_append]
   gi_wp2
   refine wpIn_loop_rounds 1 ?_;rw [roundsIn_succ]
   gi_wp2
   go_end0;exact ⟨⟨_,rfl⟩,.inl h0⟩
  |loop l=>
   refine callsIn_of_wp Tryz.func156 rfl trivial ?_ rfl;simp only [Fv.val,Tryz.ntmps156,List.size_toArray,List.length_cons,List.length_nil,Nat.reduceAdd,Nat.reduceSub,Array.replicate_succ,Array.replicate_zero,List.push_toArray,List.append_toArray,List.nil_append,List.cons_append]
   gi_wp2
   refine wpIn_loop_rounds 1 ?_;rw [roundsIn_succ]
   gi_wp2
   go_end0;exact ⟨⟨_,rfl⟩,.inl h0⟩
 ·cases fv with
  |fn gg lb=>
   refine callsIn_of_wp Tryz.func156 rfl trivial ?_ rfl;simp only [Fv.val,Tryz.ntmps156,List.size_toArray,List.length_cons,List.length_nil,Nat.reduceAdd,Nat.reduceSub,Array.replicate_succ,Array.replicate_zero,List.push_toArray,List.append_toArray,List.nil_append,List.cons_append]
   gi_wp2
   gi_loopw [8] (fun i wr=>∃ k:Nat,k<=xs.length/\i= I k/\J (es.take k) wr/\Keep (itL B1 B2 (Lt g xs.length cap) o) W wr/\W.heap.size<=wr.heap.size) (fun i _=>xs.length - (intOf i).toNat)
   case atStart=>exact ⟨0,G,rfl,h0,Keep.refl _ _,Nat.le_refl _⟩
   case round=>
    obtain ⟨k,hk,rfl,hJs,hKp,hsz⟩:=hrel;have hmx:xs.length<=9223372036854775807:=G
    by_cases hlt:k<xs.length
    ·have hke:k<es.length:=G
     have hIr:=h.keep hKp hsz;have hcut:es=es.take k++es[k]::es.drop (k+1):=by rw [List.getElem_cons_drop,List.take_append_drop]
     have hxk:xs[k]=es[k].key:=by simp [<- show es.map (·.key)=xs from hE]
     have hnext:es.take (k+1)=es.take k++[es[k]]:=List.take_succ_eq_append_getElem hke;have hpre:es.take k++[es[k]]<+:es:=by rw [<- hnext]; exact List.take_prefix _ _
     have hrow:∀ j,j<2->wr.cell? (Y g (k*2+j))=(clP xs[k])[j]?:=fun j hj=>(World.cell?_of_block (hKp g (ad9.2 (.inr (.inr (.inl rfl)))))).trans (hr3 k hlt j hj)
     rw [hxk] at hrow;generalize es[k]=x at*;obtain ⟨⟨xa,xn⟩,y,hok,hfit,hval⟩:=x;have r0:=hrow 0 G;have r1:=hrow 1 G;replace r0:wr.cell? (Y g (k*2))=some (U xa):=r0;replace r1:wr.cell? (Y g (k*2+1))=some (I xn):=r1;obtain ⟨rr,rfl⟩:∃ rr,o=some rr:=by
      cases o with
      |none=>have hn:(f ⟨xa,xn⟩).map ownV=none:=h.map.2 ⟨xa,xn⟩; rw [hval] at hn; cases hn
      |some rr=>exact ⟨rr,rfl⟩
     have hb2:=hIr.b2.at_ 0;have hmap:Mk pkE wr rr n (fun x=>(f x).map ownV):=hIr.map;have hlt1:=hIr.b1.lt;have hlt2:=hIr.b2.lt;have LK:=(hmap.held (aa0 wr (.cells #[U xa,I xn] 28))).look (t:=104) (e:=203) X (zeroP _) (i:=⟨xa,xn⟩) hok;rw [show ((fun x=>(f x).map ownV) ⟨xa,xn⟩).getD (.agg #[O false])=ownV y from by show ((f ⟨xa,xn⟩).map ownV).getD _=_; rw [hval]; rfl] at LK;have LK2:(Instr.lookup 104 (.map (some rr)) (.agg #[U xa,I xn]) false).run prog (wr.alloc (.cells #[U xa,I xn] 28)).drew= .ok (ownV y) (wr.alloc (.cells #[U xa,I xn] 28)).drew:=by
      have:=(Mk.of_block (w':=(wr.alloc (.cells #[U xa,I xn] 28)).drew) (hmap.held (aa0 wr (.cells #[U xa,I xn] 28))) rfl).look (t:=104) (e:=203) X (zeroP _) (i:=⟨xa,xn⟩) hok;rw [show ((fun x=>(f x).map ownV) ⟨xa,xn⟩).getD (.agg #[O false])=ownV y from by show ((f ⟨xa,xn⟩).map ownV).getD _=_; rw [hval]; rfl] at this;exact this
     clear LK;have hJ2:J (es.take k) (wr.alloc (.cells #[U xa,I xn] 28)).drew:=hJ _ _ _ none (hJ _ _ _ none hJs (World.grownBy_alloc wr _ none) (fun r e=>by cases e)) ⟨rfl,rfl,rfl,Nat.le_refl _,fun _ _ _=>rfl⟩ (fun r e=>by cases e);have hYk:=hY _ _ _ _ hcut hJ2;have hbelow:=(aa0 wr (.cells #[U xa,I xn] 28)).drew;have kk0:=(Blk.new wr 28 #[U xa,I xn]).drew.at_ 0;have kk1:=(Blk.new wr 28 #[U xa,I xn]).drew.at_ 1;have b22:(wr.alloc (.cells #[U xa,I xn] 28)).drew.cell? (Y B2 0)=some (.map (some rr)):=held hbelow hb2;have REST:=H6 hKp hsz hIr hbelow hnext hpre;clear hKp hsz hIr hbelow hnext hpre hmap hrow hcut hxk hJ2 hJs hY hJ hE;have eg:=hYk.1
     gi_wp2
     gi_region_with (refine ⟨trivial,fun h=>(by cases h),(aa7 hYk.2).mono ?_⟩; rintro e W3 ⟨b,rfl,hb⟩)
     all_goals
      cases b with
      |true=>
       simp only [if_true] at hb
       gi_wp2
       go_roundw
       case rel=>
        obtain ⟨hb1,hb2',hb3⟩:=hb;obtain ⟨g1,g2,g3,g4,g5,g6⟩:=REST.out;refine ⟨k+1,G,by go_num,by rw [g5]; exact hb1,(g1.trans (.of_below g3.lt g4)).trans hb2',?_⟩;have:=g4.size;omega
       case measure=>simp [intOf]; omega
      |false=>
       gi_wp2
       refine bodyPost_ret (results_none rfl _ _ _) rfl ?_;exact ⟨⟨_,rfl⟩,.inr ⟨_,REST.out.2.2.2.2.2,hb⟩⟩
    ·obtain rfl:k=xs.length:=G
     have hall:es.take xs.length=es:=List.take_of_length_le G;rw [hall] at hJs;clear hY hE
     gi_wp2
     go_end0;exact ⟨⟨_,rfl⟩,.inl hJs⟩
  |loop l=>
   refine callsIn_of_wp Tryz.func156 rfl trivial ?_ rfl;simp only [Fv.val,Tryz.ntmps156,List.size_toArray,List.length_cons,List.length_nil,Nat.reduceAdd,Nat.reduceSub,Array.replicate_succ,Array.replicate_zero,List.push_toArray,List.append_toArray,List.nil_append,List.cons_append]
   gi_wp2
   gi_loopw [8] (fun i wr=>∃ k:Nat,k<=xs.length/\i= I k/\J (es.take k) wr/\Keep (itL B1 B2 (Lt g xs.length cap) o) W wr/\W.heap.size<=wr.heap.size) (fun i _=>xs.length - (intOf i).toNat)
   case atStart=>exact ⟨0,G,rfl,h0,Keep.refl _ _,Nat.le_refl _⟩
   case round=>
    obtain ⟨k,hk,rfl,hJs,hKp,hsz⟩:=hrel;have hmx:xs.length<=9223372036854775807:=G
    by_cases hlt:k<xs.length
    ·have hke:k<es.length:=G
     have hIr:=h.keep hKp hsz;have hcut:es=es.take k++es[k]::es.drop (k+1):=by rw [List.getElem_cons_drop,List.take_append_drop]
     have hxk:xs[k]=es[k].key:=by simp [<- show es.map (·.key)=xs from hE]
     have hnext:es.take (k+1)=es.take k++[es[k]]:=List.take_succ_eq_append_getElem hke;have hpre:es.take k++[es[k]]<+:es:=by rw [<- hnext]; exact List.take_prefix _ _
     have hrow:∀ j,j<2->wr.cell? (Y g (k*2+j))=(clP xs[k])[j]?:=fun j hj=>(World.cell?_of_block (hKp g (ad9.2 (.inr (.inr (.inl rfl)))))).trans (hr3 k hlt j hj)
     rw [hxk] at hrow;generalize es[k]=x at*;obtain ⟨⟨xa,xn⟩,y,hok,hfit,hval⟩:=x;have r0:=hrow 0 G;have r1:=hrow 1 G;replace r0:wr.cell? (Y g (k*2))=some (U xa):=r0;replace r1:wr.cell? (Y g (k*2+1))=some (I xn):=r1;obtain ⟨rr,rfl⟩:∃ rr,o=some rr:=by
      cases o with
      |none=>have hn:(f ⟨xa,xn⟩).map ownV=none:=h.map.2 ⟨xa,xn⟩; rw [hval] at hn; cases hn
      |some rr=>exact ⟨rr,rfl⟩
     have hb2:=hIr.b2.at_ 0;have hmap:Mk pkE wr rr n (fun x=>(f x).map ownV):=hIr.map;have hlt1:=hIr.b1.lt;have hlt2:=hIr.b2.lt;have LK:=(hmap.held (aa0 wr (.cells #[U xa,I xn] 28))).look (t:=104) (e:=203) X (zeroP _) (i:=⟨xa,xn⟩) hok;rw [show ((fun x=>(f x).map ownV) ⟨xa,xn⟩).getD (.agg #[O false])=ownV y from by show ((f ⟨xa,xn⟩).map ownV).getD _=_; rw [hval]; rfl] at LK;have LK2:(Instr.lookup 104 (.map (some rr)) (.agg #[U xa,I xn]) false).run prog (wr.alloc (.cells #[U xa,I xn] 28)).drew= .ok (ownV y) (wr.alloc (.cells #[U xa,I xn] 28)).drew:=by
      have:=(Mk.of_block (w':=(wr.alloc (.cells #[U xa,I xn] 28)).drew) (hmap.held (aa0 wr (.cells #[U xa,I xn] 28))) rfl).look (t:=104) (e:=203) X (zeroP _) (i:=⟨xa,xn⟩) hok;rw [show ((fun x=>(f x).map ownV) ⟨xa,xn⟩).getD (.agg #[O false])=ownV y from by show ((f ⟨xa,xn⟩).map ownV).getD _=_; rw [hval]; rfl] at this;exact this
     clear LK;have hJ2:J (es.take k) (wr.alloc (.cells #[U xa,I xn] 28)).drew:=hJ _ _ _ none (hJ _ _ _ none hJs (World.grownBy_alloc wr _ none) (fun r e=>by cases e)) ⟨rfl,rfl,rfl,Nat.le_refl _,fun _ _ _=>rfl⟩ (fun r e=>by cases e);have hYk:=hY _ _ _ _ hcut hJ2;have hbelow:=(aa0 wr (.cells #[U xa,I xn] 28)).drew;have kk0:=(Blk.new wr 28 #[U xa,I xn]).drew.at_ 0;have kk1:=(Blk.new wr 28 #[U xa,I xn]).drew.at_ 1;have b22:(wr.alloc (.cells #[U xa,I xn] 28)).drew.cell? (Y B2 0)=some (.map (some rr)):=held hbelow hb2;have REST:=H6 hKp hsz hIr hbelow hnext hpre;clear hKp hsz hIr hbelow hnext hpre hmap hrow hcut hxk hJ2 hJs hY hJ hE;obtain ⟨fn,tmps,assign,body,hy,hR⟩:=hYk;simp only [arP,clP] at hy
     gi_wp2
     gi_region_with (refine ⟨fun h=>(by cases h),(af4 hR).mono ?_⟩; rintro e W3 ⟨b,rfl,hb⟩)
     all_goals
      cases b with
      |true=>
       simp only [if_true] at hb
       gi_wp2
       go_roundw
       case rel=>
        obtain ⟨hb1,hb2',hb3⟩:=hb;obtain ⟨g1,g2,g3,g4,g5,g6⟩:=REST.out;refine ⟨k+1,G,by go_num,by rw [g5]; exact hb1,(g1.trans (.of_below g3.lt g4)).trans hb2',?_⟩;have:=g4.size;omega
       case measure=>simp [intOf]; omega
      |false=>
       gi_wp2
       refine bodyPost_ret (results_none rfl _ _ _) rfl ?_;exact ⟨⟨_,rfl⟩,.inr ⟨_,REST.out.2.2.2.2.2,hb⟩⟩
    ·obtain rfl:k=xs.length:=G
     have hall:es.take xs.length=es:=List.take_of_length_le G;rw [hall] at hJs;clear hY hE
     gi_wp2
     go_end0;exact ⟨⟨_,rfl⟩,.inl hJs⟩
theorem ar5 {es:List (ElP f)} (h:ItP w B1 B2 v o n f xs) (hE:EsP f xs es) (m:Nat):
  SeqStopsK Fence.wide m prog 156 #[K B1,K B2] arP (KeepS (itL B1 B2 v o)) (fun ys=>ys=es) (fun _=>True) es.length w:=fun l J Jx W hW hJ _ hY h0=>by
 refine (inOrd1P (h.held hW) hE (.loop l) J Jx hJ (fun pre x rest W1 hc hj=>?_) h0 m).mono ?_
 ·refine Fv.At.mono (R:=_) (as8 (hY pre x W1 hj (by rw [hc]; simp))) ?_
  rintro e W' (⟨rfl,h1,h2,h3⟩|⟨rfl,h1⟩)
  ·exact ⟨true,rfl,h1,h2,h3⟩
  ·exact ⟨false,rfl,h1⟩
 ·rintro e W' ⟨h1,h2|⟨pre,-,h2⟩⟩
  ·exact ⟨h1,.inl ⟨es,rfl,h2⟩⟩
  ·exact ⟨h1,.inr ⟨pre,trivial,h2⟩⟩
def arO {f:Pk->Option Bool} (x:ElP f):Array Value:=#[.agg (clP x.key).toArray,O x.val]
def KeepT (t:TypeId) (W W':World):Prop:=∀ b C,Blk t W b C->Blk t W' b C
def goO {f:Pk->Option Bool} (B:Nat) (L:List Nat) (J Jx:List (ElP f)->World->Prop) (pre:List (ElP f)) (x:ElP f) (W1:World) (e:Ending) (W':World):Prop:=
 ∃ b:Bool,e= .returned (O b)/\KeepsFrom B W1 W'/\(if b then J (pre++[x]) W'/\KeepS L W1 W'/\KeepT 225 W1 W' else Jx (pre++[x]) W')
theorem ar6:∀ args w,(callFunc 156 args).run prog w= .ok (.enter 156 args) w:=enters_of Tryz.func156 X rfl
theorem owns1 {B3:Nat} {f:Pk->Option Bool} {es:List (ElP f)} (h:ItP W B1 B2 v o n f xs) (hE:EsP f xs es)
  (h3:Blk 222 W B3 #[.func (.func 156) #[] #[Pt B1,Pt B2]])
  (fv:Fv) (J Jx:List (ElP f)->World->Prop) (hJ:OwnFrom W.heap.size J) (hJx:OwnFrom W.heap.size Jx)
  (hY:∀ pre x W1,J pre W1->W.heap.size<=W1.heap.size->pre.length<es.length->fv.At prog (arO x) W1 (goO W.heap.size (itL B1 B2 v o) J Jx pre x W1)) (h0:J [] W) (m:Nat):
  CallsIn Fence.wide m prog 125 #[fv.val,Pt B3] W fun e W'=>(∃ v,e= .returned v)/\(J es W'\/∃ pre,Jx pre W'):=by
 refine aa7 ((callsIn_wide (n:=9)).1 ?_);have c3:=h3.at_ 0;have hl3:=h3.lt
 cases fv with
 |fn gg lb=>
  refine callsIn_of_wp_marks Tryz.func125 rfl trivial ?_ rfl;simp only [Fv.val,Tryz.ntmps125,List.size_toArray,List.length_cons,List.length_nil,Nat.reduceAdd,Nat.reduceSub,Array.replicate_succ,Array.replicate_zero,List.push_toArray,List.append_toArray,List.nil_append,List.cons_append];have hbx:=aa0 W (.cells #[.func (.func gg) #[] lb] 225);have hzx:=aa1 W (.cells #[.func (.func gg) #[] lb] 225);have hF:=Blk.new W 225 #[.func (.func gg) #[] lb];have hJ0:J [] (W.alloc (.cells #[.func (.func gg) #[] lb] 225)):=hJ.alloc _ h0;have c3':=held hbx c3
  gi_wp2
  generalize W.alloc (.cells #[.func (.func gg) #[] lb] 225)=w at*;refine wpIn_rangeFunc_ownH rfl G (gf:=156) (lb:=#[Pt B1,Pt B2]) rfl trivial ar6 (ar5 (h.held hbx) hE 8) KeepS.trans (af8 (h.held hbx).lt) (Below.refl _ _) (fun _=>rfl)
   (fun pre W'=>(J pre W'/\Blk 225 W' W.heap.size #[.func (.func gg) #[] lb])/\W.heap.size<=W'.heap.size)
   (fun c pre W'=>c= .ret/\Jx pre W')
   (OwnFrom.and (OwnFrom.and (OwnFrom.up hJ G) (fun _ _ _ _ hs hg hr=>hs.grown hg hr)) (fun _ _ _ _ hs hg _=>Nat.le_trans hs hg.size))
   (fun c=>OwnFrom.and (ownFrom_pure _ _) (OwnFrom.up hJx G))
   ⟨⟨hJ0,hF⟩,G⟩
   (fun x a' W'=>∃ Bp Bo,Blk 28 W' Bp #[U x.key.a,I x.key.n]/\Blk 203 W' Bo #[O x.val]/\a'={ tmps:=#[.func (.func gg) #[] lb,Pt B3,Pt W.heap.size,Pt Bp,Pt Bo,.func (.func 156) #[] #[Pt B1,Pt B2],.agg #[U x.key.a,I x.key.n],.agg #[O x.val],undef,undef,undef,undef,undef,undef],defers:=[] })
   ?_ ?assign ?body ?done ?stop
  ·rintro x a' s W1 W' row ⟨Bp,Bo,hp,ho,rfl⟩ hg hr
   exact ⟨Bp,Bo,hp.grown hg hr,ho.grown hg hr,rfl⟩
  case assign=>
   rintro l pre ⟨⟨xa,xn⟩,y,hok,hfit,hhas⟩ W1 K ⟨⟨hj,hf⟩,hz⟩ hK;have hP:=(Blk.new W1 28 #[U xa,I xn]).more (.cells #[O y] 203);have hO:=Blk.new (W1.alloc (.cells #[U xa,I xn] 28)) 203 #[O y];rw [aa1] at hO;have hbb:=next (aa0 W1 (.cells #[U xa,I xn] 28)) (aa0 (W1.alloc (.cells #[U xa,I xn] 28)) (.cells #[O y] 203));have hJ2:=hJ.alloc (.cells #[O y] 203) (hJ.alloc (.cells #[U xa,I xn] 28) hj);have hf2:=hf.held hbb;have hsz2:=hbb.size;simp only [arP,clP,ownV]
   gi_wp2
   exact hK _ _ (ac7 _ hbb) (.of_below (fun b hb=>Nat.lt_of_lt_of_le (h.lt b hb) hz) hbb) ⟨⟨hJ2,hf2⟩,G⟩ ⟨_,_,hP,hO,rfl⟩
  case body=>
   rintro l pre ⟨⟨xa,xn⟩,y,hok,hfit,hhas⟩ a' W1 hl hr ⟨⟨hj,hf⟩,hz⟩ ⟨Bp,Bo,hp,ho,rfl⟩ hlt;have hy:=hY pre ⟨⟨xa,xn⟩,y,hok,hfit,hhas⟩ W1 hj hz hlt;have p0:=hp.at_ 0;have p1:=hp.at_ 1;have o0:=ho.at_ 0;have f0:=hf.at_ 0;clear hY hJ hJx hp ho;have eg:=hy.1
   gi_wp2
   refine ⟨trivial,(ad1 hy.2).mono ?_⟩;rintro e W2 ⟨b,rfl,hkf,hb⟩;have hs2:=hkf.size
   cases b with
   |true=>
    rw [if_pos rfl] at hb;obtain ⟨hb1,hb2,hb3⟩:=hb
    gi_wp2
    exact ⟨KeepsFrom.mono hkf G,hb2,⟨hb1,hb3 _ _ hf⟩,G⟩
   |false=>
    rw [if_neg sn] at hb
    gi_wp2
    exact ⟨KeepsFrom.mono hkf G,rfl,hb⟩
  case done=>
   rintro D ys W1 hD rfl ⟨⟨hj,hf⟩,hz⟩ hK;have hj2:=hJ.putObj (.deferred none) hj (Nat.le_trans G hD) hK rfl
   gi_wp2
   refine ⟨by simp,.inl ⟨_,_,rfl,run_takeDeferred hK,?_⟩⟩;exact ⟨_,results_none rfl _ _ _,⟨_,rfl⟩,.inl hj2⟩
  case stop=>
   rintro D c pre W1 hD _ ⟨rfl,hj⟩ hK;have hj2:=hJx.putObj (.deferred none) hj (Nat.le_trans G hD) hK rfl
   gi_wp2
   refine ⟨by simp,.inl ⟨_,_,rfl,run_takeDeferred hK,?_⟩⟩;exact ⟨_,results_none rfl _ _ _,⟨_,rfl⟩,.inr ⟨pre,hj2⟩⟩
 |loop l0=>
  refine callsIn_of_wp_marks Tryz.func125 rfl trivial ?_ rfl;simp only [Fv.val,Tryz.ntmps125,List.size_toArray,List.length_cons,List.length_nil,Nat.reduceAdd,Nat.reduceSub,Array.replicate_succ,Array.replicate_zero,List.push_toArray,List.append_toArray,List.nil_append,List.cons_append];have hbx:=aa0 W (.cells #[.func (.yield l0) #[] #[]] 225);have hzx:=aa1 W (.cells #[.func (.yield l0) #[] #[]] 225);have hF:=Blk.new W 225 #[.func (.yield l0) #[] #[]];have hJ0:J [] (W.alloc (.cells #[.func (.yield l0) #[] #[]] 225)):=hJ.alloc _ h0;have c3':=held hbx c3
  gi_wp2
  generalize W.alloc (.cells #[.func (.yield l0) #[] #[]] 225)=w at*;refine wpIn_rangeFunc_ownH rfl G (gf:=156) (lb:=#[Pt B1,Pt B2]) rfl trivial ar6 (ar5 (h.held hbx) hE 8) KeepS.trans (af8 (h.held hbx).lt) (Below.refl _ _) (fun _=>rfl)
   (fun pre W'=>(J pre W'/\Blk 225 W' W.heap.size #[.func (.yield l0) #[] #[]])/\W.heap.size<=W'.heap.size)
   (fun c pre W'=>c= .ret/\Jx pre W')
   (OwnFrom.and (OwnFrom.and (OwnFrom.up hJ G) (fun _ _ _ _ hs hg hr=>hs.grown hg hr)) (fun _ _ _ _ hs hg _=>Nat.le_trans hs hg.size))
   (fun c=>OwnFrom.and (ownFrom_pure _ _) (OwnFrom.up hJx G))
   ⟨⟨hJ0,hF⟩,G⟩
   (fun x a' W'=>∃ Bp Bo,Blk 28 W' Bp #[U x.key.a,I x.key.n]/\Blk 203 W' Bo #[O x.val]/\a'={ tmps:=#[.func (.yield l0) #[] #[],Pt B3,Pt W.heap.size,Pt Bp,Pt Bo,.func (.func 156) #[] #[Pt B1,Pt B2],.agg #[U x.key.a,I x.key.n],.agg #[O x.val],undef,undef,undef,undef,undef,undef],defers:=[] })
   ?_ ?assign ?body ?done ?stop
  ·rintro x a' s W1 W' row ⟨Bp,Bo,hp,ho,rfl⟩ hg hr
   exact ⟨Bp,Bo,hp.grown hg hr,ho.grown hg hr,rfl⟩
  case assign=>
   rintro l pre ⟨⟨xa,xn⟩,y,hok,hfit,hhas⟩ W1 K ⟨⟨hj,hf⟩,hz⟩ hK;have hP:=(Blk.new W1 28 #[U xa,I xn]).more (.cells #[O y] 203);have hO:=Blk.new (W1.alloc (.cells #[U xa,I xn] 28)) 203 #[O y];rw [aa1] at hO;have hbb:=next (aa0 W1 (.cells #[U xa,I xn] 28)) (aa0 (W1.alloc (.cells #[U xa,I xn] 28)) (.cells #[O y] 203));have hJ2:=hJ.alloc (.cells #[O y] 203) (hJ.alloc (.cells #[U xa,I xn] 28) hj);have hf2:=hf.held hbb;have hsz2:=hbb.size;simp only [arP,clP,ownV]
   gi_wp2
   exact hK _ _ (ac7 _ hbb) (.of_below (fun b hb=>Nat.lt_of_lt_of_le (h.lt b hb) hz) hbb) ⟨⟨hJ2,hf2⟩,G⟩ ⟨_,_,hP,hO,rfl⟩
  case body=>
   rintro l pre ⟨⟨xa,xn⟩,y,hok,hfit,hhas⟩ a' W1 hl hr ⟨⟨hj,hf⟩,hz⟩ ⟨Bp,Bo,hp,ho,rfl⟩ hlt;have hy:=hY pre ⟨⟨xa,xn⟩,y,hok,hfit,hhas⟩ W1 hj hz hlt;have p0:=hp.at_ 0;have p1:=hp.at_ 1;have o0:=ho.at_ 0;have f0:=hf.at_ 0;clear hY hJ hJx hp ho;obtain ⟨fn,tmps,assign,body,hy,hR⟩:=hy;simp only [arO,clP] at hy
   gi_wp2
   refine (bw2 hR).mono ?_;rintro e W2 ⟨b,rfl,hkf,hb⟩;have hs2:=hkf.size
   cases b with
   |true=>
    rw [if_pos rfl] at hb;obtain ⟨hb1,hb2,hb3⟩:=hb
    gi_wp2
    exact ⟨KeepsFrom.mono hkf G,hb2,⟨hb1,hb3 _ _ hf⟩,G⟩
   |false=>
    rw [if_neg sn] at hb
    gi_wp2
    exact ⟨KeepsFrom.mono hkf G,rfl,hb⟩
  case done=>
   rintro D ys W1 hD rfl ⟨⟨hj,hf⟩,hz⟩ hK;have hj2:=hJ.putObj (.deferred none) hj (Nat.le_trans G hD) hK rfl
   gi_wp2
   refine ⟨by simp,.inl ⟨_,_,rfl,run_takeDeferred hK,?_⟩⟩;exact ⟨_,results_none rfl _ _ _,⟨_,rfl⟩,.inl hj2⟩
  case stop=>
   rintro D c pre W1 hD _ ⟨rfl,hj⟩ hK;have hj2:=hJx.putObj (.deferred none) hj (Nat.le_trans G hD) hK rfl
   gi_wp2
   refine ⟨by simp,.inl ⟨_,_,rfl,run_takeDeferred hK,?_⟩⟩;exact ⟨_,results_none rfl _ _ _,⟨_,rfl⟩,.inr ⟨pre,hj2⟩⟩
def fitK (y:Nat×Nat):Prop:=
 y.1<4294967296/\y.2<65536
structure ElK (f:Ky->Option (Nat×Nat)) where
 key:Ky
 val:Nat×Nat
 ok:key.ok
 fit:fitK val
 has:f key=some val
def EsK (f:Ky->Option (Nat×Nat)) (xs:List Ky) (es:List (ElK f)):Prop:=es.map (·.key)=xs
theorem cx9 {f:Ky->Option (Nat×Nat)} (hf:∀ x y,f x=some y->fitK y):∀ xs:List Ky,(∀ x∈xs,x.ok/\(f x).isSome=true)->∃ es,EsK f xs es
 |[],_=>⟨[],rfl⟩
 |x::r,h=>by
  obtain ⟨es,h1⟩:=cx9 hf r fun y hy=>h y (by simp [hy])
  obtain ⟨h3,h4⟩:=h x sn;obtain ⟨y,hy⟩:=Option.isSome_iff_exists.1 h4;exact ⟨⟨x,y,h3,hf x y hy,hy⟩::es,by show x::es.map (·.key)=_; rw [h1]⟩
def arK {f:Ky->Option (Nat×Nat)} (x:ElK f):Array Value:=#[.agg (clK x.key).toArray,dV x.val]
def goK {f:Ky->Option (Nat×Nat)} (L:List Nat) (J Jx:List (ElK f)->World->Prop) (pre:List (ElK f)) (x:ElK f) (W1:World) (e:Ending) (W':World):Prop:=
 ∃ b:Bool,e= .returned (O b)/\(if b then J (pre++[x]) W'/\Keep L W1 W'/\W1.heap.size<=W'.heap.size else Jx (pre++[x]) W')
theorem zeroK (w:World):(zeroValue 69).run prog w= .ok (.agg #[U 0,V 0]) w:=X
theorem inOrd1K {f:Ky->Option (Nat×Nat)} {xs:List Ky} {es:List (ElK f)} (h:ItK W B1 B2 v o n f xs) (hE:EsK f xs es) (fv:Fv) (J Jx:List (ElK f)->World->Prop) (hJ:AbidesFrom W.heap.size J)
  (hY:∀ pre x rest W1,es=pre++x::rest->J pre W1->fv.At prog (arK x) W1 (goK (itL B1 B2 v o) J Jx pre x W1)) (h0:J [] W) (m:Nat):
  CallsIn Fence.wide m prog 159 #[fv.val,K B1,K B2] W fun e W'=>(∃ v,e= .returned v)/\(J es W'\/∃ pre,pre<+:es/\Jx pre W'):=by
 have c1:=h.b1.at_ 0;have hlen:es.length=xs.length:=by rw [<- show es.map (·.key)=xs from hE]; simp
 have hl5:=h.len;rcases h.row with ⟨rfl,rfl⟩|⟨g,cap,rfl,hr1,hr2,hr3⟩
 ·have he:es=[]:=List.eq_nil_of_length_eq_zero hlen
  subst he;clear h hY hE
  cases fv with
  |fn gg lb=>
   refine callsIn_of_wp Tryz.func159 rfl trivial ?_ rfl;simp only [Fv.val,Tryz.ntmps159,List.size_toArray,List.length_cons,List.length_nil,Nat.reduceAdd,Nat.reduceSub,Array.replicate_succ,Array.replicate_zero,List.push_toArray,List.append_toArray,List.nil_append,List.cons_append]
   gi_wp2
   refine wpIn_loop_rounds 1 ?_;rw [roundsIn_succ]
   gi_wp2
   go_end0;exact ⟨⟨_,rfl⟩,.inl h0⟩
  |loop l=>
   refine callsIn_of_wp Tryz.func159 rfl trivial ?_ rfl;simp only [Fv.val,Tryz.ntmps159,List.size_toArray,List.length_cons,List.length_nil,Nat.reduceAdd,Nat.reduceSub,Array.replicate_succ,Array.replicate_zero,List.push_toArray,List.append_toArray,List.nil_append,List.cons_append]
   gi_wp2
   refine wpIn_loop_rounds 1 ?_;rw [roundsIn_succ]
   gi_wp2
   go_end0;exact ⟨⟨_,rfl⟩,.inl h0⟩
 ·cases fv with
  |fn gg lb=>
   refine callsIn_of_wp Tryz.func159 rfl trivial ?_ rfl;simp only [Fv.val,Tryz.ntmps159,List.size_toArray,List.length_cons,List.length_nil,Nat.reduceAdd,Nat.reduceSub,Array.replicate_succ,Array.replicate_zero,List.push_toArray,List.append_toArray,List.nil_append,List.cons_append]
   gi_wp2
   gi_loopw [8] (fun i wr=>∃ k:Nat,k<=xs.length/\i= I k/\J (es.take k) wr/\Keep (itL B1 B2 (Lt g xs.length cap) o) W wr/\W.heap.size<=wr.heap.size) (fun i _=>xs.length - (intOf i).toNat)
   case atStart=>exact ⟨0,G,rfl,h0,Keep.refl _ _,Nat.le_refl _⟩
   case round=>
    obtain ⟨k,hk,rfl,hJs,hKp,hsz⟩:=hrel;have hmx:xs.length<=9223372036854775807:=G
    by_cases hlt:k<xs.length
    ·have hke:k<es.length:=G
     have hIr:=h.keep hKp hsz;have hcut:es=es.take k++es[k]::es.drop (k+1):=by rw [List.getElem_cons_drop,List.take_append_drop]
     have hxk:xs[k]=es[k].key:=by simp [<- show es.map (·.key)=xs from hE]
     have hnext:es.take (k+1)=es.take k++[es[k]]:=List.take_succ_eq_append_getElem hke;have hpre:es.take k++[es[k]]<+:es:=by rw [<- hnext]; exact List.take_prefix _ _
     have hrow:∀ j,j<3->wr.cell? (Y g (k*3+j))=(clK xs[k])[j]?:=fun j hj=>(World.cell?_of_block (hKp g (ad9.2 (.inr (.inr (.inl rfl)))))).trans (hr3 k hlt j hj)
     rw [hxk] at hrow;generalize es[k]=x at*;obtain ⟨⟨xa,xn,xi⟩,y,hok,hfit,hval⟩:=x;have r0:=hrow 0 G;have r1:=hrow 1 G;have r2:=hrow 2 G;replace r0:wr.cell? (Y g (k*3))=some (U xa):=r0;replace r1:wr.cell? (Y g (k*3+1))=some (I xn):=r1;replace r2:wr.cell? (Y g (k*3+2))=some (U xi):=r2;obtain ⟨rr,rfl⟩:∃ rr,o=some rr:=by
      cases o with
      |none=>have hn:(f ⟨xa,xn,xi⟩).map dV=none:=h.map.2 ⟨xa,xn,xi⟩; rw [hval] at hn; cases hn
      |some rr=>exact ⟨rr,rfl⟩
     have hb2:=hIr.b2.at_ 0;have hmap:Mk kyE wr rr n (fun x=>(f x).map dV):=hIr.map;have hlt1:=hIr.b1.lt;have hlt2:=hIr.b2.lt;have LK:=(hmap.held (aa0 wr (.cells #[U xa,I xn,U xi] 185))).look (t:=105) (e:=69) X (zeroK _) (i:=⟨xa,xn,xi⟩) hok;rw [show ((fun x=>(f x).map dV) ⟨xa,xn,xi⟩).getD (.agg #[U 0,V 0])=dV y from by show ((f ⟨xa,xn,xi⟩).map dV).getD _=_; rw [hval]; rfl] at LK;have LK2:(Instr.lookup 105 (.map (some rr)) (.agg #[U xa,I xn,U xi]) false).run prog (wr.alloc (.cells #[U xa,I xn,U xi] 185)).drew= .ok (dV y) (wr.alloc (.cells #[U xa,I xn,U xi] 185)).drew:=by
      have:=(Mk.of_block (w':=(wr.alloc (.cells #[U xa,I xn,U xi] 185)).drew) (hmap.held (aa0 wr (.cells #[U xa,I xn,U xi] 185))) rfl).look (t:=105) (e:=69) X (zeroK _) (i:=⟨xa,xn,xi⟩) hok;rw [show ((fun x=>(f x).map dV) ⟨xa,xn,xi⟩).getD (.agg #[U 0,V 0])=dV y from by show ((f ⟨xa,xn,xi⟩).map dV).getD _=_; rw [hval]; rfl] at this;exact this
     clear LK;have hJ2:J (es.take k) (wr.alloc (.cells #[U xa,I xn,U xi] 185)).drew:=hJ _ _ _ none (hJ _ _ _ none hJs (World.grownBy_alloc wr _ none) (fun r e=>by cases e)) ⟨rfl,rfl,rfl,Nat.le_refl _,fun _ _ _=>rfl⟩ (fun r e=>by cases e);have hYk:=hY _ _ _ _ hcut hJ2;have hbelow:=(aa0 wr (.cells #[U xa,I xn,U xi] 185)).drew;have kk0:=(Blk.new wr 185 #[U xa,I xn,U xi]).drew.at_ 0;have kk1:=(Blk.new wr 185 #[U xa,I xn,U xi]).drew.at_ 1;have kk2:=(Blk.new wr 185 #[U xa,I xn,U xi]).drew.at_ 2;have b22:(wr.alloc (.cells #[U xa,I xn,U xi] 185)).drew.cell? (Y B2 0)=some (.map (some rr)):=held hbelow hb2;have REST:=H6 hKp hsz hIr hbelow hnext hpre;clear hKp hsz hIr hbelow hnext hpre hmap hrow hcut hxk hJ2 hJs hY hJ hE;have eg:=hYk.1
     gi_wp2
     gi_region_with (refine ⟨trivial,fun h=>(by cases h),(aa7 hYk.2).mono ?_⟩; rintro e W3 ⟨b,rfl,hb⟩)
     all_goals
      cases b with
      |true=>
       simp only [if_true] at hb
       gi_wp2
       go_roundw
       case rel=>
        obtain ⟨hb1,hb2',hb3⟩:=hb;obtain ⟨g1,g2,g3,g4,g5,g6⟩:=REST.out;refine ⟨k+1,G,by go_num,by rw [g5]; exact hb1,(g1.trans (.of_below g3.lt g4)).trans hb2',?_⟩;have:=g4.size;omega
       case measure=>simp [intOf]; omega
      |false=>
       gi_wp2
       refine bodyPost_ret (results_none rfl _ _ _) rfl ?_;exact ⟨⟨_,rfl⟩,.inr ⟨_,REST.out.2.2.2.2.2,hb⟩⟩
    ·obtain rfl:k=xs.length:=G
     have hall:es.take xs.length=es:=List.take_of_length_le G;rw [hall] at hJs;clear hY hE
     gi_wp2
     go_end0;exact ⟨⟨_,rfl⟩,.inl hJs⟩
  |loop l=>
   refine callsIn_of_wp Tryz.func159 rfl trivial ?_ rfl;simp only [Fv.val,Tryz.ntmps159,List.size_toArray,List.length_cons,List.length_nil,Nat.reduceAdd,Nat.reduceSub,Array.replicate_succ,Array.replicate_zero,List.push_toArray,List.append_toArray,List.nil_append,List.cons_append]
   gi_wp2
   gi_loopw [8] (fun i wr=>∃ k:Nat,k<=xs.length/\i= I k/\J (es.take k) wr/\Keep (itL B1 B2 (Lt g xs.length cap) o) W wr/\W.heap.size<=wr.heap.size) (fun i _=>xs.length - (intOf i).toNat)
   case atStart=>exact ⟨0,G,rfl,h0,Keep.refl _ _,Nat.le_refl _⟩
   case round=>
    obtain ⟨k,hk,rfl,hJs,hKp,hsz⟩:=hrel;have hmx:xs.length<=9223372036854775807:=G
    by_cases hlt:k<xs.length
    ·have hke:k<es.length:=G
     have hIr:=h.keep hKp hsz;have hcut:es=es.take k++es[k]::es.drop (k+1):=by rw [List.getElem_cons_drop,List.take_append_drop]
     have hxk:xs[k]=es[k].key:=by simp [<- show es.map (·.key)=xs from hE]
     have hnext:es.take (k+1)=es.take k++[es[k]]:=List.take_succ_eq_append_getElem hke;have hpre:es.take k++[es[k]]<+:es:=by rw [<- hnext]; exact List.take_prefix _ _
     have hrow:∀ j,j<3->wr.cell? (Y g (k*3+j))=(clK xs[k])[j]?:=fun j hj=>(World.cell?_of_block (hKp g (ad9.2 (.inr (.inr (.inl rfl)))))).trans (hr3 k hlt j hj)
     rw [hxk] at hrow;generalize es[k]=x at*;obtain ⟨⟨xa,xn,xi⟩,y,hok,hfit,hval⟩:=x;have r0:=hrow 0 G;have r1:=hrow 1 G;have r2:=hrow 2 G;replace r0:wr.cell? (Y g (k*3))=some (U xa):=r0;replace r1:wr.cell? (Y g (k*3+1))=some (I xn):=r1;replace r2:wr.cell? (Y g (k*3+2))=some (U xi):=r2;obtain ⟨rr,rfl⟩:∃ rr,o=some rr:=by
      cases o with
      |none=>have hn:(f ⟨xa,xn,xi⟩).map dV=none:=h.map.2 ⟨xa,xn,xi⟩; rw [hval] at hn; cases hn
      |some rr=>exact ⟨rr,rfl⟩
     have hb2:=hIr.b2.at_ 0;have hmap:Mk kyE wr rr n (fun x=>(f x).map dV):=hIr.map;have hlt1:=hIr.b1.lt;have hlt2:=hIr.b2.lt;have LK:=(hmap.held (aa0 wr (.cells #[U xa,I xn,U xi] 185))).look (t:=105) (e:=69) X (zeroK _) (i:=⟨xa,xn,xi⟩) hok;rw [show ((fun x=>(f x).map dV) ⟨xa,xn,xi⟩).getD (.agg #[U 0,V 0])=dV y from by show ((f ⟨xa,xn,xi⟩).map dV).getD _=_; rw [hval]; rfl] at LK;have LK2:(Instr.lookup 105 (.map (some rr)) (.agg #[U xa,I xn,U xi]) false).run prog (wr.alloc (.cells #[U xa,I xn,U xi] 185)).drew= .ok (dV y) (wr.alloc (.cells #[U xa,I xn,U xi] 185)).drew:=by
      have:=(Mk.of_block (w':=(wr.alloc (.cells #[U xa,I xn,U xi] 185)).drew) (hmap.held (aa0 wr (.cells #[U xa,I xn,U xi] 185))) rfl).look (t:=105) (e:=69) X (zeroK _) (i:=⟨xa,xn,xi⟩) hok;rw [show ((fun x=>(f x).map dV) ⟨xa,xn,xi⟩).getD (.agg #[U 0,V 0])=dV y from by show ((f ⟨xa,xn,xi⟩).map dV).getD _=_; rw [hval]; rfl] at this;exact this
     clear LK;have hJ2:J (es.take k) (wr.alloc (.cells #[U xa,I xn,U xi] 185)).drew:=hJ _ _ _ none (hJ _ _ _ none hJs (World.grownBy_alloc wr _ none) (fun r e=>by cases e)) ⟨rfl,rfl,rfl,Nat.le_refl _,fun _ _ _=>rfl⟩ (fun r e=>by cases e);have hYk:=hY _ _ _ _ hcut hJ2;have hbelow:=(aa0 wr (.cells #[U xa,I xn,U xi] 185)).drew;have kk0:=(Blk.new wr 185 #[U xa,I xn,U xi]).drew.at_ 0;have kk1:=(Blk.new wr 185 #[U xa,I xn,U xi]).drew.at_ 1;have kk2:=(Blk.new wr 185 #[U xa,I xn,U xi]).drew.at_ 2;have b22:(wr.alloc (.cells #[U xa,I xn,U xi] 185)).drew.cell? (Y B2 0)=some (.map (some rr)):=held hbelow hb2;have REST:=H6 hKp hsz hIr hbelow hnext hpre;clear hKp hsz hIr hbelow hnext hpre hmap hrow hcut hxk hJ2 hJs hY hJ hE;obtain ⟨fn,tmps,assign,body,hy,hR⟩:=hYk;simp only [arK,clK] at hy
     gi_wp2
     gi_region_with (refine ⟨fun h=>(by cases h),(af4 hR).mono ?_⟩; rintro e W3 ⟨b,rfl,hb⟩)
     all_goals
      cases b with
      |true=>
       simp only [if_true] at hb
       gi_wp2
       go_roundw
       case rel=>
        obtain ⟨hb1,hb2',hb3⟩:=hb;obtain ⟨g1,g2,g3,g4,g5,g6⟩:=REST.out;refine ⟨k+1,G,by go_num,by rw [g5]; exact hb1,(g1.trans (.of_below g3.lt g4)).trans hb2',?_⟩;have:=g4.size;omega
       case measure=>simp [intOf]; omega
      |false=>
       gi_wp2
       refine bodyPost_ret (results_none rfl _ _ _) rfl ?_;exact ⟨⟨_,rfl⟩,.inr ⟨_,REST.out.2.2.2.2.2,hb⟩⟩
    ·obtain rfl:k=xs.length:=G
     have hall:es.take xs.length=es:=List.take_of_length_le G;rw [hall] at hJs;clear hY hE
     gi_wp2
     go_end0;exact ⟨⟨_,rfl⟩,.inl hJs⟩
theorem bh4 {f:Ky->Option (Nat×Nat)} {xs:List Ky} {es:List (ElK f)} (h:ItK w B1 B2 v o n f xs) (hE:EsK f xs es) (m:Nat):
  SeqStopsK Fence.wide m prog 159 #[K B1,K B2] arK (KeepS (itL B1 B2 v o)) (fun ys=>ys=es) (fun _=>True) es.length w:=fun l J Jx W hW hJ _ hY h0=>by
 refine (inOrd1K (h.held hW) hE (.loop l) J Jx hJ (fun pre x rest W1 hc hj=>?_) h0 m).mono ?_
 ·refine Fv.At.mono (R:=_) (as8 (hY pre x W1 hj (by rw [hc]; simp))) ?_
  rintro e W' (⟨rfl,h1,h2,h3⟩|⟨rfl,h1⟩)
  ·exact ⟨true,rfl,h1,h2,h3⟩
  ·exact ⟨false,rfl,h1⟩
 ·rintro e W' ⟨h1,h2|⟨pre,-,h2⟩⟩
  ·exact ⟨h1,.inl ⟨es,rfl,h2⟩⟩
  ·exact ⟨h1,.inr ⟨pre,trivial,h2⟩⟩
end
section
open Go.RowKit
variable {P:Program} {α:Type}
def Drives (P:Program) (g:Nat) (lb:Array Value) (encs:α->Array Value) (N:Nat) (S:List α->Prop) (Kq:World->World->Prop) (W:World):Prop:=
 ∀ (l:Nat) (J:List α->World->Prop),OwnFrom W.heap.size J->
  (∀ pre x W1,J pre W1->W.heap.size<=W1.heap.size->pre.length<N->YieldAt Fence.wide 0 P l (encs x) W1 fun e W'=>e= .returned (O true)/\KeepsFrom W.heap.size W1 W'/\J (pre++[x]) W'/\Kq W1 W')->
  J [] W->Calls P g (#[.func (.yield l) #[] #[]]++lb) W fun e W'=>(∃ v,e= .returned v)/\∃ xs,S xs/\J xs W'
theorem ac0 {W W':World} {row:Option Nat} {B b:Nat} {o:Obj} (hg:W.grownBy W' row) (hr:∀ r,row=some r->B<=r/\∃ o:Obj,W.heap[r]?=some o/\o.isCells=false) (hb:b<B) (h:W.heap[b]?=some o):W'.heap[b]?=some o:=by
 refine (hg.block b (Array.getElem?_eq_some_iff.1 h).1 fun e=>?_).trans h;have:=(hr b e.symm).1;omega
theorem bc5 {n:Nat} {g:Operand} {ps:Array Tmp} {assign body:Code} {Q:Exit->Act->World->Prop} {a:Act} {w:World} {gf:Nat} {lb:Array Value}
  (hg:a.eval g= .func (.func gf) #[] lb) (eg:∀ args w,(callFunc gf args).run P w= .ok (.enter gf args) w)
  {encs:α->Array Value} {N:Nat} {S:List α->Prop} {Kq:World->World->Prop} (hseq:∀ W,Below w.heap.size w W->Drives P gf lb encs N S Kq W) (hps:∀ x,(encs x).size=ps.size)
  (hKt:∀ {A B C:World},Kq A B->Kq B C->Kq A C) (hKb:∀ (W:World) (l:Nat) (o o':Obj),w.heap.size<=l->W.heap[l]?=some o->o.isCells=false->o.isWalk=false->Kq W (W.putObj l o'))
  (I:List α->World->Prop) (hI:OwnFrom w.heap.size I) (h0:I [] w) (Ax:α->Act->World->Prop) (hAx:∀ x a',OwnFrom w.heap.size (fun (_:Unit) W=>Ax x a' W))
  (hassign:∀ (l:Nat) (pre:List α) (x:α) (W:World) (K:Act->World->Prop),I pre W->(∀ a' W',KeepsFrom w.heap.size W W'->Kq W W'->I pre W'->Ax x a' W'->K a' W')->
   assign.wpIn (Fence.wide.inRound l) 0 P (Exit.then K (fun _ _ _=>False)) { tmps:=(ps.zip (encs x)).foldl (fun t (p,v)=>t.setIfInBounds p v) a.tmps,defers:=[] } W)
  (hbody:∀ (l:Nat) (pre:List α) (x:α) (a':Act) (W:World),I pre W->Ax x a' W->pre.length<N->body.wpIn (Fence.wide.inRound l) 0 P (fun e _ W'=>e= .normal/\KeepsFrom w.heap.size W W'/\Kq W W'/\I (pre++[x]) W') a' W)
  (hdone:∀ (D:Nat) (xs:List α) (W:World),w.heap.size<=D->S xs->I xs W->W.heap[D]?=some (.deferred (some []))->Q .normal { a with defers:={ target:= .collected D,args:=#[] }::a.defers } W):
  (Code.rangeFunc g ps assign body).wpIn Fence.wide n P Q a w:=by
 refine wpIn_rangeFunc fun fn _=>?_
 obtain ⟨R,hR⟩:∃ R:LoopState->Loop,R=fun st=>{ state:=st,pending:=none,fn:=fn,tmps:=a.tmps,params:=ps,assign:=assign,body:=body,defers:=w.heap.size }:=⟨_,rfl⟩
 obtain ⟨V,hV⟩:∃ V,V=(w.alloc (.deferred (some []))).alloc (.loop (R .ready)):=⟨_,rfl⟩;have hb:Below w.heap.size w V:=by rw [hV]; exact next (aa0 _ _) (aa0 _ _)
 have hVs:V.heap.size=w.heap.size+2:=by rw [hV,aa1,aa1]
 have hD:V.heap[w.heap.size]?=some (.deferred (some [])):=by
  rw [hV];exact ((aa0 _ (.loop (R .ready))).block _ (by rw [aa1]; omega)).trans (World.alloc_heap_new w _)
 have hL:V.heap[w.heap.size+1]?=some (.loop (R .ready)):=by
  have:=World.alloc_heap_new (w.alloc (.deferred (some []))) (.loop (R .ready));rw [aa1] at this;rw [hV];exact this
 have hI0:I [] V:=by rw [hV]; exact hI.alloc _ (hI.alloc _ h0)
 refine ⟨w.heap.size+1,[{ target:= .collected w.heap.size,args:=#[] }],V,{ target:= .fn (.func gf) lb,args:=#[.func (.yield (w.heap.size+1)) #[] #[]] },V,gf,#[.func (.yield (w.heap.size+1)) #[] #[]]++lb,V,?_,?_,(fun _ _=>trivial),?_,(fun h=>by cases h),?_⟩
 ·rw [hV,hR]; exact run_enterLoop_outer _ _ _ _ _
 ·simp only [resolve,hg]
  simp [go_sem]
 ·simp [invoke,go_sem,eg]
 refine aa7 ((hseq V hb (w.heap.size+1) (fun pre W=>I pre W/\W.heap[w.heap.size+1]?=some (.loop (R .ready))/\W.heap[w.heap.size]?=some (.deferred (some []))) ?_ ?_ ⟨hI0,hL,hD⟩).mono ?_)
 ·intro s X Y row hs hgr hr
  exact ⟨hI s X Y row hs.1 hgr (fun r e=>⟨by have:=(hr r e).1; omega,(hr r e).2⟩),ac0 hgr hr G hs.2.1,ac0 hgr hr G hs.2.2⟩
 ·rintro pre x W ⟨hi,hl,hd⟩ hsz hlen
  have hy:=run_yield (P:=P) (args:=encs x) hl (by rw [hR]; exact hps x);rw [hR] at hy;refine ⟨fn,_,assign,body,hy,roundIn_of_wpIn trivial (hassign _ pre x W _ hi ?_)⟩;intro a' W2 hk2 hq2 hi2 hax2;have hl2:=hk2.same _ _ G hl rfl;have hd2:=hk2.same _ _ G hd rfl;refine ⟨_,run_beginRound hl2 (by rw [hR]),?_⟩;obtain ⟨W3,hW3⟩:∃ W3,W3=W2.putObj (w.heap.size+1) (.loop { R .ready with state:= .busy }):=⟨_,rfl⟩;have hl3:W3.heap[w.heap.size+1]?=some (.loop { R .ready with state:= .busy }):=by rw [hW3]; exact World.putObj_heap_same (Array.getElem?_eq_some_iff.1 hl2).1
  have hd3:W3.heap[w.heap.size]?=some (.deferred (some [])):=by rw [hW3]; exact (World.putObj_heap_other G).trans hd2
  have hi3:I pre W3:=by rw [hW3]; exact hI.putObj _ hi2 G hl2 rfl
  have hax3:Ax x a' W3:=by rw [hW3]; exact (hAx x a').putObj (s:=()) _ hax2 G hl2 rfl
  have hq3:Kq W2 W3:=by rw [hW3]; exact hKb _ _ _ _ G hl2 rfl rfl
  have hk3:KeepsFrom V.heap.size W2 W3:=by rw [hW3]; exact KeepsFrom.of_grownBy (grownBy_putObj' _ _ _) (fun j e=>by cases e; omega)
  rw [<- hW3];refine wpIn_mono (hbody _ pre x a' W3 hi3 hax3 hlen) ?_;rintro e a4 W4 ⟨rfl,hk4,hq4,hi4⟩;have hl4:=hk4.same _ _ G hl3 rfl;have hd4:=hk4.same _ _ G hd3 rfl;have hrun:=run_endRound (P:=P) none hl4;obtain ⟨W5,hW5⟩:=eX (W4.putObj (w.heap.size+1) (.loop (R .ready)));have hrec:({ R .ready with state:= .busy }:Loop)=R .busy:=by rw [hR]
  have hend:(Instr.endRound (w.heap.size+1) none).run P W4= .ok (O true) W5:=by
   rw [hW5];rw [hR] at hrun ⊢;exact hrun
  refine ⟨_,_,hend,rfl,?_,⟨?_,?_,?_⟩,?_⟩
  ·have h5:KeepsFrom V.heap.size W4 W5:=by rw [hW5]; exact KeepsFrom.of_grownBy (grownBy_putObj' _ _ _) (fun j e=>by cases e; omega)
   exact (((KeepsFrom.mono hk2 G).trans hk3).trans (KeepsFrom.mono hk4 G)).trans h5
  ·rw [hW5]; exact hI.putObj _ hi4 G hl4 rfl
  ·rw [hW5]; exact World.putObj_heap_same (Array.getElem?_eq_some_iff.1 hl4).1
  ·rw [hW5]; exact (World.putObj_heap_other G).trans hd4
  ·refine hKt (hKt (hKt hq2 hq3) hq4) ?_
   rw [hW5];exact hKb _ _ _ _ G hl4 rfl rfl
 ·rintro e W ⟨⟨v,rfl⟩,xs,hS,hi,hl,hd⟩
  have hend:=run_endLoop (P:=P) hl (by rw [hR]; simp);refine ⟨_,_,hend,?_⟩;have hp:(R .ready).pending=none:=by rw [hR]
  rw [hp];exact hdone _ xs _ (Nat.le_refl _) hS (hI.putObj _ hi G hl rfl) ((World.putObj_heap_other G).trans hd)
end
section
namespace Fm
structure En where
 a:Nat
 n:Int
 on:Bool
deriving DecidableEq
def En.zero:En:=⟨0,0,false⟩
instance:Inhabited En:=⟨En.zero⟩
end Fm
open Fm
def ecl (e:En):List Value:=[U e.a,I e.n,O e.on]
end
section
variable {a b m mid:Nat}
namespace Sb
open Go.Sort Fm
structure De where
 e:En
 i:Nat
instance:Inhabited De:=⟨⟨En.zero,0⟩⟩
def cf (x y:De):Int:=Om.pcmp x.e.a x.e.n y.e.a y.e.n
def Kl (x y:De):Prop:=x.e.a<y.e.a\/x.e.a=y.e.a/\x.e.n<y.e.n
def Lx (x y:De):Prop:=x.e.a<y.e.a\/x.e.a=y.e.a/\(x.e.n<y.e.n\/x.e.n=y.e.n/\x.i<y.i)
instance (x y:De):Decidable (Lx x y):=by unfold Lx; infer_instance
instance (x y:De):Decidable (Kl x y):=by unfold Kl; infer_instance
theorem dv1 (x y:De):cf x y<0↔Kl x y:=by
 unfold cf Om.pcmp or2 cmpI Kl;split<;>(try split)<;>(try split)<;>(try split)<;>omega
theorem cf_dec (x y:De):ltOf cf x y=decide (Kl x y):=by
 unfold ltOf;exact decide_eq_decide.2 (dv1 x y)
def lxB (x y:De):Bool:=decide (Lx x y)
theorem swoLx:SWO lxB where
 irrefl x:=decide_eq_false (by unfold Lx; omega)
 trans x y z h1 h2:=by simp only [lxB,decide_eq_true_eq] at*; unfold Lx at*; omega
 ntrans x y z h1 h2:=by simp only [lxB,decide_eq_false_iff_not] at*; unfold Lx at*; omega
theorem cs6 {x y:De} (h:Kl x y):Lx x y:=by unfold Kl at h; unfold Lx; omega
theorem bt4 {x y:De} (h:¬ Kl y x) (hi:x.i<y.i):Lx x y:=by unfold Kl at h; unfold Lx; omega
theorem av9 {x y z:De} (h1:Lx x y) (h2:Lx y z):Lx x z:=by unfold Lx at*; omega
def Srt (a b:Nat) (d:Array De):Prop:=∀ i j,a<=i->i<j->j<b->Lx d[i]! d[j]!
def Aft (a m b:Nat) (d:Array De):Prop:=∀ i j,a<=i->i<m->m<=j->j<b->d[i]!.i<d[j]!.i
structure Mer (a m b:Nat) (d:Array De):Prop where
 l:Srt a m d
 r:Srt m b d
 aft:Aft a m b d
structure Rot (a m b:Nat) (d d':Array De):Prop where
 perm:PermIn a b d d'
 fst:∀ i,a<=i->i<a+(b - m)->d'[i]! =d[i+(m - a)]!
 snd:∀ i,a+(b - m)<=i->i<b->d'[i]! =d[i - (b - m)]!
theorem Rot.none {d:Array De} (hm:a<=m) (hb:m<=b) (h:a=m\/m=b):Rot a m b d d:=
 ⟨permIn_refl _ _ _,fun i h1 h2=>by congr 1; omega,fun i h1 h2=>by congr 1; omega⟩
theorem Srt.sub {a' b':Nat} {d:Array De} (h:Srt a b d) (ha:a<=a') (hb:b'<=b):Srt a' b' d:=fun i j h1 h2 h3=>h i j G h2 G
theorem Srt.same {d d':Array De} (h:Srt a b d) (he:∀ i,a<=i->i<b->d'[i]! =d[i]!):Srt a b d':=fun i j h1 h2 h3=>by rw [he i h1 G,he j G h3]; exact h i j h1 h2 h3
theorem Srt.glue {d:Array De} (h1:Srt a m d) (h2:Srt m b d) (h:∀ i j,a<=i->i<m->m<=j->j<b->Lx d[i]! d[j]!):Srt a b d:=fun i j hi hij hj=>by
 by_cases c1:j<m
 ·exact h1 i j hi hij c1
 ·by_cases c2:m<=i
  ·exact h2 i j c2 hij hj
  ·exact h i j hi G G hj
structure Step (a s m t b mid:Nat) (d d':Array De):Prop where
 perm:PermIn a b d d'
 l:Mer a s mid d'
 r:Mer mid t b d'
 lt:∀ i j,a<=i->i<mid->mid<=j->j<b->Lx d'[i]! d'[j]!
theorem av8 {s t:Nat} {d d':Array De} (h:Mer a m b d) (hR:Rot s m t d d') (h1:a<=s) (h2:s<=m) (h3:m<=t) (h4:t<=b) (hb:b<=d.size) (hmid:s+t=mid+m)
  (hu:s=a\/t=b\/¬ Kl d[t]! d[s - 1]!) (hv:s=m\/t=m\/Kl d[t - 1]! d[s]!):Step a s m t b mid d d':=by
 have out:∀ i,i<s\/t<=i->d'[i]! =d[i]!:=hR.perm.2.1;have f1:∀ i,s<=i->i<mid->d'[i]! =d[i+(m - s)]!:=fun i h5 h6=>hR.fst i h5 G
 have f2:∀ i,mid<=i->i<t->d'[i]! =d[i - (mid - s)]!:=fun i h5 h6=>by rw [hR.snd i G h6]; congr 1; omega
 have uv:∀ i j,a<=i->i<s->t<=j->j<b->Lx d[i]! d[j]!:=fun i j h5 h6 h7 h8=>by
  have hu':¬ Kl d[t]! d[s - 1]!:=by rcases hu with hu|hu|hu<;>first|exact hu|omega
  have k1:Lx d[s - 1]! d[t]!:=bt4 hu' (h.aft (s - 1) t G G G G);have k2:Lx d[i]! d[t]!:=by
   by_cases e:i=s - 1
   ·rw [e]; exact k1
   ·exact av9 (h.l i (s - 1) h5 G G) k1
  by_cases e:j=t
  ·rw [e]; exact k2
  ·exact av9 k2 (h.r t j G G h8)
 have vu:∀ i j,m<=i->i<t->s<=j->j<m->Lx d[i]! d[j]!:=fun i j h5 h6 h7 h8=>by
  have hv':Kl d[t - 1]! d[s]!:=by rcases hv with hv|hv|hv<;>first|exact hv|omega
  have k1:Lx d[t - 1]! d[s]!:=cs6 hv';have k2:Lx d[i]! d[s]!:=by
   by_cases e:i=t - 1
   ·rw [e]; exact k1
   ·exact av9 (h.r i (t - 1) h5 G G) k1
  by_cases e:j=s
  ·rw [e]; exact k2
  ·exact av9 k2 (h.l s j G G h8)
 refine ⟨permIn_mono _ _ _ _ _ _ h1 h4 hb hR.perm,⟨?_,?_,?_⟩,⟨?_,?_,?_⟩,?_⟩
 ·exact (h.l.sub (Nat.le_refl _) h2).same fun i h5 h6=>out i (.inl h6)
 ·intro i j h5 h6 h7
  rw [f1 i h5 G,f1 j G h7];exact h.r _ _ G G G
 ·intro i j h5 h6 h7 h8
  rw [out i (.inl h6),f1 j h7 h8];exact h.aft _ _ h5 G G G
 ·intro i j h5 h6 h7
  rw [f2 i h5 G,f2 j G h7];exact h.l _ _ G G G
 ·exact (h.r.sub h3 (Nat.le_refl _)).same fun i h5 h6=>out i (.inr h5)
 ·intro i j h5 h6 h7 h8
  rw [f2 i h5 h6,out j (.inr h7)];exact h.aft _ _ G G G h8
 ·intro i j h5 h6 h7 h8
  by_cases c1:i<s
  ·rw [out i (.inl c1)]
   by_cases c2:j<t
   ·rw [f2 j h7 c2]
    exact h.l _ _ h5 G G
   ·rw [out j (.inr G)]
    exact uv i j h5 c1 G h8
  ·rw [f1 i G h6]
   by_cases c2:j<t
   ·rw [f2 j h7 c2]
    exact vu _ _ G G G G
   ·rw [out j (.inr G)]
    exact h.r _ _ G G h8
theorem ds2 {d d1 d2:Array De} (hm:mid<=d.size) (hb:b<=d.size) (h:∀ i j,a<=i->i<mid->mid<=j->j<b->Lx d[i]! d[j]!) (p1:PermIn a mid d d1) (p2:PermIn mid b d1 d2):
  ∀ i j,a<=i->i<mid->mid<=j->j<b->Lx d2[i]! d2[j]!:=by
 have s1:d1.size=d.size:=p1.1;have k1:∀ i,a<=i->i<mid->∀ j,mid<=j->j<b->Lx d1[i]! d1[j]!:=by
  intro i h1 h2 j h3 h4;rw [p1.2.1 j (.inr h3)];exact permIn_all d d1 a mid (fun x=>Lx x d[j]!) hm p1 (fun i h1 h2=>h i j h1 h2 h3 h4) i h1 h2
 intro i j h1 h2 h3 h4;rw [p2.2.1 i (.inl h2)];exact permIn_all d1 d2 mid b (fun y=>Lx d1[i]! y) G p2 (fun j h3 h4=>k1 i h1 h2 j h3 h4) j h3 h4
theorem Mer.done {d:Array De} (h:Mer a m b d) (hk:a=m\/m=b\/¬ Kl d[m]! d[m - 1]!):Srt a b d:=by
 refine h.l.glue h.r fun i j h1 h2 h3 h4=>?_
 have hk':¬ Kl d[m]! d[m - 1]!:=by rcases hk with hk|hk|hk<;>first|exact hk|omega
 have k1:Lx d[m - 1]! d[m]!:=bt4 hk' (h.aft _ _ G G G G);have k2:Lx d[i]! d[m]!:=by
  by_cases e:i=m - 1
  ·rw [e]; exact k1
  ·exact av9 (h.l i (m - 1) h1 G G) k1
 by_cases e:j=m
 ·rw [e]; exact k2
 ·exact av9 k2 (h.r m j (Nat.le_refl _) G h4)
theorem ay4 (lt:De->De->Bool) (a:Nat):∀ (j:Nat) (d:Array De),j<d.size->(insInner lt a j d).size=d.size/\(∀ p,j<p->(insInner lt a j d)[p]! =d[p]!)/\
  ∀ Q:De->Prop,(∀ p,a<=p->p<=j->Q d[p]!)->∀ p,a<=p->p<=j->Q (insInner lt a j d)[p]!
 |0,d,_=>⟨rfl,fun _ _=>rfl,fun _ h=>h⟩
 |j+1,d,hj=>by
  unfold insInner;split
  ·rename_i hc
   have hja:j+1>a:=by simp only [Bool.and_eq_true,decide_eq_true_eq] at hc; exact hc.1
   obtain ⟨k1,k2,k3⟩:=ay4 lt a j (swp d (j+1) j) (by rw [size_swp]; omega);refine ⟨by rw [k1,size_swp],fun p hp=>by rw [k2 p G,swp_other d _ _ p G G],fun Q hQ p h1 h2=>?_⟩;by_cases e:p=j+1
   ·rw [e,k2 (j+1) G,swp_left d _ _ G G]
    exact hQ j G G
   ·refine k3 Q (fun q h3 h4=>?_) p h1 G
    by_cases e2:q=j
    ·rw [e2,swp_right d _ _ G]; exact hQ _ G G
    ·rw [swp_other d _ _ q G G]; exact hQ q h3 G
  ·exact ⟨rfl,fun _ _=>rfl,fun _ h=>h⟩
theorem bh3 (a:Nat):∀ (j:Nat) (d:Array De),j<d.size->(∀ p,a<=p->p<j->d[p]!.i<d[j]!.i)->insInner (ltOf cf) a j d=insInner lxB a j d
 |0,_,_,_=>rfl
 |j+1,d,hj,h=>by
  unfold insInner;by_cases hja:j+1>a
  ·have hi:=h j G G
   have e:ltOf cf d[j+1]! d[j]! =lxB d[j+1]! d[j]!:=by
    rw [cf_dec];exact decide_eq_decide.2 ⟨cs6,fun hl=>by unfold Lx at hl; unfold Kl; omega⟩
   rw [e];rw [bh3 a j (swp d (j+1) j) (by rw [size_swp]; omega) fun p h1 h2=>by
    rw [swp_right d _ _ G,swp_other d _ _ p G G];exact h p h1 G]
  ·simp [hja]
theorem cg1 (a b:Nat):∀ (n i:Nat) (d:Array De),b - i=n->a<i->b<=d.size->(∀ p q,a<=p->p<q->i<=q->q<b->d[p]!.i<d[q]!.i)->insOuter (ltOf cf) a b i d=insOuter lxB a b i d:=by
 intro n
 induction n with
 |zero=>
  intro i d hn hi hb h;rw [insOuter.eq_1 (ltOf cf),insOuter.eq_1 lxB,if_neg G,if_neg G]
 |succ n ih=>
  intro i d hn hi hb h;rw [insOuter.eq_1 (ltOf cf),insOuter.eq_1 lxB];rw [if_pos G,if_pos G];rw [bh3 a i d G fun p h1 h2=>h p i h1 h2 (Nat.le_refl _) G];obtain ⟨k1,k2,k3⟩:=ay4 lxB a i d G;refine ih (i+1) _ G G (by rw [k1]; exact hb) fun p q h1 h2 h3 h4=>?_
  rw [k2 q G];by_cases c:p<=i
  ·exact k3 (fun x=>x.i<d[q]!.i) (fun p h1 h2=>h p q h1 G G h4) p h1 c
  ·rw [k2 p G]
   exact h p q h1 h2 G h4
theorem db5 {d d':Array De} (hb:b<=d.size) (hp:PermIn a b d d') (h:∀ p q,a<=p->p<q->q<b->d[p]!.i≠d[q]!.i):∀ p q,a<=p->p<q->q<b->d'[p]!.i≠d'[q]!.i:=by
 have hb':b<=d'.size:=by rw [hp.1]; exact hb
 have h1:(d.extract a b).toList.Pairwise fun x y=>x.i≠y.i:=by
  rw [extract_toList d a b hb,List.pairwise_iff_getElem];intro i j hi hj hij;simp only [List.length_map,List.length_range'] at hi hj;simp only [List.getElem_map,List.getElem_range',Nat.one_mul];exact h _ _ G G G
 have h2:(d'.extract a b).toList.Pairwise fun x y=>x.i≠y.i:=hp.2.2.symm.pairwise h1 (fun {x y} e=>Ne.symm e)
 rw [extract_toList d' a b hb',List.pairwise_iff_getElem] at h2;intro p q h3 h4 h5;have k:=h2 (p - a) (q - a) (by simp; omega) (by simp; omega) G;simp only [List.getElem_map,List.getElem_range',Nat.one_mul] at k;rw [show a+(p - a)=p by omega,show a+(q - a)=q by omega] at k;exact k
theorem ct6 {d:Array De} (hab:a<=b) (hb:b<=d.size) (h:∀ p q,a<=p->p<q->q<b->d[p]!.i<d[q]!.i):
  PermIn a b d (Sort.insertionSort (ltOf cf) d a b)/\Srt a b (Sort.insertionSort (ltOf cf) d a b):=by
 have e:Sort.insertionSort (ltOf cf) d a b=Sort.insertionSort lxB d a b:=cg1 a b _ (a+1) d rfl G hb fun p q h1 h2 _ h4=>h p q h1 h2 h4
 rw [e];have hp:=insertionSort_holds (lt:=lxB) swoLx d a b hab hb;refine ⟨hp.1,fun i j h1 h2 h3=>?_⟩;have k:=hp.2 i j h1 h2 h3;have hne:(Sort.insertionSort lxB d a b)[i]!.i≠(Sort.insertionSort lxB d a b)[j]!.i:=db5 hb hp.1 (fun p q h1 h2 h3=>by have:=h p q h1 h2 h3; omega) i j h1 h2 h3;simp only [lxB,decide_eq_false_iff_not] at k;unfold Lx at*;omega
end Sb
end
end Go.Proofs.YtafkfnodcemefaaGreat
