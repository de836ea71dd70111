import Derived.Maps.OwnIn
import Derived.Test.YtafkfnodcemefaaGreatB17
import Derived.Test.YtafkfnodcemefaaGreatLayi
set_option maxHeartbeats 8000000
set_option maxRecDepth 100000
namespace Go.Proofs.YtafkfnodcemefaaGreat
open _root_.Go.Proofs.Tryz (prog)
section
open Go.RowKit Rm
variable {t:TypeId}{W W' w w0:World}{B F0 F1 n₀:Nat}{rs:List Rc}{v:Value}{o:Option Nat}
variable {tS:TypeId} {XS:List Value}
theorem Blk.ne {t':TypeId} {g g':Nat} {C C':Array Value} (h:Blk t w g C) (k:Blk t' w g' C') (ht:t≠t'):g≠g':=by
 rintro rfl;unfold Blk at h k;rw [h] at k
 cases k;exact ht rfl
variable {tS:TypeId} {XS:List Value}
variable {tS:TypeId} {XS:List Value}
def rO {f:Pk->Option Bool} (e:ElP f):Rc:=⟨2,0,0,0,e.key.a,e.key.n,e.val,0,0⟩
def rF {f:Ky->Option (Nat×Nat)} (e:ElK f):Rc:=⟨4,0,0,e.key.id,e.key.a,e.key.n,false,e.val.1,e.val.2⟩
def rL (lease:Nat):List Rc:=if lease=0 then [] else [⟨3,0,0,0,0,0,false,lease,0⟩]
def rcells (r:Rc):List Value:=(rcl r).toList
theorem infoRec:(prog.info? 160).map (fun i=>(i.zero,i.size,i.bytes))=some (some (.agg #[I 0,U 0,U 0,U 0,U 0,I 0,O false,U 0,V 0]),9,56):=X
def Lst (w0:World) (n₀ B F0 F1:Nat) (rs:List Rc) (W:World):Prop:=
 (∃ v,Boxed W B 244 v/\W.ownsRow n₀ 160 9 v rs.length (rs.flatMap rcells)/\(v= .slice none 0 0↔rs=[])/\(∀ b,v.ownBlock=some b->b<F0\/F1<=b))/\Below n₀ w0 W/\F1<=W.heap.size
theorem dj4 {β:Type} {B':Nat} (f:β->List Rc) (h1:n₀<=w0.heap.size) (h2:n₀<=B'):OwnFrom B' (fun s W=>Lst w0 n₀ B F0 F1 (f s) W):=
 OwnFrom.and (Own.from (holdsRow_own n₀ B 244 160 9 (fun s=>(f s).length) (fun s=>(f s).flatMap rcells) (fun s v=>(v= .slice none 0 0↔f s=[])/\(∀ b,v.ownBlock=some b->b<F0\/F1<=b))) _)
  (OwnFrom.and (ownFrom_below h1 h2) (fun _ _ _ _ hs hg _=>Nat.le_trans hs hg.size))
theorem Lst.alloc (h:Lst w0 n₀ B F0 F1 rs W) (h1:n₀<=w0.heap.size) (o:Obj):Lst w0 n₀ B F0 F1 rs (W.alloc o):=
 (dj4 (β:=Unit) (B':=n₀) (fun _=>rs) h1 (Nat.le_refl _)).alloc (s:=()) o h
theorem Lst.held {w0 W W':World} {n₀ B F0 F1:Nat} {rs:List Rc} (h:Lst w0 n₀ B F0 F1 rs W) (hb:Below W.heap.size W W') (h1:n₀<=w0.heap.size):Lst w0 n₀ B F0 F1 rs W':=by
 obtain ⟨⟨v,hv,hr,hn,ho⟩,hB,hF⟩:=h;have hg:W.grownBy W' none:=⟨hb.os,hb.tape,hb.output,hb.size,fun k hk _=>hb.block k hk⟩;refine ⟨⟨v,hv.kept hg sn,hr.kept hg ?_,hn,ho⟩,hB.trans (hb.mono (Nat.le_trans h1 hB.size)),Nat.le_trans hF hb.size⟩;rcases hr.2 with ⟨rfl,_⟩|⟨g,cap,cur,rfl,_⟩
 ·exact .inl rfl
 ·exact .inr (by simp [Value.ownBlock])
theorem Lst.drew (h:Lst w0 n₀ B F0 F1 rs W) (h1:n₀<=w0.heap.size):Lst w0 n₀ B F0 F1 rs W.drew:=h.held (Below.refl _ _).drew h1
theorem Lst.rebase (h:Lst w0 n₀ B F0 F1 rs W) (hb:Below W.heap.size W W') (h1:n₀<=w0.heap.size):Lst w0 n₀ B W.heap.size W'.heap.size rs W':=by
 obtain ⟨⟨v,hv,hr,hn,ho⟩,hB,hF⟩:=h.held hb h1;refine ⟨⟨v,hv,hr,hn,fun b hb'=>?_⟩,hB,Nat.le_refl _⟩;obtain ⟨⟨v0,hv0,hr0,-,-⟩,-,-⟩:=h;have hv1:=(hb.block _ hv0.lt).trans hv0;rw [show W'.heap[B]?=_ from hv] at hv1;simp only [Option.some.injEq,Obj.cells.injEq,Array.mk.injEq,List.cons.injEq,and_true] at hv1;subst hv1;rcases hr0.2 with ⟨rfl,_⟩|⟨g,cap,cur,rfl,_,hg,_⟩
 ·cases hb'
 ·cases hb'
  exact .inl (Array.getElem?_eq_some_iff.1 hg).1
theorem Lst.push {w0 W w1:World} {n₀ B F0 F1 g' cap':Nat} {rs:List Rc} {r:Rc} {v:Value} {tmp:Obj} (h1:n₀<=w0.heap.size) (hB:n₀<=B)
  (hv:Boxed W B 244 v) (hrow:W.ownsRow n₀ 160 9 v rs.length (rs.flatMap rcells)) (ho:∀ b,v.ownBlock=some b->b<F0\/F1<=b) (hb:Below n₀ w0 W) (hF:F1<=W.heap.size)
  (hown:w1.ownsRow n₀ 160 9 (Lt g' (rs.length+1) cap') (rs.length+1) (rs.flatMap rcells++rcells r)) (hgrow:(W.alloc tmp).grownBy w1 v.ownBlock) (hat:(Value.slice (some (Y g' 0)) (rs.length+1) cap').ownBlock=v.ownBlock\/(Value.slice (some (Y g' 0)) (rs.length+1) cap').ownBlock=some (W.alloc tmp).heap.size):
  Boxed w1 B 244 v/\Lst w0 n₀ B F0 F1 (rs++[r]) (w1.setCell (Y B 0) (Lt g' (rs.length+1) cap'))/\KeepsOthers W (w1.setCell (Y B 0) (Lt g' (rs.length+1) cap'))/\Below n₀ W (w1.setCell (Y B 0) (Lt g' (rs.length+1) cap'))/\
   (∀ b,b<W.heap.size->b≠B->some b≠v.ownBlock->(w1.setCell (Y B 0) (Lt g' (rs.length+1) cap')).heap[b]?=W.heap[b]?):=by
 obtain ⟨hv1,hv2,hr2,hk2,hb2⟩:=hv.appended (by decide) hrow (Nat.le_trans h1 hb.size) hB hown hgrow;refine ⟨hv1,⟨⟨_,hv2,by simpa using hr2,sn,fun b hb'=>?_⟩,hb.trans hb2,Nat.le_trans hF hb2.size⟩,hk2,hb2,fun b hlt hne hno=>?_⟩
 ·rcases hat with e|e
  ·exact ho b (by rw [<- e]; exact hb')
  ·rw [e,aa1] at hb'
   cases hb';exact .inr G
 ·rw [Below.heap_setCell _ _ _ _ (by exact hne),hgrow.block b (by rw [aa1]; omega) hno]
  exact (aa0 W tmp).block b hlt
theorem dn6 {k b:Nat} {xs:List Value} (h:W.ownsRow n₀ 160 9 v k xs) {t:TypeId} {C:Array Value} (hb:Blk t W b C) (ht:t≠160):some b≠v.ownBlock:=by
 rcases h.2 with ⟨rfl,_⟩|⟨g,cap,cur,rfl,_,hg,_⟩
 ·simp [Value.ownBlock]
 ·intro e
  have e:b=g:=by simpa [Value.ownBlock] using e
  subst e;unfold Blk at hb;rw [hb] at hg
  cases hg;exact ht rfl
variable {tS:TypeId} {XS:List Value}
attribute [local go_sem] Oper.semAt_some
theorem am8:∀ args w,(callFunc 125 args).run prog w= .ok (.enter 125 args) w:=enters_of Tryz.func125 X rfl
theorem bi2:∀ args w,(callFunc 159 args).run prog w= .ok (.enter 159 args) w:=enters_of Tryz.func159 X rfl
theorem KeepT.of_below (h:Below W.heap.size W W'):KeepT t W W':=fun _ _ hb=>hb.held h
theorem KeepT.put (W:World) (l:Nat) (o o':Obj) (h:W.heap[l]?=some o) (hc:o.isCells=false):KeepT t W (W.putObj l o'):=fun b C hb=>by
 unfold Blk at hb ⊢;refine (World.putObj_heap_other fun e=>?_).trans hb;rw [e,h] at hb
 cases hb
 cases hc
def KqO (L:List Nat) (A B:World):Prop:=KeepS L A B/\KeepT 225 A B
theorem au9 {W0:World} {B1 B2 B3 n:Nat} {f:Pk->Option Bool} {xs:List Pk} {es:List (ElP f)} (h:ItP W0 B1 B2 v o n f xs) (hE:EsP f xs es)
  (h3:Blk 222 W0 B3 #[.func (.func 156) #[] #[K B1,K B2]]) (W:World) (hW:Below W0.heap.size W0 W):
  Drives prog 125 #[K B3] arO es.length (fun ys=>ys=es) (KqO (itL B1 B2 v o)) W:=fun l J hJ hY h0=>by
 refine (callsIn_wide.1 (owns1 (h.held hW) hE (h3.held hW) (.loop l) J (fun _ _=>False) hJ (fun _ _ _ _ h _ _=>h) (fun pre x W1 hj hs hl=>?_) h0 0)).mono ?_
 ·refine Fv.At.mono (R:=_) (hY pre x W1 hj hs hl) ?_
  rintro e W' ⟨rfl,h1,h2,h3⟩;refine ⟨true,rfl,h1,?_⟩;rw [if_pos rfl];exact ⟨h2,h3.1,h3.2⟩
 ·rintro e W' ⟨h1,h2|⟨_,h2⟩⟩
  ·exact ⟨h1,es,rfl,h2⟩
  ·exact h2.elim
theorem ac6 {P:Program} {ops:Array Oper} {o:Oper} {a:Act} {K:Act->World->Prop} {Q:Exit->Act->World->Prop} {E:Prop} (hgd:o.guard=none) (s x:Operand) (t:TypeId)
  (ho:o.op= .call { callee:= .builtin .append,args:=#[s,x],argTypes:=#[t,t] }) (v xv v':Value) (w0 w':World) (hw0:w=w0) (hs:a.eval s=v) (hx:a.eval x=xv)
  (hr:(Builtin.append_ #[t,t] o.type #[v,xv]).run P w0= .ok v' w') (h:K (a.put o.dst v') w'):if Region.wanted o (yielded ops a.tmps)=true then Oper.wp P o a w K Q else E:=by
 have hw:Region.wanted o (yielded ops a.tmps)=true:=by simp [Region.wanted,hgd]
 rw [if_pos hw];subst hw0;unfold Oper.wp execOp;simp only [ho,resolve,invoke,builtin,Sem.run_bind,Sem.run_pure,Result.andThen_ok,List.map_toArray,List.map_cons,List.map_nil,hs,hx,hr];exact h
theorem ds7 {d:Nat} {fl:Option Nat} {id N:Nat} {S:Sm} (h:Notes tS XS w d o fl id N S):
  Kc 144 #[.pointer (some (Y d 0))] w fun e w'=>∃ v xs ys,∃ es:List (ElP S.own),∃ fs:List (ElK S.floor),e= .returned v/\
   EsP S.own xs es/\xs.Pairwise ltP/\(∀ x,x∈xs↔x.ok/\(S.own x).isSome=true)/\EsK S.floor ys fs/\ys.Pairwise ltK/\(∀ x,x∈ys↔x.ok/\(S.floor x).isSome=true)/\
   w'.ownsRow w.heap.size 160 9 v (es.map rO++rL S.lease++fs.map rF).length ((es.map rO++rL S.lease++fs.map rF).flatMap rcells)/\(v= .slice none 0 0↔es.map rO++rL S.lease++fs.map rF=[])/\Bw w w':=by
 obtain ⟨n,m,-,hS⟩:=h;obtain ⟨i0,hi,hz0,hz1,hz2⟩:=info_parts infoRec;have hb1:=aa0 w (.cells #[.slice none 0 0] 244);have hz:=aa1 w (.cells #[.slice none 0 0] 244);have hBx:=Boxed.new w 244 (.slice none 0 0);have HO:=bb5 (hS.held hb1);have dl:=hS.head.lt;refine (callsIn_wide (n:=9)).1 ?_;refine callsIn_of_wp_marks Tryz.func144 rfl trivial ?_ rfl;simp only [Tryz.ntmps144,List.size_toArray,List.length_cons,List.length_nil,Nat.reduceAdd,Nat.reduceSub,Array.replicate_succ,Array.replicate_zero,List.push_toArray,List.append_toArray,List.nil_append,List.cons_append];have HI:=H4 hi hz0 hz1 hz2;have HS:=Z hS;clear hi hz0 hz1 hz2 hS
 gi_wp2
 refine ⟨trivial,(aa7 HO).mono ?_⟩;rintro e w2 ⟨B1,B2,B3,v1,o1,xs,rfl,hI,h3,hfr,hB3,hB⟩;clear HO
 gi_wp2
 generalize w.alloc _=w1 at*;have hsz2:=hB.size;obtain ⟨es,hE⟩:=bt7 (f:=S.own) (fun _ _ _=>rfl) xs (fun x hx=>(hI.mem x).1 hx);have hlenE:es.length<=1000000000:=by
  have:es.length=xs.length:=by rw [<- show es.map (·.key)=xs from hE]; simp
  have:=hI.len;omega
 have hL1:Lst w w.heap.size w.heap.size w1.heap.size w2.heap.size [] w2:=by
  refine ⟨⟨.slice none 0 0,(hB.block _ G).trans hBx,World.ownsRow_nil _ _ _ _,sn,fun b hb=>by cases hb⟩,next hb1 hB,Nat.le_refl _⟩
 have h1w:w.heap.size<=w.heap.size:=Nat.le_refl _;refine bc5 (α:=ElP S.own) rfl am8 (au9 hI hE h3) (fun _=>rfl) (fun h k=>⟨h.1.trans k.1,fun b C hb=>k.2 b C (h.2 b C hb)⟩) (fun W l o o' hl h hc hw=>⟨af8 hI.lt W l o o' hl h hc hw,KeepT.put W l o o' h hc⟩)
  (fun pre W=>Lst w w.heap.size w.heap.size w1.heap.size w2.heap.size (pre.map rO) W) (dj4 _ h1w G) hL1
  (fun x a' W=>∃ Bx,Blk 28 W Bx #[U x.key.a,I x.key.n]/\a'={ tmps:=#[.pointer (some (Y d 0)),undef,.slice none 0 0,.pointer (some (Y w.heap.size 0)),.pointer (some (Y Bx 0)),O x.val,undef,undef,.pointer (some (Y d 0)),.func (.func 125) #[] #[.pointer (some (Y B3 0))],.agg #[U x.key.a,I x.key.n],O x.val,undef,undef,undef,undef,undef,undef,undef,undef,undef,undef,undef,undef,undef,undef,undef,undef,undef,undef,undef,undef,undef,undef,undef,undef,undef,undef,undef,undef,undef,undef,undef,undef,undef,undef],defers:=[] })
  ?_ ?assign ?body ?done
 ·rintro x a' s W W' row ⟨Bx,hp,rfl⟩ hg hr
  exact ⟨Bx,hp.grown hg hr,rfl⟩
 case assign=>
  rintro l pre ⟨⟨xa,xn⟩,y,hok,hfit,hhas⟩ W K hL hK;have hb:=aa0 W (.cells #[U xa,I xn] 28);have hl:=hL.2.2;simp only [arO,clP]
  gi_wp2
  exact hK _ _ (ac7 _ hb) ⟨.of_below (fun b hb'=>Nat.lt_of_lt_of_le (hI.lt b hb') hl) hb,.of_below hb⟩ (hL.alloc h1w _) ⟨_,Blk.new _ _ _,rfl⟩
 case body=>
  rintro l pre ⟨⟨xa,xn⟩,y,hok,hfit,hhas⟩ a' W ⟨⟨v,hv,hrow,hnil,ho⟩,hBl,hF⟩ ⟨Bx,hp,rfl⟩ hlt;have cB:=hv.cell;have p0:=hp.at_ 0;have p1:=hp.at_ 1;have hle:=hBl.size;obtain ⟨hi,hz0,hz1,hz2⟩:=HI.out;have hrl:(pre.map rO).length=pre.length:=sn
  gi_wp2_with (first
   |(gi_at_builtin; go_loud (refine wpListIn_append_own_at _ rfl _ _ 244 rfl w.heap.size 160 i0 _ 9 56 Tryz.underlying244 hi hz0 hz1 hz2 rfl (by decide) _ _ _ rfl (hrow.alloc _) ⟨W.heap.size,0,none⟩ 1 1 (rcells (rO ⟨⟨xa,xn⟩,y,hok,hfit,hhas⟩)) rfl rfl (fun j u hj=>(br9 _ _ _ j).trans (by rw [<- hj]; simp [rcells,rcl,rO])) (by simp [Value.oneCell',rcells,rcl,rO]) (by unfold maxLen; omega) G (by simp; omega) ?_)
     intro v' w3 hown' hgrow _ hat;obtain ⟨g',cap',rfl⟩:=ownsRow_succ hown';obtain ⟨hv1,hl2,hk2,hb2,hoth⟩:=Lst.push h1w (Nat.le_refl _) hv hrow ho hBl hF hown' hgrow hat;have hc1:=hv1.cell;have hf1:=hv1.frozen)
   |gi_in)
  rw [hrl] at hl2 hk2 hoth;refine ⟨hk2.from _,⟨⟨fun b hb=>?_,hk2.size⟩,fun b C hb=>?_⟩,?_⟩
  ·have hb1:=hfr b hb
   have hb2:=hI.lt b hb;refine hoth b G G fun e=>?_
   rcases ho b e.symm with h|h<;>omega
  ·exact (hoth b hb.lt (fun e=>by subst e; exact hb.ne (show Blk 244 W w.heap.size #[v] from hv) (by decide) rfl) (dn6 hrow hb (by decide))).trans hb
  ·rw [hz] at hl2
   exact hl2
 case done=>
  rintro D es' W hD rfl hL hK;have hSW:=HS.out.held hL.2.1;have hDW:D<W.heap.size:=(Array.getElem?_eq_some_iff.1 hK).1;have c1:=hSW.head.at_ 1;have HF:=by3 hSW;have hDw:w.heap.size<=D:=G
  have HE:=H3 hE hI.srt hI.mem;have hk:=hI.len;have hSWx:=hSW;clear hI h3 hfr hB3 hB hL1 hSW hb1 hBx hE;by_cases hls:S.lease=0
  ·have hlb:((S.lease:Int) !=0)=false:=by rw [hls]; rfl
   have hrs:es'.map rO++rL S.lease=es'.map rO:=by unfold rL; rw [if_pos hls]; simp
   have HL:=Z hrs;have HLS:=Z hls;clear hls
   gi_wp2
   have hL0:=hL;have hKW:=hK;have hrs1:(es'.map rO).length<=1000000001:=by rw [List.length_map]; omega
   refine ⟨trivial,(aa7 HF).mono ?_⟩;rintro e w4 ⟨C1,C2,v2,o2,ys,rfl,hI2,hfr2,hB2⟩;clear HF
   gi_wp2
   have hsz4:=hB2.size;obtain ⟨fs,hE2⟩:=cx9 (f:=S.floor) HS.out.small ys (fun x hx=>(hI2.mem x).1 hx);have hlenF:fs.length<=1000000000:=by
    have:fs.length=ys.length:=by rw [<- show fs.map (·.key)=ys from hE2]; simp
    have:=hI2.len;omega
   have hL4:Lst w w.heap.size w.heap.size W.heap.size w4.heap.size (es'.map rO++([]:List (ElK S.floor)).map rF) w4:=by
    have:=hL0.rebase hB2 h1w;simpa using this
   have hD4:w4.heap[D]?=some (.deferred (some [])):=(hB2.block D hDW).trans hKW;refine wpIn_rangeFunc_ownH (α:=ElK S.floor) rfl G (gf:=159) (lb:=#[.pointer (some (Y C1 0)),.pointer (some (Y C2 0))]) rfl trivial bi2 (bh4 hI2 hE2 8) KeepS.trans (af8 hI2.lt) (Below.refl _ _) (fun _=>rfl)
    (fun pre V9=>Lst w w.heap.size w.heap.size W.heap.size w4.heap.size (es'.map rO++pre.map rF) V9/\V9.heap[D]?=some (.deferred (some [])))
    (fun _ _ _=>False)
    (OwnFrom.and (dj4 (B':=w4.heap.size) _ h1w G) (fun _ _ _ _ h hg hr=>ac0 hg hr G h))
    (fun _ _ _ _ _ h _ _=>h) ⟨hL4,hD4⟩
    (fun x a' V8=>∃ Bk Bd,Blk 185 V8 Bk #[U x.key.a,I x.key.n,U x.key.id]/\Blk 69 V8 Bd #[U x.val.1,V x.val.2]/\a'={ tmps:=#[.pointer (some (Y d 0)),undef,.slice none 0 0,.pointer (some (Y w.heap.size 0)),undef,undef,.pointer (some (Y Bk 0)),.pointer (some (Y Bd 0)),.pointer (some (Y d 0)),.func (.func 125) #[] #[.pointer (some (Y B3 0))],undef,undef,undef,undef,undef,undef,undef,undef,.pointer (some (Y d 0)),.pointer (some (Y d 0)),.pointer (some (Y d 1)),U S.lease,O false,undef,undef,undef,undef,undef,undef,undef,undef,undef,.pointer (some (Y d 0)),.func (.func 159) #[] #[.pointer (some (Y C1 0)),.pointer (some (Y C2 0))],.agg #[U x.key.a,I x.key.n,U x.key.id],.agg #[U x.val.1,V x.val.2],undef,undef,undef,undef,undef,undef,undef,undef,undef,undef],defers:=[] })
    ?_ ?assign ?body ?done ?stop
   ·rintro x a' s W1 W2 row ⟨Bk,Bd,hp,hd,rfl⟩ hg hr
    exact ⟨Bk,Bd,hp.grown hg hr,hd.grown hg hr,rfl⟩
   case assign=>
    rintro l pre ⟨⟨xa,xn,xi⟩,⟨s,y⟩,hok,hfit,hhas⟩ W1 K ⟨hL,hd⟩ hK;have hP:=(Blk.new W1 185 #[U xa,I xn,U xi]).more (.cells #[U s,V y] 69);have hO:=Blk.new (W1.alloc (.cells #[U xa,I xn,U xi] 185)) 69 #[U s,V y];rw [aa1] at hO;have hbb:=next (aa0 W1 (.cells #[U xa,I xn,U xi] 185)) (aa0 (W1.alloc (.cells #[U xa,I xn,U xi] 185)) (.cells #[U s,V y] 69));have hl:=hL.2.2;have hdl:D<W1.heap.size:=(Array.getElem?_eq_some_iff.1 hd).1;have hL2:=hL.held hbb h1w;have hd2:=(hbb.block D hdl).trans hd;simp only [arK,clK,dV]
    gi_wp2
    exact hK _ _ (ac7 _ hbb) (.of_below (fun b hb'=>Nat.lt_of_lt_of_le (hI2.lt b hb') hl) hbb) ⟨hL2,hd2⟩ ⟨_,_,hP,hO,rfl⟩
   case body=>
    rintro l pre ⟨⟨xa,xn,xi⟩,⟨s,y⟩,hok,hfit,hhas⟩ a' W1 _ _ ⟨⟨⟨v,hv,hrow,hnil,ho⟩,hBl,hF⟩,hd⟩ ⟨Bk,Bd,hp,hdd,rfl⟩ hlt;have cB:=hv.cell;have p0:=hp.at_ 0;have p1:=hp.at_ 1;have p2:=hp.at_ 2;have d0:=hdd.at_ 0;have d1:=hdd.at_ 1;have hle:=hBl.size;obtain ⟨hi,hz0,hz1,hz2⟩:=HI.out;have hrl:(es'.map rO++pre.map rF).length<=3000000000:=by
     have h1:(es'.map rO).length<=1000000001:=hrs1;have h2:(pre.map rF).length=pre.length:=sn;rw [List.length_append,h2];omega
    generalize hR:es'.map rO++pre.map rF=R at*
    gi_wp2_with (first
     |(gi_at_builtin; refine wpListIn_append_own_at _ rfl _ _ 244 rfl w.heap.size 160 i0 _ 9 56 Tryz.underlying244 hi hz0 hz1 hz2 rfl (by decide) _ _ _ rfl (hrow.alloc _) ⟨W1.heap.size,0,none⟩ 1 1 (rcells (rF ⟨⟨xa,xn,xi⟩,(s,y),hok,hfit,hhas⟩)) rfl rfl (fun j u hj=>(br9 _ _ _ j).trans (by rw [<- hj]; simp [rcells,rcl,rF])) (by simp [Value.oneCell',rcells,rcl,rF]) (by unfold maxLen; omega) G (by simp; omega) ?_
       intro v' w3 hown' hgrow _ hat;obtain ⟨g',cap',rfl⟩:=ownsRow_succ hown';obtain ⟨hv1,hl2,hk2,hb2,hoth⟩:=Lst.push h1w (Nat.le_refl _) hv hrow ho hBl hF hown' hgrow hat;have hc1:=hv1.cell;have hf1:=hv1.frozen)
     |gi_in)
    refine ⟨hk2.from _,⟨fun b hb=>?_,hk2.size⟩,?_,?_⟩
    ·have hb1:=hfr2 b hb
     have hb2:=hI2.lt b hb;refine hoth b G G fun e=>?_
     rcases ho b e.symm with h|h<;>omega
    ·have h3:=hl2
     generalize w3.setCell (Y w.heap.size 0) (.slice (some (Y g' 0)) (R.length+1) cap')=V7 at h3 ⊢;rw [<- hR] at h3;simpa [rF] using h3
    ·exact hk2.same _ _ hd rfl
   case done=>
    rintro D2 fs' W2 hD2 rfl ⟨⟨⟨v,hv,hrow,hnil,ho⟩,hBl,hF⟩,hd⟩ hK2;have cB:=hv.cell;have hBw:=hBl;obtain ⟨hE,hsrt,hmem⟩:=HE.out;have hsrt2:=hI2.srt;have hmem2:=hI2.mem;have hDD:D≠D2:=G
    have hd3:(W2.putObj D2 (.deferred none)).heap[D]?=some (.deferred (some [])):=(World.putObj_heap_other hDD).trans hd;clear hI2 hfr2 hB2 hL4 hD4
    gi_wp2
    refine ⟨by simp,.inl ⟨_,_,rfl,run_takeDeferred hK2,sn,.inl ⟨_,_,rfl,run_takeDeferred hd3,?_⟩⟩⟩;have h3:=ownsRow_putObj (ownsRow_putObj hrow (.deferred none) hK2 rfl) (.deferred none) hd3 rfl;refine ⟨_,results_tmp rfl _ _ _,v,xs,ys,es',fs',rfl,hE,hsrt,hmem,hE2,hsrt2,hmem2,?_,?_,(hBw.grown (grownBy_putObj' _ _ _) hBw.size (fun k e=>by cases e; omega)).grown (grownBy_putObj' _ _ _) (by rw [World.putObj_size]; exact hBw.size) (fun k e=>by cases e; omega)⟩
    ·rw [HL.out]; exact h3
    ·rw [HL.out]; exact hnil
   case stop=>
    rintro D2 c pre W2 _ _ h _;exact h.elim
  ·have hlb:((S.lease:Int) !=0)=true:=by simp [hls]
   have hrs:es'.map rO++rL S.lease=es'.map rO++[⟨3,0,0,0,0,0,false,S.lease,0⟩]:=by unfold rL; rw [if_neg hls]
   have HL:=Z hrs;have HLS:=Z hls;clear hls hrs;have hdB:=hK;obtain ⟨⟨v,hv,hrow,hnil,ho⟩,hBl,hF⟩:=hL.drew h1w;have HSW:=Z hSWx;have hle:=hBl.size;obtain ⟨hi,hz0,hz1,hz2⟩:=HI.out;have hlen:(es'.map rO).length<=1000000000:=by rw [List.length_map]; exact hlenE
   have hRL:=hL;generalize hR0:es'.map rO=R at*;have HR:=Z hR0;clear hR0;obtain ⟨v',w3,hrun,hown',hgrow,-,hat⟩:=run_append_own_at (P:=prog) (W.drew.alloc (.cells #[I 3,U 0,U 0,U 0,U 0,I 0,O false,U S.lease,V 0] 160)) w.heap.size 244 244 160 i0 _ 9 56 Tryz.underlying244 hi hz0 hz1 hz2 rfl (by decide) v _ _ (hrow.alloc _) ⟨W.heap.size,0,none⟩ 1 1 (rcells ⟨3,0,0,0,0,0,false,S.lease,0⟩) rfl
    (fun j u hj=>(br9 W.drew _ _ j).trans (by rw [<- hj]; simp [rcells,rcl])) (by simp [Value.oneCell',rcells,rcl]) (by unfold maxLen; omega) G (by simp; omega)
   obtain ⟨g',cap',rfl⟩:=ownsRow_succ hown';obtain ⟨hv1,hl2,hk2,hb2,hoth⟩:=Lst.push (r:=⟨3,0,0,0,0,0,false,S.lease,0⟩) h1w (Nat.le_refl _) hv hrow ho hBl hF hown' hgrow hat;have hrun1:(Builtin.append_ #[244,244] 244 #[v,.slice (some (Y W.heap.size 0)) 1 1]).run prog (W.alloc (.cells #[I 3,U 0,U 0,U 0,U 0,I 0,O false,U S.lease,V 0] 160)).drew= .ok (.slice (some (Y g' 0)) (R.length+1) cap') w3:=hrun;have hc1:=hv1.cell;have hf1:=hv1.frozen;have cB0:W.cell? (Y w.heap.size 0)=some v:=hv.cell;have cB1:W.drew.cell? (Y w.heap.size 0)=some v:=hv.cell;have hBlt:w.heap.size<W.heap.size:=hv.lt;have cB2:=held (aa0 W.drew (.cells #[I 3,U 0,U 0,U 0,U 0,I 0,O false,U S.lease,V 0] 160)) cB1;have cB3:(W.alloc (.cells #[I 3,U 0,U 0,U 0,U 0,I 0,O false,U S.lease,V 0] 160)).drew.cell? (Y w.heap.size 0)=some v:=cB2;have c2:W.drew.cell? (Y d 1)=_:=c1;have c3:=held (aa0 W.drew (.cells #[I 3,U 0,U 0,U 0,U 0,I 0,O false,U S.lease,V 0] 160)) c2
   gi_wp2_with (fail)
   refine wpIn_wide.2 ?_;refine wp_mono (Q:=fun e a' w'=>match e with| .normal=>a'={ tmps:=#[.pointer (some (Y d 0)),undef,.slice none 0 0,.pointer (some (Y w.heap.size 0)),undef,undef,undef,undef,.pointer (some (Y d 0)),.func (.func 125) #[] #[.pointer (some (Y B3 0))],undef,undef,undef,undef,undef,undef,undef,undef,.pointer (some (Y d 0)),.pointer (some (Y d 0)),.pointer (some (Y d 1)),U S.lease,O true,v,.pointer (some (Y d 0)),.pointer (some (Y d 0)),.pointer (some (Y d 1)),U S.lease,.agg #[U S.lease,V 0],.agg #[I 3,U 0,U 0,U 0,U 0,I 0,O false,U S.lease,V 0],.slice (some (Y W.heap.size 0)) 1 1,(.slice (some (Y g' 0)) (R.length+1) cap'),undef,undef,undef,undef,undef,undef,undef,undef,undef,undef,undef,undef,undef,undef],defers:=[{ target:= .collected D,args:=#[] }] }/\w'=w3.setCell (Y w.heap.size 0) (.slice (some (Y g' 0)) (R.length+1) cap')|_=>False) ?_ ?_
   ·go_region_law (refine ac6 rfl _ _ _ rfl _ _ _ _ _ ?_ ?_ ?_ hrun ?_<;>first|rfl|skip)
    all_goals exact ⟨rfl,rfl⟩
   rintro e a' w' he;have he2:e= .normal:=by cases e<;>first|rfl|exact he.elim
   subst he2;obtain ⟨rfl,rfl⟩:=he;generalize w3.setCell (Y w.heap.size 0) (.slice (some (Y g' 0)) (R.length+1) cap')=W5 at*;have hKW:W5.heap[D]?=some (.deferred (some [])):=hk2.same _ _ hdB rfl;have hL0:=hl2;clear hK hDW c1 HF hrun hrun1 hown' hgrow hat hv1 hc1 hf1 cB0 cB1 cB2 cB3 c2 c3 hrow hv ho hnil hBl hF hk2 hb2 hoth hl2 hdB hle HSW hSWx hL hRL;have hDW:D<W5.heap.size:=(Array.getElem?_eq_some_iff.1 hKW).1;have HF:=by3 (HS.out.held hL0.2.1);have hrs1:(R++[(⟨3,0,0,0,0,0,false,S.lease,0⟩:Rc)]).length<=1000000001:=by rw [List.length_append]; simp; omega
   gi_wp2
   refine ⟨trivial,(aa7 HF).mono ?_⟩;rintro e w4 ⟨C1,C2,v2,o2,ys,rfl,hI2,hfr2,hB2⟩;clear HF
   gi_wp2
   have hsz4:=hB2.size;obtain ⟨fs,hE2⟩:=cx9 (f:=S.floor) HS.out.small ys (fun x hx=>(hI2.mem x).1 hx);have hlenF:fs.length<=1000000000:=by
    have:fs.length=ys.length:=by rw [<- show fs.map (·.key)=ys from hE2]; simp
    have:=hI2.len;omega
   have hL4:Lst w w.heap.size w.heap.size W5.heap.size w4.heap.size ((R++[(⟨3,0,0,0,0,0,false,S.lease,0⟩:Rc)])++([]:List (ElK S.floor)).map rF) w4:=by
    have:=hL0.rebase hB2 h1w;simpa using this
   have hD4:w4.heap[D]?=some (.deferred (some [])):=(hB2.block D hDW).trans hKW;refine wpIn_rangeFunc_ownH (α:=ElK S.floor) rfl G (gf:=159) (lb:=#[.pointer (some (Y C1 0)),.pointer (some (Y C2 0))]) rfl trivial bi2 (bh4 hI2 hE2 8) KeepS.trans (af8 hI2.lt) (Below.refl _ _) (fun _=>rfl)
    (fun pre V9=>Lst w w.heap.size w.heap.size W5.heap.size w4.heap.size ((R++[(⟨3,0,0,0,0,0,false,S.lease,0⟩:Rc)])++pre.map rF) V9/\V9.heap[D]?=some (.deferred (some [])))
    (fun _ _ _=>False)
    (OwnFrom.and (dj4 (B':=w4.heap.size) _ h1w G) (fun _ _ _ _ h hg hr=>ac0 hg hr G h))
    (fun _ _ _ _ _ h _ _=>h) ⟨hL4,hD4⟩
    (fun x a' V8=>∃ Bk Bd,Blk 185 V8 Bk #[U x.key.a,I x.key.n,U x.key.id]/\Blk 69 V8 Bd #[U x.val.1,V x.val.2]/\a'={ tmps:=#[.pointer (some (Y d 0)),undef,.slice none 0 0,.pointer (some (Y w.heap.size 0)),undef,undef,.pointer (some (Y Bk 0)),.pointer (some (Y Bd 0)),.pointer (some (Y d 0)),.func (.func 125) #[] #[.pointer (some (Y B3 0))],undef,undef,undef,undef,undef,undef,undef,undef,.pointer (some (Y d 0)),.pointer (some (Y d 0)),.pointer (some (Y d 1)),U S.lease,O true,v,.pointer (some (Y d 0)),.pointer (some (Y d 0)),.pointer (some (Y d 1)),U S.lease,.agg #[U S.lease,V 0],.agg #[I 3,U 0,U 0,U 0,U 0,I 0,O false,U S.lease,V 0],.slice (some (Y W.heap.size 0)) 1 1,(.slice (some (Y g' 0)) (R.length+1) cap'),.pointer (some (Y d 0)),.func (.func 159) #[] #[.pointer (some (Y C1 0)),.pointer (some (Y C2 0))],.agg #[U x.key.a,I x.key.n,U x.key.id],.agg #[U x.val.1,V x.val.2],undef,undef,undef,undef,undef,undef,undef,undef,undef,undef],defers:=[] })
    ?_ ?assign ?body ?done ?stop
   ·rintro x a' s W1 W2 row ⟨Bk,Bd,hp,hd,rfl⟩ hg hr
    exact ⟨Bk,Bd,hp.grown hg hr,hd.grown hg hr,rfl⟩
   case assign=>
    rintro l pre ⟨⟨xa,xn,xi⟩,⟨s,y⟩,hok,hfit,hhas⟩ W1 K ⟨hL,hd⟩ hK;have hP:=(Blk.new W1 185 #[U xa,I xn,U xi]).more (.cells #[U s,V y] 69);have hO:=Blk.new (W1.alloc (.cells #[U xa,I xn,U xi] 185)) 69 #[U s,V y];rw [aa1] at hO;have hbb:=next (aa0 W1 (.cells #[U xa,I xn,U xi] 185)) (aa0 (W1.alloc (.cells #[U xa,I xn,U xi] 185)) (.cells #[U s,V y] 69));have hl:=hL.2.2;have hdl:D<W1.heap.size:=(Array.getElem?_eq_some_iff.1 hd).1;have hL2:=hL.held hbb h1w;have hd2:=(hbb.block D hdl).trans hd;simp only [arK,clK,dV]
    gi_wp2
    exact hK _ _ (ac7 _ hbb) (.of_below (fun b hb'=>Nat.lt_of_lt_of_le (hI2.lt b hb') hl) hbb) ⟨hL2,hd2⟩ ⟨_,_,hP,hO,rfl⟩
   case body=>
    rintro l pre ⟨⟨xa,xn,xi⟩,⟨s,y⟩,hok,hfit,hhas⟩ a' W1 _ _ ⟨⟨⟨v,hv,hrow,hnil,ho⟩,hBl,hF⟩,hd⟩ ⟨Bk,Bd,hp,hdd,rfl⟩ hlt;have cB:=hv.cell;have p0:=hp.at_ 0;have p1:=hp.at_ 1;have p2:=hp.at_ 2;have d0:=hdd.at_ 0;have d1:=hdd.at_ 1;have hle:=hBl.size;obtain ⟨hi,hz0,hz1,hz2⟩:=HI.out;have hrl:((R++[(⟨3,0,0,0,0,0,false,S.lease,0⟩:Rc)])++pre.map rF).length<=3000000000:=by
     have h1:((R++[(⟨3,0,0,0,0,0,false,S.lease,0⟩:Rc)])).length<=1000000001:=hrs1;have h2:(pre.map rF).length=pre.length:=sn;rw [List.length_append,h2];omega
    generalize hR:(R++[(⟨3,0,0,0,0,0,false,S.lease,0⟩:Rc)])++pre.map rF=R at*
    gi_wp2_with (first
     |(gi_at_builtin; refine wpListIn_append_own_at _ rfl _ _ 244 rfl w.heap.size 160 i0 _ 9 56 Tryz.underlying244 hi hz0 hz1 hz2 rfl (by decide) _ _ _ rfl (hrow.alloc _) ⟨W1.heap.size,0,none⟩ 1 1 (rcells (rF ⟨⟨xa,xn,xi⟩,(s,y),hok,hfit,hhas⟩)) rfl rfl (fun j u hj=>(br9 _ _ _ j).trans (by rw [<- hj]; simp [rcells,rcl,rF])) (by simp [Value.oneCell',rcells,rcl,rF]) (by unfold maxLen; omega) G (by simp; omega) ?_
       intro v' w3 hown' hgrow _ hat;obtain ⟨g',cap',rfl⟩:=ownsRow_succ hown';obtain ⟨hv1,hl2,hk2,hb2,hoth⟩:=Lst.push h1w (Nat.le_refl _) hv hrow ho hBl hF hown' hgrow hat;have hc1:=hv1.cell;have hf1:=hv1.frozen)
     |gi_in)
    refine ⟨hk2.from _,⟨fun b hb=>?_,hk2.size⟩,?_,?_⟩
    ·have hb1:=hfr2 b hb
     have hb2:=hI2.lt b hb;refine hoth b G G fun e=>?_
     rcases ho b e.symm with h|h<;>omega
    ·have h3:=hl2
     generalize w3.setCell (Y w.heap.size 0) (.slice (some (Y g' 0)) (R.length+1) cap')=V7 at h3 ⊢;rw [<- hR] at h3;simpa [rF] using h3
    ·exact hk2.same _ _ hd rfl
   case done=>
    rintro D2 fs' W2 hD2 rfl ⟨⟨⟨v,hv,hrow,hnil,ho⟩,hBl,hF⟩,hd⟩ hK2;have cB:=hv.cell;have hBw:=hBl;obtain ⟨hE,hsrt,hmem⟩:=HE.out;have hsrt2:=hI2.srt;have hmem2:=hI2.mem;have hDD:D≠D2:=G
    have hd3:(W2.putObj D2 (.deferred none)).heap[D]?=some (.deferred (some [])):=(World.putObj_heap_other hDD).trans hd;clear hI2 hfr2 hB2 hL4 hD4
    gi_wp2
    refine ⟨by simp,.inl ⟨_,_,rfl,run_takeDeferred hK2,sn,.inl ⟨_,_,rfl,run_takeDeferred hd3,?_⟩⟩⟩;have h3:=ownsRow_putObj (ownsRow_putObj hrow (.deferred none) hK2 rfl) (.deferred none) hd3 rfl;refine ⟨_,results_tmp rfl _ _ _,v,xs,ys,es',fs',rfl,hE,hsrt,hmem,hE2,hsrt2,hmem2,?_,?_,(hBw.grown (grownBy_putObj' _ _ _) hBw.size (fun k e=>by cases e; omega)).grown (grownBy_putObj' _ _ _) (by rw [World.putObj_size]; exact hBw.size) (fun k e=>by cases e; omega)⟩
    ·rw [HR.out,HL.out]; exact h3
    ·rw [HR.out,HL.out]; exact hnil
   case stop=>
    rintro D2 c pre W2 _ _ h _;exact h.elim
end
section
open Go.RowKit Go.Lib Go.Sort Fm Sb
variable {a b cap lo m n off sz:Nat}{d d' d0:Array De}{w w0:World}{es:List En}
theorem dd3 {blk:Nat} (R:RW w0 blk off d0) (hs:d.size=d0.size) (hz:d.size=sz) (S:SW w0 blk off d w) (hab:a<=b) (hb:b<=d.size) (hsz:d.size<4611686018427387904) (hi:∀ p q,a<=p->p<q->q<b->d[p]!.i<d[q]!.i):
  Q 162 #[Mt blk off sz cap,I a,I b,FV] w fun e w'=>e= .returned (.tuple #[])/\∃ d',SW w0 blk off d' w'/\PermIn a b d d'/\Srt a b d':=by
 subst hz;have hI:=ct6 hab hb hi;refine (show Q 162 #[Mt blk off d.size cap,I a,I b,.func (.func 102) #[] #[]] w fun e w'=>e= .returned (.tuple #[])/\∃ n os,w'=sortWorldK dcl 3 w blk off n (Sort.insertionSort (ltOf cf) d a b) os from
  AnyQ.insertionSortCmpFunc Tryz.insE 3 (fun w=>by kernel_rfl) (fun w=>by kernel_rfl) dcl bd5 cl7 cf 102 #[] blk off cap a b d w (fun args w=>by kernel_rfl) (cm1 _ _ _ _) (S.holds R.hblk R.hH hs) (S.lt R.hblk) hab hb hsz).mono ?_
 rintro e w' ⟨he,n,os,hw⟩;exact ⟨he,_,by rw [hw]; exact S.on R.hblk n _ os hI.1.1,hI.1,hI.2⟩
def Raw (lo n:Nat) (d:Array De):Prop:=∀ p,lo<=p->p<n->d[p]!.i=p
structure Run (lo hi:Nat) (d:Array De):Prop where
 srt:Srt lo hi d
 bnd:∀ p,lo<=p->p<hi->lo<=d[p]!.i/\d[p]!.i<hi
theorem Raw.keep (h:Raw lo n d) (hp:PermIn a b d d') (hb:b<=lo):Raw lo n d':=fun p h1 h2=>by rw [hp.2.1 p (.inr G)]; exact h p h1 h2
theorem Raw.later {lo':Nat} (h:Raw lo n d) (hl:lo<=lo'):Raw lo' n d:=fun p h1 h2=>h p G h2
theorem Raw.inc (h:Raw lo n d) {a b:Nat} (ha:lo<=a) (hb:b<=n):∀ p q,a<=p->p<q->q<b->d[p]!.i<d[q]!.i:=fun p q h1 h2 h3=>by rw [h p G G,h q G G]; exact h2
theorem Raw.run (h:Raw lo n d) (ha:lo<=a) (hb:b<=n) (hbs:b<=d.size) (hp:PermIn a b d d') (hs:Srt a b d'):Run a b d':=
 ⟨hs,permIn_all d d' a b (fun x=>a<=x.i/\x.i<b) hbs hp fun p h1 h2=>by rw [h p G G]; exact ⟨h1,h2⟩⟩
theorem Run.keep {hi:Nat} (h:Run lo hi d) (hp:PermIn a b d d') (hd:hi<=a\/b<=lo):Run lo hi d':=by
 have e:∀ p,lo<=p->p<hi->d'[p]! =d[p]!:=fun p h1 h2=>hp.2.1 p G
 exact ⟨h.srt.same e,fun p h1 h2=>by rw [e p h1 h2]; exact h.bnd p h1 h2⟩
theorem Run.mer (h1:Run a m d) (h2:Run m b d):Mer a m b d:=⟨h1.srt,h2.srt,fun i j k1 k2 k3 k4=>by have:=(h1.bnd i k1 k2).2; have:=(h2.bnd j k3 k4).1; omega⟩
theorem Run.join (h1:Run a m d) (h2:Run m b d) (ham:a<=m) (hmb:m<=b) (hb:b<=d.size) (hp:PermIn a b d d') (hs:Srt a b d'):Run a b d':=
 ⟨hs,permIn_all d d' a b (fun x=>a<=x.i/\x.i<b) hb hp fun p k1 k2=>by
  by_cases c:p<m
  ·have:=h1.bnd p k1 c; omega
  ·have:=h2.bnd p G k2; omega⟩
structure Stg (blk off n:Nat) (w0:World) (d0:Array De) (W:World) (dk:Array De):Prop where
 s:SW w0 blk off dk W
 sz:dk.size=n
 s0:dk.size=d0.size
 perm:PermIn 0 n d0 dk
theorem Stg.next {blk:Nat} {W W':World} {dk:Array De} (h:Stg blk off n w0 d0 W dk) (hS:SW w0 blk off d' W') {a b:Nat} (hp:PermIn a b dk d') (hb:b<=n):Stg blk off n w0 d0 W' d':=
 ⟨hS,hp.1.trans h.sz,hp.1.trans h.s0,permIn_trans _ _ _ _ _ h.perm (permIn_mono _ _ _ _ _ _ (Nat.zero_le _) hb (by rw [h.sz]; exact Nat.le_refl _) hp)⟩
theorem du0 {blk:Nat} {za zb:Int} (ea:za=(a:Int)) (eb:zb=(b:Int)) (R:RW w0 blk off d0) (hs:d.size=d0.size) (hz:d.size=sz) (S:SW w0 blk off d w) (hab:a<=b) (hb:b<=d.size) (hsz:d.size<4611686018427387904) (hi:∀ p q,a<=p->p<q->q<b->d[p]!.i<d[q]!.i):
  Q 162 #[Mt blk off sz cap,I za,I zb,.func (.func 102) #[] #[]] w fun e w'=>e= .returned (.tuple #[])/\∃ d',SW w0 blk off d' w'/\PermIn a b d d'/\Srt a b d':=by
 subst ea eb;exact dd3 R hs hz S hab hb hsz hi
def deco (es:List En):List De:=es.zipIdx.map fun p=>⟨p.1,p.2⟩
theorem ae9 (es:List En):(deco es).length=es.length:=by simp [deco]
theorem bd4 {k:Nat} (h:k<(deco es).length):(deco es)[k]=⟨es[k]'(by rw [ae9] at h; exact h),k⟩:=by simp [deco]
theorem deco_e (es:List En):(deco es).map (·.e)=es:=by
 apply List.ext_getElem
 ·simp [deco]
 ·intro i h1 h2
  simp [deco]
theorem cl5 (es:List En):(deco es).flatMap dcl=es.flatMap ecl:=by
 conv=>rhs; rw [<- deco_e es]
 rw [List.flatMap_map];rfl
structure SortOf (es:List En) (ds:List De):Prop where
 len:ds.length=es.length
 at_:∀ k (h:k<ds.length),∃ h':ds[k].i<es.length,ds[k].e=es[ds[k].i]
 srt:∀ p q (h1:p<q) (h2:q<ds.length),Lx ds[p] ds[q]
 all:∀ i,i<es.length->∃ p,∃ h:p<ds.length,ds[p].i=i
theorem cd0 (hp:PermIn 0 es.length (deco es).toArray d') (hs:Srt 0 es.length d'):SortOf es d'.toList:=by
 have hz:d'.size=es.length:=by rw [hp.1]; simp [ae9]
 have hperm:d'.toList.Perm (deco es):=by
  have h:=hp.2.2;have e1:d'.extract 0 es.length=d':=by rw [<- hz]; simp
  have e2:(deco es).toArray.extract 0 es.length=(deco es).toArray:=by
   have:es.length=(deco es).toArray.size:=by simp [ae9]
   rw [this]; simp
  rw [e1,e2] at h;simpa using h
 have ht:∀ k (h:k<d'.toList.length),d'.toList[k]=d'[k]!:=fun k h=>by
  simp only [Array.length_toList] at h;simp [h]
 refine ⟨by simp [hz],fun k h=>?_,fun p q h1 h2=>?_,fun i hi=>?_⟩
 ·have hm:d'.toList[k]∈deco es:=hperm.mem_iff.1 (List.getElem_mem h)
  obtain ⟨j,hj,e⟩:=List.mem_iff_getElem.1 hm;rw [bd4 hj] at e;rw [<- e];exact ⟨by rw [ae9] at hj; exact hj,rfl⟩
 ·rw [ht p G,ht q h2]
  exact hs p q (Nat.zero_le _) h1 (by simpa [hz] using h2)
 ·have hj:i<(deco es).length:=by rw [ae9]; exact hi
  have hm:(deco es)[i]∈d'.toList:=hperm.mem_iff.2 (List.getElem_mem hj);obtain ⟨p,h,e⟩:=List.mem_iff_getElem.1 hm;exact ⟨p,h,by rw [e,bd4]⟩
theorem dd2 (w:World):Q 162 #[.slice none 0 0,I 0,I 0,.func (.func 102) #[] #[]] w fun e w'=>e= .returned (.tuple #[])/\w=w':=by
 go_enter Tryz.func162,Tryz.ntmps162;go_wp2_with fail;refine wp_loop_rounds 2 ?_;rw [rounds_succ];go_wp2_with fail;go_end0;exact ⟨rfl,rfl⟩
theorem bv3 (w:World):Q 131 #[.slice none 0 0,I 0,.func (.func 102) #[] #[]] w fun e w'=>e= .returned (.tuple #[])/\w=w':=by
 go_enter Tryz.func131,Tryz.ntmps131;go_wp2_with fail;refine wp_loop_rounds 2 ?_;rw [rounds_succ];go_wp2_with fail;refine (dd2 _).mono ?_;rintro e w' ⟨rfl,rfl⟩;go_wp2_with fail;refine wp_loop_rounds 2 ?_;rw [rounds_succ];go_wp2_with fail;go_end0;exact ⟨rfl,rfl⟩
theorem be8 (w:World):Q 101 #[.slice none 0 0,.func (.func 102) #[] #[]] w fun e w'=>e= .returned (.tuple #[])/\w=w':=by
 go_enter Tryz.func101,Tryz.ntmps101;go_wp2_with fail;refine (bv3 _).mono ?_;rintro e w' ⟨rfl,rfl⟩;go_wp2_with fail;go_end0;exact ⟨rfl,rfl⟩
end
section
open Go.RowKit Go.Maps Fm
variable {w:World}{g k m n:Nat}{cur f:Nat->En}
def Sm1 (x y:En):Prop:=x.a=y.a/\x.n=y.n
instance (x y:En):Decidable (Sm1 x y):=by unfold Sm1; infer_instance
structure SR (w:World) (g:Nat) (f:Nat->En) (m:Nat):Prop where
 c0:∀ i,i<m->w.cell? (Y g (i*3))=some (U (f i).a)
 c1:∀ i,i<m->w.cell? (Y g (i*3+1))=some (I (f i).n)
 c2:∀ i,i<m->w.cell? (Y g (i*3+2))=some (O (f i).on)
 f0:∀ i,i<m->w.frozen? (Y g (i*3))=false
 f1:∀ i,i<m->w.frozen? (Y g (i*3+1))=false
 f2:∀ i,i<m->w.frozen? (Y g (i*3+2))=false
theorem SR.of_block {w':World} (h:SR w g f m) (e:w'.heap[g]?=w.heap[g]?):SR w' g f m:=
 ⟨fun i hi=>by rw [World.cell?_of_block e]; exact h.c0 i hi,fun i hi=>by rw [World.cell?_of_block e]; exact h.c1 i hi,fun i hi=>by rw [World.cell?_of_block e]; exact h.c2 i hi,
  fun i hi=>by have:=h.f0 i hi; unfold World.frozen? at this ⊢; rw [e]; exact this,fun i hi=>by have:=h.f1 i hi; unfold World.frozen? at this ⊢; rw [e]; exact this,fun i hi=>by have:=h.f2 i hi; unfold World.frozen? at this ⊢; rw [e]; exact this⟩
theorem SR.held {w w':World} {g m:Nat} {f:Nat->En} (h:SR w g f m) (hg:g<w.heap.size) (hb:Below w.heap.size w w'):SR w' g f m:=h.of_block (hb.block g hg)
theorem SR.congr {f':Nat->En} (h:SR w g f m) (he:∀ i,i<m->f' i=f i):SR w g f' m:=
 ⟨fun i hi=>by rw [he i hi]; exact h.c0 i hi,fun i hi=>by rw [he i hi]; exact h.c1 i hi,fun i hi=>by rw [he i hi]; exact h.c2 i hi,h.f0,h.f1,h.f2⟩
def setE (f:Nat->En) (i:Nat) (x:En):Nat->En:=fun j=>if j=i then x else f j
theorem cell_far {i j:Nat} (h:i≠j) (v:Value):(w.setCell (Y g i) v).cell? (Y g j)=w.cell? (Y g j):=World.cell?_setCell_other _ _ _ _ (by intro e; have h9:=congrArg Addr.off e; dsimp only at h9; omega)
theorem SR.set (h:SR w g f m) {i:Nat} (hi:i<m) (x:En):SR (((w.setCell (Y g (i*3)) (U x.a)).setCell (Y g (i*3+1)) (I x.n)).setCell (Y g (i*3+2)) (O x.on)) g (setE f i x) m:=by
 have a0:=h.c0 i hi;have a1:=h.c1 i hi;have a2:=h.c2 i hi;refine ⟨fun j hj=>?_,fun j hj=>?_,fun j hj=>?_,fun j hj=>?_,fun j hj=>?_,fun j hj=>?_⟩
 ·unfold setE
  by_cases c:j=i
  ·subst c
   rw [if_pos rfl,cell_far G,cell_far G];exact World.cell?_setCell_same _ _ _ a0
  ·rw [if_neg c,cell_far G,cell_far G,cell_far G]
   exact h.c0 j hj
 ·unfold setE
  by_cases c:j=i
  ·subst c
   rw [if_pos rfl,cell_far G];exact World.cell?_setCell_same _ _ _ ((cell_far G _).trans a1)
  ·rw [if_neg c,cell_far G,cell_far G,cell_far G]
   exact h.c1 j hj
 ·unfold setE
  by_cases c:j=i
  ·subst c
   rw [if_pos rfl];exact World.cell?_setCell_same _ _ _ ((cell_far G _).trans ((cell_far G _).trans a2))
  ·rw [if_neg c,cell_far G,cell_far G,cell_far G]
   exact h.c2 j hj
 ·rw [World.frozen?_setCell,World.frozen?_setCell,World.frozen?_setCell]; exact h.f0 j hj
 ·rw [World.frozen?_setCell,World.frozen?_setCell,World.frozen?_setCell]; exact h.f1 j hj
 ·rw [World.frozen?_setCell,World.frozen?_setCell,World.frozen?_setCell]; exact h.f2 j hj
theorem bf4 (h:SR w g f m) {k:Nat} (hk:k<=m) (c:Nat) (ty:TypeId):
  ∃ w',(Builtin.clear_ #[139] ty #[Mt g (k*3) (m - k) c]).run prog w= .ok (.tuple #[]) w'/\SR w' g f k/\Turn [g] w w'/\w'.heap.size=w.heap.size:=by
 by_cases h0:m - k=0
 ·rw [h0]
  refine ⟨w,?_,⟨fun i hi=>h.c0 i G,fun i hi=>h.c1 i G,fun i hi=>h.c2 i G,fun i hi=>h.f0 i G,fun i hi=>h.f1 i G,fun i hi=>h.f2 i G⟩,.refl _ _,rfl⟩;simp [Builtin.clear_,run_underlying Tryz.underlying139]
 ·obtain ⟨q,hq⟩:∃ q,m - k=q+1:=⟨m - k - 1,G⟩
  have hzl:(Builtin.zeroCells #[U 0,I 0,O false] (m - k)).toList.length=(m - k)*3:=by simp [Builtin.zeroCells]
  have hat:∀ j,j<(m - k)*3->(w.cell? (Y g (k*3+0+j))).isSome=true/\w.frozen? (Y g (k*3+0+j))=false:=fun j hj=>by
   have hj2:j % 3=0\/j % 3=1\/j % 3=2:=G
   rcases hj2 with e|e|e
   ·rw [show k*3+0+j=(k+j / 3)*3 by omega]
    exact ⟨by rw [h.c0 _ G]; rfl,h.f0 _ G⟩
   ·rw [show k*3+0+j=(k+j / 3)*3+1 by omega]
    exact ⟨by rw [h.c1 _ G]; rfl,h.f1 _ G⟩
   ·rw [show k*3+0+j=(k+j / 3)*3+2 by omega]
    exact ⟨by rw [h.c2 _ G]; rfl,h.f2 _ G⟩
  have hst:=run_storeCells_cells (P:=prog) g (k*3) (Builtin.zeroCells #[U 0,I 0,O false] (m - k)).toList 0 w (fun j hj=>(hat j (by rw [hzl] at hj; exact hj)).1) (fun j hj=>(hat j (by rw [hzl] at hj; exact hj)).2) (by
   intro v hv;simp only [Builtin.zeroCells,Array.toList_map,List.mem_map] at hv;obtain ⟨i,-,rfl⟩:=hv;have:i % 3=0\/i % 3=1\/i % 3=2:=G
   rcases this with e|e|e<;>simp [e]<;>rfl)
  simp only [Nat.add_zero] at hst;have hz:∀ w,(zeroValue 142).run prog w= .ok (.agg #[U 0,I 0,O false]) w:=fun w=>by kernel_rfl
  refine ⟨_,?_,?_,Turn.setCells w (b:=g) sn (k*3) (Builtin.zeroCells #[U 0,I 0,O false] (m - k)).toList,setCells_size _ _ _ _⟩
  ·rw [hq] at hst ⊢
   simp [Builtin.clear_,run_underlying Tryz.underlying139,hz,Value.cells,hst]
  ·refine ⟨fun i hi=>?_,fun i hi=>?_,fun i hi=>?_,fun i hi=>?_,fun i hi=>?_,fun i hi=>?_⟩
   ·rw [World.cell?_setCells_out _ _ _ _ _ (fun _ _=> .inl (by show i*3<k*3; omega))]; exact h.c0 i G
   ·rw [World.cell?_setCells_out _ _ _ _ _ (fun _ _=> .inl (by show i*3+1<k*3; omega))]; exact h.c1 i G
   ·rw [World.cell?_setCells_out _ _ _ _ _ (fun _ _=> .inl (by show i*3+2<k*3; omega))]; exact h.c2 i G
   ·rw [World.frozen?_setCells]; exact h.f0 i G
   ·rw [World.frozen?_setCells]; exact h.f1 i G
   ·rw [World.frozen?_setCells]; exact h.f2 i G
def keepE (f:Nat->En) (n:Nat):List En:=(List.range n).filterMap fun i=>if i=0\/¬ Sm1 (f i) (f (i - 1)) then some (f i) else none
theorem ah0 (f:Nat->En) (n:Nat):keepE f (n+1)=keepE f n++(if n=0\/¬ Sm1 (f n) (f (n - 1)) then [f n] else []):=by
 unfold keepE;rw [List.range_succ,List.filterMap_append];by_cases h:n=0\/¬ Sm1 (f n) (f (n - 1))
 ·rw [if_pos h]; simp [h]
 ·rw [if_neg h]; simp [h]
theorem bh0 (f:Nat->En) (n:Nat):(keepE f n).length<=n:=by
 unfold keepE;exact Nat.le_trans (List.length_filterMap_le _ _) sn
theorem an9 (f:Nat->En):∀ n,(∀ i,0<i->i<n->¬ Sm1 (f i) (f (i - 1)))->keepE f n=(List.range n).map f
 |0,_=>rfl
 |n+1,h=>by
  rw [ah0,an9 f n (fun i h1 h2=>h i h1 G),List.range_succ,List.map_append];rw [if_pos]
  ·rfl
  ·by_cases e:n=0
   ·exact .inl e
   ·exact .inr (h n G G)
structure Ce (f:Nat->En) (cur:Nat->En) (k n:Nat):Prop where
 len:(keepE f n).length=k
 at_:∀ i (h:i<(keepE f n).length),cur i=(keepE f n)[i]
 rest:∀ i,n - 1<=i->cur i=f i
 kn:k<n
theorem Ce.start (hk:0<k) (hn:∀ i,0<i->i<k->¬ Sm1 (f i) (f (i - 1))) (he:Sm1 (f k) (f (k - 1))):Ce f f k (k+1):=by
 have e:keepE f (k+1)=(List.range k).map f:=by
  rw [ah0,if_neg,List.append_nil,an9 f k hn];rintro (h|h)
  ·omega
  ·exact h he
 refine ⟨by rw [e]; simp,fun i h=>?_,fun _ _=>rfl,G⟩;simp only [e];simp
theorem Ce.same (h:Ce f cur k n) (he:Sm1 (f n) (f (n - 1))):Ce f cur k (n+1):=by
 have e:keepE f (n+1)=keepE f n:=by
  rw [ah0,if_neg,List.append_nil];rintro (h2|h2)
  ·have:=h.kn; omega
  ·exact h2 he
 exact ⟨by rw [e]; exact h.len,fun i hi=>by simp only [e]; exact h.at_ i (by rw [e] at hi; exact hi),fun i hi=>h.rest i G,by have:=h.kn; omega⟩
theorem Ce.put (h:Ce f cur k n) (he:¬ Sm1 (f n) (f (n - 1))):Ce f (setE cur k (f n)) (k+1) (n+1):=by
 have e:keepE f (n+1)=keepE f n++[f n]:=by rw [ah0,if_pos (.inr he)]
 have hl:=h.len;have hk:=h.kn;refine ⟨by rw [e]; simp [hl],fun i hi=>?_,fun i hi=>?_,G⟩
 ·simp only [e]
  unfold setE;by_cases c:i=k
  ·subst c
   rw [if_pos rfl,List.getElem_append_right G];simp [hl]
  ·have hi':i<(keepE f n).length:=by rw [e] at hi; simp at hi; omega
   rw [if_neg c,List.getElem_append_left hi'];exact h.at_ i hi'
 ·unfold setE
  rw [if_neg G];exact h.rest i G
theorem cu9 (x y:En) (w:World) {q:Bool} (hq:decide (Sm1 x y)=q):
  Q 105 #[.agg #[U x.a,I x.n,O x.on],.agg #[U y.a,I y.n,O y.on]] w (Rr0 w (O q)):=by
 obtain ⟨a,n,h⟩:=x;obtain ⟨b,m,h'⟩:=y;have A:=(Blk.new w 142 #[U a,I n,O h]).more (.cells #[U b,I m,O h'] 142);have B:=Blk.new (w.alloc (.cells #[U a,I n,O h] 142)) 142 #[U b,I m,O h'];rw [aa1] at B;have hb:=next (aa0 w (.cells #[U a,I n,O h] 142)) (aa0 _ (.cells #[U b,I m,O h'] 142));have a0:=A.at_ 0;have a1:=A.at_ 1;have b0:=B.at_ 0;have b1:=B.at_ 1;have HB:=Z hb;clear A B hb
 cases q with
 |true=>
  have e:=of_decide_eq_true hq;unfold Sm1 at e;obtain ⟨rfl,rfl⟩:=e;clear hq;go_enter Tryz.func105,Tryz.ntmps105;go_wp2_with fail;go_ret;exact ⟨rfl,HB.out⟩
 |false=>
  have e:=of_decide_eq_false hq;unfold Sm1 at e;dsimp only at e;have he:=ck9 e;clear hq e;go_enter Tryz.func105,Tryz.ntmps105;go_wp2_with fail;go_ret;exact ⟨rfl,HB.out⟩
end
section
open Go.RowKit Fm
variable {W w0:World}{B F0 F1 n₀:Nat}{rs:List En}
def sO {f:Pk->Option Bool} (e:ElP f):En:=⟨e.key.a,e.key.n,true⟩
def sF {f:Ky->Option (Nat×Nat)} (e:ElK f):En:=⟨e.key.a,e.key.n,true⟩
def sW (p:Pk):En:=⟨p.a,p.n,false⟩
theorem infoSj:(prog.info? 142).map (fun i=>(i.zero,i.size,i.bytes))=some (some (.agg #[U 0,I 0,O false]),3,24):=X
def Lsj (w0:World) (n₀ B F0 F1:Nat) (rs:List En) (W:World):Prop:=
 (∃ v,Boxed W B 139 v/\W.ownsRow n₀ 142 3 v rs.length (rs.flatMap ecl)/\(v= .slice none 0 0↔rs=[])/\(∀ b,v.ownBlock=some b->b<F0\/F1<=b))/\Below n₀ w0 W/\F1<=W.heap.size
theorem ci2 {β:Type} {B':Nat} (f:β->List En) (h1:n₀<=w0.heap.size) (h2:n₀<=B'):OwnFrom B' (fun s W=>Lsj w0 n₀ B F0 F1 (f s) W):=
 OwnFrom.and (Own.from (holdsRow_own n₀ B 139 142 3 (fun s=>(f s).length) (fun s=>(f s).flatMap ecl) (fun s v=>(v= .slice none 0 0↔f s=[])/\(∀ b,v.ownBlock=some b->b<F0\/F1<=b))) _)
  (OwnFrom.and (ownFrom_below h1 h2) (fun _ _ _ _ hs hg _=>Nat.le_trans hs hg.size))
theorem Lsj.alloc (h:Lsj w0 n₀ B F0 F1 rs W) (h1:n₀<=w0.heap.size) (o:Obj):Lsj w0 n₀ B F0 F1 rs (W.alloc o):=
 (ci2 (β:=Unit) (B':=n₀) (fun _=>rs) h1 (Nat.le_refl _)).alloc (s:=()) o h
theorem Lsj.held {w0 W W':World} {n₀ B F0 F1:Nat} {rs:List En} (h:Lsj w0 n₀ B F0 F1 rs W) (hb:Below W.heap.size W W') (h1:n₀<=w0.heap.size):Lsj w0 n₀ B F0 F1 rs W':=by
 obtain ⟨⟨v,hv,hr,hn,ho⟩,hB,hF⟩:=h;have hg:W.grownBy W' none:=⟨hb.os,hb.tape,hb.output,hb.size,fun k hk _=>hb.block k hk⟩;refine ⟨⟨v,hv.kept hg sn,hr.kept hg ?_,hn,ho⟩,hB.trans (hb.mono (Nat.le_trans h1 hB.size)),Nat.le_trans hF hb.size⟩;rcases hr.2 with ⟨rfl,_⟩|⟨g,cap,cur,rfl,_⟩
 ·exact .inl rfl
 ·exact .inr (by simp [Value.ownBlock])
theorem Lsj.rebase {W':World} (h:Lsj w0 n₀ B F0 F1 rs W) (hb:Below W.heap.size W W') (h1:n₀<=w0.heap.size):Lsj w0 n₀ B W.heap.size W'.heap.size rs W':=by
 obtain ⟨⟨v,hv,hr,hn,ho⟩,hB,hF⟩:=h.held hb h1;refine ⟨⟨v,hv,hr,hn,fun b hb'=>?_⟩,hB,Nat.le_refl _⟩;obtain ⟨⟨v0,hv0,hr0,-,-⟩,-,-⟩:=h;have hv1:=(hb.block _ hv0.lt).trans hv0;rw [show W'.heap[B]?=_ from hv] at hv1;simp only [Option.some.injEq,Obj.cells.injEq,Array.mk.injEq,List.cons.injEq,and_true] at hv1;subst hv1;rcases hr0.2 with ⟨rfl,_⟩|⟨g,cap,cur,rfl,_,hg,_⟩
 ·cases hb'
 ·cases hb'
  exact .inl (Array.getElem?_eq_some_iff.1 hg).1
theorem Lsj.push {w0 W w1:World} {n₀ B F0 F1 g' cap':Nat} {rs:List En} {r:En} {v:Value} {tmp:Obj} (h1:n₀<=w0.heap.size) (hB:n₀<=B)
  (hv:Boxed W B 139 v) (hrow:W.ownsRow n₀ 142 3 v rs.length (rs.flatMap ecl)) (ho:∀ b,v.ownBlock=some b->b<F0\/F1<=b) (hb:Below n₀ w0 W) (hF:F1<=W.heap.size)
  (hown:w1.ownsRow n₀ 142 3 (Lt g' (rs.length+1) cap') (rs.length+1) (rs.flatMap ecl++ecl r)) (hgrow:(W.alloc tmp).grownBy w1 v.ownBlock) (hat:(Value.slice (some (Y g' 0)) (rs.length+1) cap').ownBlock=v.ownBlock\/(Value.slice (some (Y g' 0)) (rs.length+1) cap').ownBlock=some (W.alloc tmp).heap.size):
  Boxed w1 B 139 v/\Lsj w0 n₀ B F0 F1 (rs++[r]) (w1.setCell (Y B 0) (Lt g' (rs.length+1) cap'))/\KeepsOthers W (w1.setCell (Y B 0) (Lt g' (rs.length+1) cap'))/\Below n₀ W (w1.setCell (Y B 0) (Lt g' (rs.length+1) cap'))/\
   (∀ b,b<W.heap.size->b≠B->some b≠v.ownBlock->(w1.setCell (Y B 0) (Lt g' (rs.length+1) cap')).heap[b]?=W.heap[b]?):=by
 obtain ⟨hv1,hv2,hr2,hk2,hb2⟩:=hv.appended (by decide) hrow (Nat.le_trans h1 hb.size) hB hown hgrow;refine ⟨hv1,⟨⟨_,hv2,by simpa using hr2,sn,fun b hb'=>?_⟩,hb.trans hb2,Nat.le_trans hF hb2.size⟩,hk2,hb2,fun b hlt hne hno=>?_⟩
 ·rcases hat with e|e
  ·exact ho b (by rw [<- e]; exact hb')
  ·rw [e,aa1] at hb'
   cases hb';exact .inr G
 ·rw [Below.heap_setCell _ _ _ _ (by exact hne),hgrow.block b (by rw [aa1]; omega) hno]
  exact (aa0 W tmp).block b hlt
theorem ap6 {k b:Nat} {v:Value} {xs:List Value} (h:W.ownsRow n₀ 142 3 v k xs) {t:TypeId} {C:Array Value} (hb:Blk t W b C) (ht:t≠142):some b≠v.ownBlock:=by
 rcases h.2 with ⟨rfl,_⟩|⟨g,cap,cur,rfl,_,hg,_⟩
 ·simp [Value.ownBlock]
 ·intro e
  have e:b=g:=by simpa [Value.ownBlock] using e
  subst e;unfold Blk at hb;rw [hb] at hg
  cases hg;exact ht rfl
theorem cn9 (h1:n₀<=w0.heap.size) (hB:n₀<=B) (h:Lsj w0 n₀ B F0 F1 rs W) (hl:rs.length<=3000000000) (a:Nat) (n:Int):
  Q 97 #[.agg #[U a,I n],K B] W fun e W'=>e= .returned (.tuple #[])/\Lsj w0 n₀ B F0 F1 (rs++[⟨a,n,true⟩]) W'/\KeepsOthers W W'/\Below n₀ W W'/\
   (∀ b,b<W.heap.size->b≠B->F0<=b->b<F1->W'.heap[b]?=W.heap[b]?)/\(∀ t C b,Blk t W b C->t≠142->b≠B->Blk t W' b C):=by
 obtain ⟨i0,hi,hz0,hz1,hz2⟩:=info_parts infoSj;have HI:=H4 hi hz0 hz1 hz2;clear hi hz0 hz1 hz2;have hA:=h.alloc h1 (.cells #[U a,I n] 28);have hbn:=aa0 W (.cells #[U a,I n] 28);have hz:=aa1 W (.cells #[U a,I n] 28);have PB:=Blk.new W 28 #[U a,I n];have p0:=PB.at_ 0;have p1:=PB.at_ 1;have hle:=h.2.1.size;have H0:=Z h;clear PB h;go_enter Tryz.func97,Tryz.ntmps97;go_upto_region 1 with fail;generalize W.alloc _=W1 at*;have HZ:=H2 hz hbn;clear hz hbn;obtain ⟨⟨v,hv,hrow,hnil,ho⟩,hBl,hF⟩:=hA;have cB:=hv.cell;have hle1:=hBl.size;obtain ⟨hi,hz0,hz1,hz2⟩:=HI.out;go_wp2_with (first
  |(at_builtin; go_loud (refine wpList_append_own_at _ rfl _ _ 139 rfl n₀ 142 i0 _ 3 24 Tryz.underlying139 hi hz0 hz1 hz2 rfl (by decide) _ _ _ rfl (hrow.alloc _) ⟨W1.heap.size,0,none⟩ 1 1 (ecl ⟨a,n,true⟩) rfl rfl (fun j u hj=>(br9 _ _ _ j).trans (by rw [<- hj]; simp [ecl])) (by simp [Value.oneCell',ecl]) (by unfold maxLen; omega) G (by simp; omega) ?_)
    intro v' w3 hown' hgrow _ hat;obtain ⟨g',cap',rfl⟩:=ownsRow_succ hown';obtain ⟨hv1,hl2,hk2,hb2,hoth⟩:=Lsj.push h1 hB hv hrow ho hBl hF hown' hgrow hat;have hc1:=hv1.cell;have hf1:=hv1.frozen))
 have hbn:=HZ.out.2;refine bodyPost_end (v:= .tuple #[]) (results_none rfl _ _ _) rfl ⟨rfl,hl2,(KeepsOthers.mk hbn.size fun k o hk _=>(hbn.block k (Array.getElem?_eq_some_iff.1 hk).1).trans hk).trans hk2,(hbn.mono (Nat.le_trans h1 hle)).trans hb2,fun b k1 k2 k3 k4=>?_,fun t C b hb ht hne=>?_⟩
 ·have hlt:b<W1.heap.size:=Nat.lt_of_lt_of_le k1 hbn.size
  refine (hoth b hlt k2 fun e=>?_).trans (hbn.block b k1);rcases ho b e.symm with h|h<;>omega
 ·have hb1:=hb.held hbn
  exact (hoth b hb1.lt hne (ap6 hrow hb1 ht)).trans hb1
end
section
open Go.RowKit Go.Maps
attribute [local go_sem] Oper.semAt_some
theorem PR.of_block {w w':World} {g m:Nat} {f:Nat->Pk} (h:PR w g f m) (e:w'.heap[g]?=w.heap[g]?):PR w' g f m:=
 ⟨fun i hi=>by rw [World.cell?_of_block e]; exact h.c0 i hi,fun i hi=>by rw [World.cell?_of_block e]; exact h.c1 i hi,
  fun i hi=>by have:=h.f0 i hi; unfold World.frozen? at this ⊢; rw [e]; exact this,fun i hi=>by have:=h.f1 i hi; unfold World.frozen? at this ⊢; rw [e]; exact this⟩
def arW (p:Pk):Array Value:=#[.agg #[U p.a,I p.n]]
theorem by9:∀ args w,(callFunc 130 args).run prog w= .ok (.enter 130 args) w:=enters_of Tryz.func130 X rfl
theorem bw9 {W0:World} {B g cap:Nat} {xs:List Pk} (hB:Blk 229 W0 B #[Lt g xs.length cap]) (hrow:∃ F,PR W0 g F xs.length/\∀ i (h:i<xs.length),F i=xs[i]) (hgl:g<W0.heap.size) (hlen:xs.length<=1000000000) (W:World) (hW:Below W0.heap.size W0 W):
  Drives prog 130 #[K B] arW xs.length (fun ys=>ys=xs) (KeepS [B,g]) W:=fun l J hJ hY h0=>by
 obtain ⟨F,hP,hF⟩:=hrow;have hP:=hP.held hgl hW;have hBl:=hB.lt;have hB:=hB.held hW;have hgl:g<W.heap.size:=Nat.lt_of_lt_of_le hgl hW.size;have c0:=hB.at_ 0;refine (callsIn_wide (n:=0)).1 ?_;refine callsIn_of_wp Tryz.func130 rfl trivial ?_ rfl;simp only [Tryz.ntmps130,List.size_toArray,List.length_cons,List.length_nil,Nat.reduceAdd,Nat.reduceSub,Array.replicate_succ,Array.replicate_zero,List.push_toArray,List.append_toArray,List.nil_append,List.cons_append]
 gi_wp2
 gi_loopw [7] (fun i wr=>∃ k:Nat,k<=xs.length/\i= I k/\J (xs.take k) wr/\KeepS [B,g] W wr) (fun i _=>xs.length - (intOf i).toNat)
 case atStart=>exact ⟨0,G,rfl,h0,⟨Keep.refl _ _,Nat.le_refl _⟩⟩
 case round=>
  obtain ⟨k,hk,rfl,hJs,hKp⟩:=hrel;have hmx:xs.length<=9223372036854775807:=G
  by_cases hlt:k<xs.length
  ·have hPr:=hP.of_block (hKp.1 g sn)
   have c1:=hPr.c0 k hlt;have c2:=hPr.c1 k hlt;rw [hF k hlt] at c1 c2;have hnext:xs.take (k+1)=xs.take k++[xs[k]]:=List.take_succ_eq_append_getElem hlt;have hJ2:=hJ.alloc (.cells #[U xs[k].a,I xs[k].n] 28) hJs;have hbn:=aa0 wr (.cells #[U xs[k].a,I xs[k].n] 28);have hYk:=hY (xs.take k) xs[k] _ hJ2 (Nat.le_trans hKp.2 hbn.size) (by rw [List.length_take]; omega);have REST:=H3 hKp hbn hnext;clear hKp hbn hnext hPr hJ2 hJs;generalize xs[k]=x at*;obtain ⟨xa,xn⟩:=x;dsimp only at c1 c2;obtain ⟨fn,tmps,assign,body,hy,hR⟩:=hYk;simp only [arW] at hy
   gi_wp2
   refine ⟨rfl,(af4 hR).mono ?_⟩;rintro e W3 ⟨rfl,hkf,hj3,hkq⟩
   gi_wp2
   go_roundw
   case rel=>
    obtain ⟨g1,g2,g3⟩:=REST.out;exact ⟨k+1,G,by go_num,by rw [g3]; exact hj3,(g1.trans (.of_below (fun b hb=>Nat.lt_of_lt_of_le (by simp at hb; rcases hb with rfl|rfl; exact hB.lt; exact hgl) g1.2) g2)).trans hkq⟩
   case measure=>simp [intOf]; omega
  ·obtain rfl:k=xs.length:=G
   rw [List.take_length] at hJs;clear hY
   gi_wp2
   go_end0;exact ⟨⟨_,rfl⟩,_,rfl,hJs⟩
end
section
open Go.RowKit Go.Maps Fm
structure CpdE (w w':World) (g:Nat) (f:Nat->En) (m cap:Nat) (v:Value):Prop where
 val:v= Lt g (keepE f m).length cap
 row:∃ f',SR w' g f' (keepE f m).length/\∀ i (h:i<(keepE f m).length),f' i=(keepE f m)[i]
 turn:Turn [g] w w'
theorem cd3 {w w2:World} {g:Nat} (h:Turn [g] w w2) (i:Nat) (x:En):Turn [g] w (((w2.setCell (Y g (i*3)) (U x.a)).setCell (Y g (i*3+1)) (I x.n)).setCell (Y g (i*3+2)) (O x.on)):=
 h.trans (((Turn.setCell w2 sn _).trans (Turn.setCell _ sn _)).trans (Turn.setCell _ sn _))
theorem aw5 {w:World} {g m cap:Nat} {f:Nat->En} (h:SR w g f m) (hgl:g<w.heap.size) (hm:m<=1000000000) (hc:m<=cap):
  Q 104 #[Lt g m cap,.func (.func 105) #[] #[]] w fun e w'=>∃ v,e= .returned v/\CpdE w w' g f m cap v:=by
 have H:=Zq h;have mixed:=an7;clear h;by_cases hm2:m<2
 ·have hmz:(m:Int)<2:=G
  have hn:keepE f m=(List.range m).map f:=an9 f m (fun i h1 h2=>by omega);have E:=Zq hn;clear hn;go_enter Tryz.func104,Tryz.ntmps104;go_wp2_with fail;go_ret;refine ⟨_,rfl,by rw [E.out]; simp,⟨f,by rw [E.out]; simpa using H.out,fun i hi=>?_⟩,.refl _ _⟩;simp only [E.out];simp
 ·have hmz:¬ (m:Int)<2:=G
  go_enter Tryz.func104,Tryz.ntmps104;go_wp2_with fail;go_loopw [5] (fun v wr=>∃ k:Nat,v= I k/\1<=k/\k<=m/\Hid (SR wr g f m/\Turn [g] w wr/\∀ i,0<i->i<k->¬ Sm1 (f i) (f (i - 1)))) (fun v _=>m - (intOf v).toNat)
  case atStart=>exact ⟨1,rfl,Nat.le_refl _,G,H.out,.refl _ _,fun i h1 h2=>by omega⟩
  case round=>
   clear H;obtain ⟨k,rfl,hk1,hkm,R⟩:=hrel;by_cases hk:k<m
   ·have hkz:(k:Int)<(m:Int):=G
    have kp:(0:Int)<=(k:Int) - 1:=G
    have kp':(1:Int)<=(k:Int):=G
    have kb:(k:Int) - 1<(m:Int):=G
    have ke:((k:Int) - 1).toNat=k - 1:=G
    have c0:=R.out.1.c0 k hk;have c1:=R.out.1.c1 k hk;have c2:=R.out.1.c2 k hk;have c3:=R.out.1.c0 (k - 1) G;have c4:=R.out.1.c1 (k - 1) G;have c5:=R.out.1.c2 (k - 1) G;have hgr:g<wr.heap.size:=Nat.lt_of_lt_of_le hgl R.out.2.1.size;by_cases he:Sm1 (f k) (f (k - 1))
    ·have HQ:=fun (d:Nat) (os:Array Obj)=>cu9 (f k) (f (k - 1)) (Sort.grow (redrawn wr d) os) (decide_eq_true he)
     have S:=Zq (Ce.start hk1 R.out.2.2 he);have hm3:(k:Int)<=(m:Int):=G
     have hcz:(k:Int)<=(cap:Int):=G
     have hcm:(m:Int)<=(cap:Int):=G
     have PT:=H3 R.out.1 R.out.2.1 hgr;clear R he hgr;generalize f (k - 1)=y at c3 c4 c5 HQ;generalize f k=x at c0 c1 c2 HQ;obtain ⟨a,n,b⟩:=x;obtain ⟨a',n',b'⟩:=y;dsimp only at c0 c1 c2 c3 c4 c5 HQ;have g0:=cell_regrown c0;have g1:=cell_regrown c1;have g2:=cell_regrown c2;have g3:=cell_regrown c3;have g4:=cell_regrown c4;have g5:=cell_regrown c5;clear c0 c1 c2 c3 c4 c5;go_upto_region 6 with fail;refine wp_region_quiet_below X X ?_
     repeat (go_big_quiet_step (first|(go_at_call 105; exact Calls.regrown_of (HQ _ _))))
     refine wpQuiet_nil ?_;intro _ hw';obtain ⟨⟨dq,osq⟩,hw''⟩:=hw';subst hw'';have hbr:=below_regrown wr dq osq;clear HQ g0 g1 g2 g3 g4 g5;have PT2:=H3 (PT.out.1.held PT.out.2.2 hbr) (PT.out.2.1.and_below hbr) (Nat.lt_of_lt_of_le PT.out.2.2 hbr.size);clear hbr PT;generalize Sort.grow (redrawn wr dq) osq=wq at*;go_wp2_with fail;obtain ⟨z,hz⟩:=ey (m - k);obtain ⟨zc,hzc⟩:=ey (cap - k);rw [hz,hzc];clear kp kp' kb ke;go_loopw [5,7] (fun v3 v5 wr2=>∃ (q j:Nat) (cur:Nat->En),v3= I q/\v5= I j/\1<=j/\j<=z/\q<k+j/\Hid (SR wr2 g cur m/\Turn [g] w wr2/\Ce f cur q (k+j))) (fun _ v5 _=>z - (intOf v5).toNat)
     case atStart=>exact ⟨k,1,f,rfl,rfl,Nat.le_refl _,G,G,PT2.out.1,PT2.out.2.1,S.out⟩
     case round=>
      clear PT2 S;obtain ⟨q,j,cur,rfl,rfl,hj1,hjz,hqj,R⟩:=hrel;by_cases hj:j<z
      ·have hjzz:(j:Int)<(z:Int):=G
       have jp:(0:Int)<=(j:Int) - 1:=G
       have jp':(1:Int)<=(j:Int):=G
       have jb:(j:Int) - 1<(z:Int):=G
       have je:((j:Int) - 1).toNat=j - 1:=G
       have qb:(q:Int)<(m:Int):=G
       have c0:=R.out.1.c0 (k+j) G;have c1:=R.out.1.c1 (k+j) G;have c2:=R.out.1.c2 (k+j) G;have c3:=R.out.1.c0 (k+(j - 1)) G;have c4:=R.out.1.c1 (k+(j - 1)) G;have c5:=R.out.1.c2 (k+(j - 1)) G;have hgr:g<wr.heap.size:=Nat.lt_of_lt_of_le hgl R.out.2.1.size;rw [R.out.2.2.rest _ G,Nat.add_mul] at c0 c1 c2;rw [R.out.2.2.rest _ G,Nat.add_mul] at c3 c4 c5;by_cases he2:Sm1 (f (k+j)) (f (k+j - 1))
       ·have HQ:=fun (d:Nat) (os:Array Obj)=>cu9 (f (k+j)) (f (k+(j - 1))) (Sort.grow (redrawn wr d) os) (decide_eq_true (by rw [show k+(j - 1)=k+j - 1 by omega]; exact he2))
        have S:=H4 R.out.1 R.out.2.1 (R.out.2.2.same he2) hgr;clear R hgr he2;generalize f (k+(j - 1))=y at c3 c4 c5 HQ;generalize f (k+j)=x at c0 c1 c2 HQ;obtain ⟨a,n,b⟩:=x;obtain ⟨a',n',b'⟩:=y;dsimp only at c0 c1 c2 c3 c4 c5 HQ;have g0:=cell_regrown c0;have g1:=cell_regrown c1;have g2:=cell_regrown c2;have g3:=cell_regrown c3;have g4:=cell_regrown c4;have g5:=cell_regrown c5;clear c0 c1 c2 c3 c4 c5;go_upto_region 11 with fail;refine wp_region_quiet_below X X ?_
        repeat (go_big_quiet_step (first|(go_at_call 105; exact Calls.regrown_of (HQ _ _))))
        refine wpQuiet_nil ?_;intro _ hw';obtain ⟨⟨dq,osq⟩,hw''⟩:=hw';subst hw'';have hbr:=below_regrown wr dq osq;clear HQ g0 g1 g2 g3 g4 g5;have S2:=H3 (S.out.1.held S.out.2.2.2 hbr) (S.out.2.1.and_below hbr) S.out.2.2.1;clear hbr S;generalize Sort.grow (redrawn wr dq) osq=wq at*;go_wp2_with fail;go_roundw
        case rel=>exact ⟨q,j+1,cur,rfl,by go_num,G,G,G,S2.out.1,S2.out.2.1,S2.out.2.2⟩
        case measure=>simp [intOf]; omega
       ·have HQ:=fun (d:Nat) (os:Array Obj)=>cu9 (f (k+j)) (f (k+(j - 1))) (Sort.grow (redrawn wr d) os) (decide_eq_false (by rw [show k+(j - 1)=k+j - 1 by omega]; exact he2))
        have S:=Zq (And.intro R.out.1 (And.intro R.out.2.1 (And.intro (R.out.2.2.put he2) (And.intro hgr (R.out.2.2.rest (k+j) G)))));clear R hgr he2;generalize f (k+(j - 1))=y at c3 c4 c5 HQ;obtain ⟨x,hx⟩:=ey (f (k+j));have HX:=Zq hx;rw [hx] at c0 c1 c2 HQ;clear hx;obtain ⟨a,n,b⟩:=x;obtain ⟨a',n',b'⟩:=y;dsimp only at c0 c1 c2 c3 c4 c5 HQ;have g0:=cell_regrown c0;have g1:=cell_regrown c1;have g2:=cell_regrown c2;have g3:=cell_regrown c3;have g4:=cell_regrown c4;have g5:=cell_regrown c5;clear c0 c1 c2 c3 c4 c5;go_upto_region 11 with fail;refine wp_region_quiet_below X X ?_
        repeat (go_big_quiet_step (first|(go_at_call 105; exact Calls.regrown_of (HQ _ _))))
        refine wpQuiet_nil ?_;intro _ hw';obtain ⟨⟨dq,osq⟩,hw''⟩:=hw';subst hw'';have hbr:=below_regrown wr dq osq;clear HQ g0 g1 g2 g3 g4 g5;have P2:=S.out.1.held S.out.2.2.2.1 hbr;have S2:=H3 P2 (S.out.2.1.and_below hbr) S.out.2.2.1;have k0:=P2.c0 (k+j) G;have k1:=P2.c1 (k+j) G;have k2:=P2.c2 (k+j) G;rw [S.out.2.2.2.2,HX.out,Nat.add_mul] at k0 k1 k2;dsimp only at k0 k1 k2;have q0:=P2.c0 q G;have q1:=P2.c1 q G;have q2:=P2.c2 q G;have f0:=P2.f0 q G;have f1:=P2.f1 q G;have f2:=P2.f2 q G;clear hbr S P2;generalize Sort.grow (redrawn wr dq) osq=wq at*;go_wp2_with fail;go_roundw
        case rel=>exact ⟨q+1,j+1,_,by go_num,by go_num,G,G,G,by have:=S2.out.1.set (show q<m by omega) (f (k+j)); rw [HX.out] at this; exact this,by have:=cd3 S2.out.2.1 q (f (k+j)); rw [HX.out] at this; exact this,by have:=S2.out.2.2; rw [HX.out] at this; exact this⟩
        case measure=>simp [intOf]; omega
      ·obtain rfl:j=z:=G
       have hql:=R.out.2.2.len;have hkz2:k+j=m:=G
       rw [hkz2] at R hql;have hqz:(q:Int)<=(m:Int):=G
       have hqc:(q:Int)<=(cap:Int):=G
       obtain ⟨w3,hrun,hP3,hT3,-⟩:=bf4 R.out.1 (show q<=m by omega) (cap - q) 0;have Z:=H4 hP3 (R.out.2.1.trans hT3) R.out.2.2 hql;clear R hP3 hT3;go_wp2_with fail;go_ret;refine ⟨_,rfl,by rw [Z.out.2.2.2]; rfl,⟨cur,by rw [Z.out.2.2.2]; exact Z.out.1,Z.out.2.2.1.at_⟩,Z.out.2.1⟩
    ·have HQ:=fun (d:Nat) (os:Array Obj)=>cu9 (f k) (f (k - 1)) (Sort.grow (redrawn wr d) os) (decide_eq_false he)
     have S:=Zq (And.intro R.out.1 (And.intro R.out.2.1 (And.intro (show ∀ i,0<i->i<k+1->¬ Sm1 (f i) (f (i - 1)) from fun i h1 h2=>by
      by_cases c:i=k
      ·rw [c]; exact he
      ·exact R.out.2.2 i h1 G) hgr)))
     clear R he hgr;generalize f (k - 1)=y at c3 c4 c5 HQ;generalize f k=x at c0 c1 c2 HQ;obtain ⟨a,n,b⟩:=x;obtain ⟨a',n',b'⟩:=y;dsimp only at c0 c1 c2 c3 c4 c5 HQ;have g0:=cell_regrown c0;have g1:=cell_regrown c1;have g2:=cell_regrown c2;have g3:=cell_regrown c3;have g4:=cell_regrown c4;have g5:=cell_regrown c5;clear c0 c1 c2 c3 c4 c5;go_upto_region 6 with fail;refine wp_region_quiet_below X X ?_
     repeat (go_big_quiet_step (first|(go_at_call 105; exact Calls.regrown_of (HQ _ _))))
     refine wpQuiet_nil ?_;intro _ hw';obtain ⟨⟨dq,osq⟩,hw''⟩:=hw';subst hw'';have hbr:=below_regrown wr dq osq;clear HQ g0 g1 g2 g3 g4 g5;have S2:=H3 (S.out.1.held S.out.2.2.2 hbr) (S.out.2.1.and_below hbr) S.out.2.2.1;clear hbr S;generalize Sort.grow (redrawn wr dq) osq=wq at*;go_wp2_with fail;go_roundw
     case rel=>exact ⟨k+1,by go_num,G,G,S2.out.1,S2.out.2.1,S2.out.2.2⟩
     case measure=>simp [intOf]; omega
   ·obtain rfl:k=m:=G
    have hn:=Zq (an9 f k R.out.2.2);go_wp2_with fail;go_ret;refine ⟨_,rfl,by rw [hn.out]; simp,⟨f,by rw [hn.out]; simpa using R.out.1,fun i hi=>?_⟩,R.out.2.1⟩;simp only [hn.out];simp
end
section
open Go.RowKit Go.Maps Go.Sort Go.Lib Fm Sb
theorem ce9 (es:List En):Raw 0 es.length (deco es).toArray:=fun p h1 h2=>by
 have h3:p<(deco es).length:=by rw [ae9]; exact h2
 simp [h3,bd4 h3]
def SjAt (W:World) (v:Value) (es:List En):Prop:=(v= .slice none 0 0/\es=[])\/∃ g cap,v= Lt g es.length cap/\g<W.heap.size/\es.length<=cap/\∃ F,SR W g F es.length/\∀ i (h:i<es.length),F i=es[i]
theorem SR.of_holds {w:World} {g:Nat} {d:Array De} (h:HoldsK dcl 3 w g 0 d):SR w g (fun i=>d[i]!.e) d.size:=by
 have key:∀ i,i<d.size->∀ j,j<3->w.cell? (Y g (i*3+j))=(dcl d[i]!)[j]?/\w.frozen? (Y g (i*3+j))=false:=fun i hi j hj=>by
  have h1:=h.cell hi hj;rw [Nat.zero_add] at h1;refine ⟨h1.1.trans ?_,h1.2⟩;have hl:j<(dcl d[i]!).length:=by rw [bd5]; exact hj
  rw [getB hl]
 exact ⟨fun i hi=>(key i hi 0 G).1,fun i hi=>(key i hi 1 G).1,fun i hi=>(key i hi 2 G).1,fun i hi=>(key i hi 0 G).2,fun i hi=>(key i hi 1 G).2,fun i hi=>(key i hi 2 G).2⟩
theorem aw4 (w:World):Q 104 #[.slice none 0 0,.func (.func 105) #[] #[]] w fun e w'=>e= .returned (.slice none 0 0)/\w=w':=by
 go_enter Tryz.func104,Tryz.ntmps104;go_wp2_with fail;go_ret;exact ⟨rfl,rfl⟩
end
end Go.Proofs.YtafkfnodcemefaaGreat
