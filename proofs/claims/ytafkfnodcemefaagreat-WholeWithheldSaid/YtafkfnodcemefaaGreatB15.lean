import Derived.Laws.EntriesVeiled
import Derived.Test.YtafkfnodcemefaaGreatB13
import Derived.Test.YtafkfnodcemefaaGreatB14
set_option maxHeartbeats 8000000
set_option maxRecDepth 100000
namespace Go.Proofs.YtafkfnodcemefaaGreat
open _root_.Go.Proofs.Tryz (prog)
section
open Go.RowKit Go.Maps Go.Sort
variable {n:Nat}{o:Option Nat}{f:Pk->Option (Bool)}{xs:List Pk}{w:World}
structure ItP (W:World) (B1 B2:Nat) (v:Value) (o:Option Nat) (n:Nat) (f:Pk->Option (Bool)) (xs:List Pk):Prop where
 b1:Blk 229 W B1 #[v]
 b2:Blk 104 W B2 #[.map o]
 row:Row clP 2 W v xs
 map:Mo pkE W o n (fun x=>(f x).map ownV)
 mem:∀ x,x∈xs↔x.ok/\(f x).isSome=true
 srt:xs.Pairwise ltP
 len:xs.length<=1000000000
 lt:∀ b,b∈itL B1 B2 v o->b<W.heap.size
theorem ItP.keep {W W':World} {B1 B2:Nat} {v:Value} (h:ItP W B1 B2 v o n f xs) (k:Keep (itL B1 B2 v o) W W') (hs:W.heap.size<=W'.heap.size):ItP W' B1 B2 v o n f xs:=
 ⟨(k _ (ad9.2 (.inl rfl))).trans h.b1,(k _ (ad9.2 (.inr (.inl rfl)))).trans h.b2,h.row.keep k (fun _ hb=>ad9.2 (.inr (.inr (.inl hb)))),h.map.of_block (fun b hb=>k b (ad9.2 (.inr (.inr (.inr hb))))),h.mem,h.srt,h.len,fun b hb=>Nat.lt_of_lt_of_le (h.lt b hb) hs⟩
theorem ItP.held {W W':World} {B1 B2 n:Nat} {v:Value} {o:Option Nat} {f:Pk->Option (Bool)} {xs:List Pk} (h:ItP W B1 B2 v o n f xs) (k:Below W.heap.size W W'):ItP W' B1 B2 v o n f xs:=h.keep (.of_below h.lt k) k.size
theorem strictP {ys:List Pk} (hnd:xs.Nodup) (hp:ys.Perm xs) (hs:ys.Pairwise (fun x y=>ltOf cfP y x=false)):ys.Pairwise ltP:=by
 have hnd':ys.Nodup:=hp.nodup_iff.2 hnd;refine (hs.and hnd').imp ?_;rintro x y ⟨h1,h2⟩;rw [bt9] at h1;unfold ltP at h1 ⊢;obtain ⟨xa,xn⟩:=x;obtain ⟨ya,yn⟩:=y;dsimp only at h1 ⊢;have h3:¬ (xa=ya/\xn=yn):=fun h=>h2 (by rw [h.1,h.2])
 omega
theorem sortedKeysP (h:Mo pkE w o n (fun x=>(f x).map ownV)) (hn:n<=1000000000):
  Q 155 #[.map o,.func (.func 103) #[] #[]] w fun e w'=>∃ v ys,e= .returned v/\(∀ x,x∈ys↔x.ok/\(f x).isSome=true)/\ys.Pairwise ltP/\ys.length<=1000000000/\Row clP 2 w' v ys/\(∀ b,v.ownBlock=some b->w.heap.size<=b/\b<w'.heap.size)/\Bw w w':=by
 have hsome:∀ x,((f x).map ownV).isSome=(f x).isSome:=fun x=>by cases f x<;>rfl
 have cB:(w.alloc (.cells #[.map o] 104)).cell? (Y w.heap.size 0)=some (.map o):=(ab3 w #[.map o] 104 0).trans rfl;have hb0:=aa0 w (.cells #[.map o] 104);have hz:=aa1 w (.cells #[.map o] 104);have hF:Q 175 #[.func (.func 197) #[] #[K w.heap.size],.func (.func 103) #[] #[]] (w.alloc (.cells #[.map o] 104)) fun e w'=>∃ v ys,e= .returned v/\(∀ x,x∈ys↔x.ok/\(f x).isSome=true)/\ys.Pairwise ltP/\ys.length<=1000000000/\Row clP 2 w' v ys/\(∀ b,v.ownBlock=some b->w.heap.size<=b/\b<w'.heap.size)/\Bw w w':=by
  cases o with
  |none=>
   refine (sortedFuncP aw1 (N:=0) G (fun xs hx=>by subst hx; simp) (av3 8 _ _ cB)).mono ?_;rintro e w' ⟨v,xs,ys,rfl,rfl,hp,hs,hR,hnl,hb,hB⟩;have:ys=[]:=hp.eq_nil;subst this;refine ⟨v,[],rfl,fun x=>?_,List.Pairwise.nil,sn,hR,fun b hb'=>?_,next hb0 hB⟩
   ·have:(f x).map ownV=none:=h.2 x
    rw [<- hsome x,this];simp
   ·have:=hb b hb'
    omega
  |some r=>
   have h:Mk pkE w r n (fun x=>(f x).map ownV):=h;refine (sortedFuncP aw1 hn (fun xs hx=>?_) (bm3 8 _ r n _ _ cB (h.held hb0))).mono ?_
   ·rw [h.card hx.1 hx.2]; exact hn
   rintro e w' ⟨v,xs,ys,rfl,hx,hp,hs,hR,hnl,hb,hB⟩;refine ⟨v,ys,rfl,fun x=>?_,strictP hx.1 hp hs,?_,hR,fun b hb'=>?_,next hb0 hB⟩
   ·rw [hp.mem_iff,hx.2 x,hsome x]
   ·rw [hp.length_eq,h.card hx.1 hx.2]; exact hn
   ·have:=hb b hb'
    omega
 clear h;have HF:=Z hF;clear hF cB hsome;go_enter Tryz.func155,Tryz.ntmps155;go_wp2_with (first
  |(go_at_call 176; refine (ct1 o _).mono ?_; rintro e w' ⟨rfl,rfl⟩)
  |(go_at_call 175; refine HF.out.mono ?_; rintro e w2 ⟨v,ys,rfl,hm,hs,hl,hR,hb,hB⟩))
 go_ret;exact ⟨v,ys,rfl,hm,hs,hl,hR,hb,hB⟩
theorem cloneP {f:Pk->Option Value} (h:Mo pkE w o n f):
  Q 154 #[.map o] w fun e w'=>∃ o',e= .returned (.map o')/\Mo pkE w' o' n f/\(∀ b,o'=some b->w.heap.size<=b/\b<w'.heap.size)/\Bw w w':=by
 cases o with
 |none=>
  refine (AnyW.maps_Clone_nil Tryz.cloneP w).mono ?_;rintro e w' ⟨rfl,rfl⟩;exact ⟨none,rfl,h,(fun b hb=>by cases hb),Below.refl _ _⟩
 |some r=>
  obtain ⟨D,hown,hn,S⟩:=h;refine (AnyW.maps_Clone_owns Tryz.cloneP _ _ r _ D w hown).mono ?_;rintro e w' ⟨rfl,h1,-,hB⟩;exact ⟨some w.heap.size,rfl,⟨D,h1,hn,S⟩,(fun b hb=>by cases hb; exact ⟨Nat.le_refl _,h1.lt⟩),hB⟩
theorem inOrderP (h:Mo pkE w o n (fun x=>(f x).map ownV)) (hn:n<=1000000000):
  Q 124 #[.map o,.func (.func 103) #[] #[]] w fun e w'=>∃ B1 B2 v o' xs,e= .returned (.func (.func 156) #[] #[K B1,K B2])/\ItP w' B1 B2 v o' n f xs/\(∀ b,b∈itL B1 B2 v o'->w.heap.size<=b)/\Bw w w':=by
 have HC:=Z (cloneP h);clear h;go_enter Tryz.func124,Tryz.ntmps124;go_wp2_with (first
  |(go_at_call 154; refine HC.out.mono ?_; rintro e w1 ⟨o',rfl,hM,ho,hB1⟩; have HS:=sortedKeysP (hM.of_block fun b hb=>(aa0 w1 (.cells #[.map o'] 104)).block b (ho b hb).2) hn; have HM:=Z hM; have HO:=Z ho; have HB1:=Z hB1; replace HS:=Z HS; clear hM ho hB1)
  |(go_at_call 155; refine HS.out.mono ?_; rintro e w3 ⟨v,ys,rfl,hm,hs,hl,hR,hb,hB3⟩; obtain ⟨vp,vl,vc,rfl⟩:=hR.slice; have HY:=H6 hm hs hl hR hb hB3; clear hm hs hl hR hb hB3))
 go_ret;obtain ⟨hm,hs,hl,hR,hb,hB3⟩:=HY.out;clear HY HC HS;generalize Value.slice vp vl vc=v at*;have hB1:=HB1.out;have hb2:=aa0 w1 (.cells #[.map o'] 104);have hb4:=aa0 w3 (.cells #[v] 229);have hz1:=aa1 w1 (.cells #[.map o'] 104);have hz3:=aa1 w3 (.cells #[v] 229);have s1:=hB1.size;have s3:=hB3.size;have hlt:∀ b,b∈itL w3.heap.size w1.heap.size v o'->w.heap.size<=b/\b<w3.heap.size+1:=fun b hb'=>by
  rcases ad9.1 hb' with rfl|rfl|h|h
  ·omega
  ·omega
  ·have:=hb b h; omega
  ·have:=HO.out b h; omega
 refine ⟨w3.heap.size,w1.heap.size,v,o',ys,rfl,⟨Blk.new _ _ _,((Blk.new w1 _ _).held hB3).held hb4,?_,?_,hm,hs,hl,fun b hb'=>by rw [hz3]; exact (hlt b hb').2⟩,fun b hb'=>(hlt b hb').1,next hB1 (next hb2 (next hB3 hb4))⟩
 ·exact hR.keep (L:=v.ownBlock.toList) (.of_below (fun b hb'=>(hb b (by simpa using hb')).2) hb4) (fun b hb'=>by simpa using hb')
 ·exact HM.out.of_block fun b hb'=>(next hb2 (next hB3 hb4)).block b (HO.out b hb').2
end
section
open Go.RowKit Go.Maps
attribute [local go_sem] Oper.semAt_some
theorem aw2:∀ args w,(callFunc 200 args).run prog w= .ok (.enter 200 args) w:=enters_of Tryz.func200 X rfl
theorem bm4 (m:Nat) (Bm b n:Nat) (f:Ky->Option Value) (w:World) (hm:w.cell? (Y Bm 0)=some (.map (some b))) (hM:Mk kyE w b n f):
  SeqStopsK Fence.wide m prog 200 #[K Bm] (fun x:Ky=>#[.agg #[U x.a,I x.n,U x.id]]) KeepsWalks (fun xs=>xs.Nodup/\∀ x,x∈xs↔x.ok/\(f x).isSome=true) (fun _=>True) n w:=fun l J Jx W hW hJ _ hY h0=>by
 have hm':=held hW hm;have hM':=hM.held hW;clear hm hM hW;obtain ⟨w0,hr,hrg0,hg0,hs0⟩:=hM'.range (t:=105) (e:=69) X;have h00:=hJ [] W w0 none h0 hg0 (fun r e=>by cases e);refine callsIn_of_wp Tryz.func200 rfl trivial ?_ rfl;simp only [Tryz.ntmps200,List.size_toArray,List.length_cons,List.length_nil,Nat.reduceAdd,Nat.reduceSub,Array.replicate_succ,Array.replicate_zero,List.push_toArray,List.append_toArray,List.nil_append,List.cons_append]
 gi_wp2
 gi_loopw [6] (fun _ wr=>∃ (left:Ky->Bool) (cnt:Nat) (ss:List Ky),Rg kyE wr b W.heap.size n f left cnt/\ss.length+cnt<=n/\Came kyE f left ss/\J ss wr)
  (fun _ wr=>wr.rangeLeft b W.heap.size)
 case atStart=>
  exact ⟨_,_,[],hrg0,sn,Came.start _ _,h00⟩
 case round=>
  obtain ⟨left,cnt,ss,hrg,hcs,hC,hJs⟩:=hrel;rcases hrg.next 0 with ⟨hc0,hl0,hrun⟩|⟨i,v,w2,cnt2,hi,hli,hfi,hrun,hrg2,hlt,hg2,hs2,hen⟩
  ·gi_wp2
   go_end0;exact ⟨⟨_,rfl⟩,.inl ⟨ss,hC.all hl0,hJs⟩⟩
  ·obtain ⟨xa,xn,xi⟩:=i
   have hJ2:J ss w2:=hJ ss wr w2 (some W.heap.size) hJs hg2 (fun r e=>by cases e; exact ⟨Nat.le_refl _,hrg.iter_walk⟩);have hJ3:J ss (w2.alloc (.cells #[U xa,I xn,U xi] 185)):=hJ ss w2 _ none hJ2 (World.grownBy_alloc w2 _ none) (fun r e=>by cases e);have hrg3:=hrg2.of_walks (KeepsWalks.alloc w2 (.cells #[U xa,I xn,U xi] 185));obtain ⟨fn,tmps,assign,body,hy,hR⟩:=hY ss ⟨xa,xn,xi⟩ _ hJ3 G;have hC2:=hC.step hi hli hfi;replace hrun:(Instr.next (K W.heap.size) false 0).run prog wr= .ok (.tuple #[O true,.agg #[U xa,I xn,U xi],v]) w2:=hrun;replace hen:(Instr.entry (K W.heap.size)).run prog w2= .ok (.tuple #[.agg #[U xa,I xn,U xi],v]) w2:=hen;clear hs2
   gi_wp2
   refine ⟨fun h=>(by cases h),hR.mono ?_⟩;rintro e W3 (⟨rfl,hJ4,hk3⟩|⟨rfl,hJx3⟩)
   ·gi_wp2
    have hrg4:=hrg3.of_walks hk3;go_roundw
    case rel=>exact ⟨_,cnt2,ss++[⟨xa,xn,xi⟩],hrg4,by simp; omega,hC2,hJ4⟩
    case measure=>rw [hrg4.left_eq,hrg.left_eq]; exact hlt
   ·gi_wp2
    refine bodyPost_ret (results_none rfl _ _ _) rfl ?_;exact ⟨⟨_,rfl⟩,.inr ⟨ss++[⟨xa,xn,xi⟩],trivial,hJx3⟩⟩
theorem av4 (m:Nat) (Bm:Nat) (w:World) (hm:w.cell? (Y Bm 0)=some (.map none)):
  SeqStopsK Fence.wide m prog 200 #[K Bm] (fun x:Ky=>#[.agg #[U x.a,I x.n,U x.id]]) KeepsWalks (fun xs=>xs=[]) (fun _=>True) 0 w:=fun l J Jx W hW hJ _ hY h0=>by
 have hm':=held hW hm;clear hm hW;refine callsIn_of_wp Tryz.func200 rfl trivial ?_ rfl;simp only [Tryz.ntmps200,List.size_toArray,List.length_cons,List.length_nil,Nat.reduceAdd,Nat.reduceSub,Array.replicate_succ,Array.replicate_zero,List.push_toArray,List.append_toArray,List.nil_append,List.cons_append];have hrg:=run_range_nilMap (P:=prog) W 105 185 69 X;have hnx:∀ ty,(Instr.next (K W.heap.size) false ty).run prog (W.alloc (.mapIter none 0 #[] 0))=_:=fun ty=>run_next_nilMap _ ty 0 0 #[]
 gi_wp2
 refine wpIn_loop_rounds 1 ?_;rw [roundsIn_succ]
 gi_wp2
 go_end0;exact ⟨⟨_,rfl⟩,.inl ⟨[],rfl,hJ [] W _ none h0 (World.grownBy_alloc W _ none) (fun r e=>by cases e)⟩⟩
theorem ct2 (o:Option Nat) (w:World):Q 178 #[.map o] w fun e w'=>
  e= .returned (.func (.func 200) #[] #[K w.heap.size])/\w'=w.alloc (.cells #[.map o] 105):=by
 go_enter Tryz.func178,Tryz.ntmps178;go_wp2;go_ret;exact ⟨rfl,rfl⟩
def clK (x:Ky):List Value:=[U x.a,I x.n,U x.id]
theorem infoK:(prog.info? 185).map (fun i=>(i.zero,i.size,i.bytes))=some (some (.agg #[U 0,I 0,U 0]),3,24):=X
def GotK (n₀:Nat) (v:Value) (xs:List Ky) (W:World):Prop:=W.ownsRow n₀ 185 3 v xs.length (xs.flatMap clK)/\(v= .slice none 0 0↔xs=[])
theorem appendSeqK {g:Nat} {lb:Array Value} (eg:∀ args w,(callFunc g args).run prog w= .ok (.enter g args) w) {S Sp:List Ky->Prop} {N:Nat} (hN:N<=1000000000) {w:World}
  (hseq:SeqStopsK Fence.wide 8 prog g lb (fun x:Ky=>#[.agg #[U x.a,I x.n,U x.id]]) KeepsWalks S Sp N w):
  Q 211 #[.slice none 0 0,.func (.func g) #[] lb] w fun e w'=>∃ v xs,e= .returned v/\S xs/\GotK w.heap.size v xs w'/\Bw w w':=by
 obtain ⟨i0,hi,hz0,hz1,hz2⟩:=info_parts infoK;refine (callsIn_wide (n:=9)).1 ?_;refine callsIn_of_wp_marks Tryz.func211 rfl trivial ?_ rfl;simp only [Tryz.ntmps211,List.size_toArray,List.length_cons,List.length_nil,Nat.reduceAdd,Nat.reduceSub,Array.replicate_succ,Array.replicate_zero,List.push_toArray,List.append_toArray,List.nil_append,List.cons_append]
 gi_wp2
 refine wpIn_rangeFunc_ownH rfl G (gf:=g) (lb:=lb) rfl trivial eg hseq walksK_t walksK_b (aa0 _ _) (fun _=>rfl)
  (fun pre W=>(∃ v,Boxed W w.heap.size 258 v/\W.ownsRow w.heap.size 185 3 v pre.length (pre.flatMap clK)/\(v= .slice none 0 0↔pre=[]))/\Bw w W)
  (fun _ _ _=>False)
  (OwnFrom.and (Own.from (holdsRow_own w.heap.size w.heap.size 258 185 3 (fun pre=>pre.length) (fun pre=>pre.flatMap clK) (fun pre v=>(v= .slice none 0 0↔pre=[]))) _) (ownFrom_below (Nat.le_refl _) sn))
  (fun _ _ _ _ _ h _ _=>h) ?_
  (fun x a' W=>∃ Bx,Blk 185 W Bx #[U x.a,I x.n,U x.id]/\a'={ tmps:=#[.slice none 0 0,.func (.func g) #[] lb,Pt w.heap.size,undef,.slice none 0 0,Pt Bx,.func (.func g) #[] lb,.agg #[U x.a,I x.n,U x.id],undef,undef,undef,undef,undef],defers:=[] })
  ?_ ?assign ?body ?done ?stop
 ·exact ⟨⟨_,Boxed.new _ _ _,World.ownsRow_nil _ _ _ _,sn⟩,aa0 _ _⟩
 ·rintro x a' s W W' row ⟨Bx,hX,rfl⟩ hg hr
  exact ⟨Bx,hX.grown hg hr,rfl⟩
 case assign=>
  rintro l pre x W K ⟨⟨v,hv,hrow,hnil⟩,hB⟩ hK
  gi_wp2
  exact hK _ _ ((KeepsOthers.alloc _ _).from _) (KeepsWalks.alloc _ _) ⟨⟨v,hv.alloc _,hrow.alloc _,hnil⟩,hB.alloc hB.size _⟩ ⟨_,Blk.new _ _ _,rfl⟩
 case body=>
  rintro l pre ⟨xa,xn,xi⟩ a' W hl hr ⟨⟨v,hv,hrow,hnil⟩,hB⟩ ⟨Bx,hX,rfl⟩ hlt;have cB:=hv.cell;have x0:=hX.at_ 0;have x1:=hX.at_ 1;have x2:=hX.at_ 2;have hle:=hB.size
  gi_wp2_with (first
   |(gi_at_builtin; refine wpListIn_append_own _ rfl _ _ 258 rfl w.heap.size 185 i0 (.agg #[.int .u32 0,.int .i64 0,.int .u32 0]) 3 24 Tryz.underlying258 hi hz0 hz1 hz2 rfl (by decide) _ _ _ rfl (hrow.alloc _) ⟨W.heap.size,0,none⟩ 1 1 [.int .u32 xa,.int .i64 xn,.int .u32 xi] rfl rfl (fun j u hj=>(br9 _ _ _ j).trans (by simpa using hj)) (by simp [Value.oneCell']) (by unfold maxLen; omega) G (by simp; omega) ?_
     intro v' w1 hown' hgrow _;obtain ⟨g',cap',rfl⟩:=ownsRow_succ hown';obtain ⟨hv1,hv2,hr2,hk2,hb2⟩:=hv.appended (by decide) hrow hB.size (Nat.le_refl _) hown' hgrow;have hc1:=hv1.cell;have hf1:=hv1.frozen)
   |gi_in)
  refine ⟨hk2.from _,hk2.walks,⟨_,hv2,by simpa [clK] using hr2,sn⟩,?_⟩;exact hB.trans hb2
 case done=>
  rintro D xs W hD hS ⟨⟨v,hv,hrow,hnil⟩,hB⟩ hK;have cB:=hv.cell;have hD':w.heap.size<=D:=by simp at hD; omega
  gi_wp2
  refine ⟨by simp,.inl ⟨_,_,rfl,run_takeDeferred hK,?_⟩⟩;exact ⟨_,results_tmp rfl _ _ _,v,xs,rfl,hS,⟨ownsRow_putObj hrow _ hK rfl,hnil⟩,hB.grown (grownBy_putObj' _ _ _) hB.size (fun k e=>by cases e; exact hD')⟩
 case stop=>
  rintro D c pre W _ _ h _;exact h.elim
end
section
open Go.RowKit Go.Maps Go.Sort
variable {g n:Nat}{lb:Array Value}{v:Value}{xs:List Ky}{W w:World}{o:Option Nat}
instance:Inhabited Ky:=⟨⟨0,0,0⟩⟩
theorem aq7 (x:Ky):(clK x).length=3:=rfl
theorem df9 (x:Ky):∀ v∈clK x,v.oneCell'=true:=by
 intro v hv;simp [clK] at hv;rcases hv with rfl|rfl|rfl<;>rfl
theorem bz0:∀ args w,(callFunc 127 args).run prog w= .ok (.enter 127 args) w:=enters_of Tryz.func127 X rfl
theorem cm0 (blk off size:Nat) (w:World):CmpLays prog 127 #[] clK 3 cfK blk off size w:=fun _ _ _ _ x y=>
 df6 x.a x.n x.id y.a y.n y.id _
theorem collectK (eg:∀ args w,(callFunc g args).run prog w= .ok (.enter g args) w) {S Sp:List Ky->Prop} {N:Nat} (hN:N<=1000000000) {w:World}
  (hseq:SeqStopsK Fence.wide 8 prog g lb (fun x:Ky=>#[.agg #[U x.a,I x.n,U x.id]]) KeepsWalks S Sp N w):
  Q 198 #[.func (.func g) #[] lb] w fun e w'=>∃ v xs,e= .returned v/\S xs/\GotK w.heap.size v xs w'/\Bw w w':=by
 have hC:=appendSeqK eg hN hseq;clear hseq;go_enter Tryz.func198,Tryz.ntmps198;go_wp2_with (go_at_call 211; refine hC.mono ?_; rintro e w' ⟨v,xs,rfl,hS,hG,hB⟩);go_ret;exact ⟨v,xs,rfl,hS,hG,hB⟩
theorem sortFuncK {n₀:Nat} (hlen:xs.length<=1000000000) (h:GotK n₀ v xs W):
  Q 199 #[v,.func (.func 127) #[] #[]] W fun e w'=>e= .returned (.tuple #[])/\∃ ys,ys.Perm xs/\ys.Pairwise (fun x y=>ltOf cfK y x=false)/\Row clK 3 w' v ys/\(v= .slice none 0 0↔ys=[])/\(∀ b,v.ownBlock=some b->n₀<=b/\b<w'.heap.size)/\W.grownBy w' v.ownBlock:=by
 obtain ⟨hrow,hnil⟩:=h;rcases hrow.2 with ⟨rfl,h0⟩|⟨g,cap,cur,rfl,hg0,hb,h1,h2,h3,h4⟩
 ·have:xs=[]:=List.eq_nil_of_length_eq_zero h0
  subst this;refine (AnyF.slices_SortFunc_none Tryz.sortK none 0 _ W).mono ?_;rintro e w' ⟨rfl,rfl⟩;exact ⟨rfl,[],List.Perm.refl _,List.Pairwise.nil,.inl ⟨rfl,rfl⟩,sn,(fun b hb=>by cases hb),⟨rfl,rfl,rfl,Nat.le_refl _,fun _ _ _=>rfl⟩⟩
 ·have hH:HoldsK clK 3 W g 0 xs.toArray:=ae4 aq7 hb h4
  have hgl:g<W.heap.size:=(Array.getElem?_eq_some_iff.1 hb).1;refine (AnyQ.slices_SortFunc Tryz.sortK 3 Tryz.isAgg185 Tryz.sizeOf185 clK aq7 df9 cfK swoK 127 #[] g 0 cap xs.toArray W bz0 (cm0 _ _ _ _) hH hgl (by simp; omega)).mono ?_;rintro e w' ⟨rfl,d',n,os,hp,hs,rfl⟩;have hsz:d'.size=xs.length:=hp.1.trans sn;have hH':=holdsK_sortWorldK_c clK 3 W g 0 xs.toArray d' n os hH hgl hp.1;have hR:=Row.of_holds aq7 hH' (show d'.size<=cap by omega) h2;rw [hsz] at hR;refine ⟨rfl,d'.toList,(ap9 hp).trans sn,ai4 (by rw [hp.1]; exact hs),hR,?_,?_,ae0 _⟩
  ·constructor
   ·intro h; cases h
   ·intro h
    have:d'.size=0:=by rw [<- Array.length_toList,h]; rfl
    have hx:=hnil.2 (List.eq_nil_of_length_eq_zero G)
    cases hx
  ·intro b hb'
   cases hb';exact ⟨hg0,Nat.lt_of_lt_of_le hgl (size_sortWorldK_c _ _ _ _ _ _ _ _)⟩
theorem sortedFuncK (eg:∀ args w,(callFunc g args).run prog w= .ok (.enter g args) w) {S Sp:List Ky->Prop} {N:Nat} (hN:N<=1000000000) (hS:∀ xs,S xs->xs.length<=1000000000) {w:World}
  (hseq:SeqStopsK Fence.wide 8 prog g lb (fun x:Ky=>#[.agg #[U x.a,I x.n,U x.id]]) KeepsWalks S Sp N w):
  Q 177 #[.func (.func g) #[] lb,.func (.func 127) #[] #[]] w fun e w'=>∃ v xs ys,e= .returned v/\S xs/\ys.Perm xs/\ys.Pairwise (fun x y=>ltOf cfK y x=false)/\Row clK 3 w' v ys/\(v= .slice none 0 0↔ys=[])/\(∀ b,v.ownBlock=some b->w.heap.size<=b/\b<w'.heap.size)/\Bw w w':=by
 have hC:=collectK eg hN hseq;clear hseq;go_enter Tryz.func177,Tryz.ntmps177;go_wp2_with (first
  |(go_at_call 198; refine hC.mono ?_; rintro e w' ⟨v,xs,rfl,hSx,hG,hB⟩; have hF:=sortFuncK (hS _ hSx) hG)
  |(go_at_call 199; refine hF.mono ?_; rintro e w2 ⟨rfl,ys,hp,hs,hR,hn,hb,hg⟩))
 go_ret;exact ⟨v,xs,ys,rfl,hSx,hp,hs,hR,hn,hb,hB.grown hg hB.size (fun k e=>(hb k e).1)⟩
structure ItK (W:World) (B1 B2:Nat) (v:Value) (o:Option Nat) (n:Nat) (f:Ky->Option (Nat×Nat)) (xs:List Ky):Prop where
 b1:Blk 258 W B1 #[v]
 b2:Blk 105 W B2 #[.map o]
 row:Row clK 3 W v xs
 map:Mo kyE W o n (fun x=>(f x).map dV)
 mem:∀ x,x∈xs↔x.ok/\(f x).isSome=true
 srt:xs.Pairwise ltK
 len:xs.length<=1000000000
 lt:∀ b,b∈itL B1 B2 v o->b<W.heap.size
theorem ItK.keep {W':World} {B1 B2:Nat} {f:Ky->Option (Nat×Nat)} (h:ItK W B1 B2 v o n f xs) (k:Keep (itL B1 B2 v o) W W') (hs:W.heap.size<=W'.heap.size):ItK W' B1 B2 v o n f xs:=
 ⟨(k _ (ad9.2 (.inl rfl))).trans h.b1,(k _ (ad9.2 (.inr (.inl rfl)))).trans h.b2,h.row.keep k (fun _ hb=>ad9.2 (.inr (.inr (.inl hb)))),h.map.of_block (fun b hb=>k b (ad9.2 (.inr (.inr (.inr hb))))),h.mem,h.srt,h.len,fun b hb=>Nat.lt_of_lt_of_le (h.lt b hb) hs⟩
theorem ItK.held {W W':World} {B1 B2 n:Nat} {v:Value} {o:Option Nat} {f:Ky->Option (Nat×Nat)} {xs:List Ky} (h:ItK W B1 B2 v o n f xs) (k:Below W.heap.size W W'):ItK W' B1 B2 v o n f xs:=h.keep (.of_below h.lt k) k.size
theorem strictK {ys:List Ky} (hnd:xs.Nodup) (hp:ys.Perm xs) (hs:ys.Pairwise (fun x y=>ltOf cfK y x=false)):ys.Pairwise ltK:=by
 have hnd':ys.Nodup:=hp.nodup_iff.2 hnd;refine (hs.and hnd').imp ?_;rintro x y ⟨h1,h2⟩;rw [cm5] at h1;unfold ltK ltP at h1 ⊢;obtain ⟨xa,xn,xi⟩:=x;obtain ⟨ya,yn,yi⟩:=y;dsimp only at h1 ⊢;have h3:¬ (xa=ya/\xn=yn/\xi=yi):=fun h=>h2 (by rw [h.1,h.2.1,h.2.2])
 omega
theorem sortedKeysK {f:Ky->Option (Nat×Nat)} (h:Mo kyE w o n (fun x=>(f x).map dV)) (hn:n<=1000000000):
  Q 158 #[.map o,.func (.func 127) #[] #[]] w fun e w'=>∃ v ys,e= .returned v/\(∀ x,x∈ys↔x.ok/\(f x).isSome=true)/\ys.Pairwise ltK/\ys.length<=1000000000/\Row clK 3 w' v ys/\(∀ b,v.ownBlock=some b->w.heap.size<=b/\b<w'.heap.size)/\Bw w w':=by
 have hsome:∀ x,((f x).map dV).isSome=(f x).isSome:=fun x=>by cases f x<;>rfl
 have cB:(w.alloc (.cells #[.map o] 105)).cell? (Y w.heap.size 0)=some (.map o):=(ab3 w #[.map o] 105 0).trans rfl;have hb0:=aa0 w (.cells #[.map o] 105);have hz:=aa1 w (.cells #[.map o] 105);have hF:Q 177 #[.func (.func 200) #[] #[K w.heap.size],.func (.func 127) #[] #[]] (w.alloc (.cells #[.map o] 105)) fun e w'=>∃ v ys,e= .returned v/\(∀ x,x∈ys↔x.ok/\(f x).isSome=true)/\ys.Pairwise ltK/\ys.length<=1000000000/\Row clK 3 w' v ys/\(∀ b,v.ownBlock=some b->w.heap.size<=b/\b<w'.heap.size)/\Bw w w':=by
  cases o with
  |none=>
   refine (sortedFuncK aw2 (N:=0) G (fun xs hx=>by subst hx; simp) (av4 8 _ _ cB)).mono ?_;rintro e w' ⟨v,xs,ys,rfl,rfl,hp,hs,hR,hnl,hb,hB⟩;have:ys=[]:=hp.eq_nil;subst this;refine ⟨v,[],rfl,fun x=>?_,List.Pairwise.nil,sn,hR,fun b hb'=>?_,next hb0 hB⟩
   ·have:(f x).map dV=none:=h.2 x
    rw [<- hsome x,this];simp
   ·have:=hb b hb'
    omega
  |some r=>
   have h:Mk kyE w r n (fun x=>(f x).map dV):=h;refine (sortedFuncK aw2 hn (fun xs hx=>?_) (bm4 8 _ r n _ _ cB (h.held hb0))).mono ?_
   ·rw [h.card hx.1 hx.2]; exact hn
   rintro e w' ⟨v,xs,ys,rfl,hx,hp,hs,hR,hnl,hb,hB⟩;refine ⟨v,ys,rfl,fun x=>?_,strictK hx.1 hp hs,?_,hR,fun b hb'=>?_,next hb0 hB⟩
   ·rw [hp.mem_iff,hx.2 x,hsome x]
   ·rw [hp.length_eq,h.card hx.1 hx.2]; exact hn
   ·have:=hb b hb'
    omega
 clear h;have HF:=Z hF;clear hF cB hsome;go_enter Tryz.func158,Tryz.ntmps158;go_wp2_with (first
  |(go_at_call 178; refine (ct2 o _).mono ?_; rintro e w' ⟨rfl,rfl⟩)
  |(go_at_call 177; refine HF.out.mono ?_; rintro e w2 ⟨v,ys,rfl,hm,hs,hl,hR,hb,hB⟩))
 go_ret;exact ⟨v,ys,rfl,hm,hs,hl,hR,hb,hB⟩
theorem cloneK {f:Ky->Option Value} (h:Mo kyE w o n f):
  Q 157 #[.map o] w fun e w'=>∃ o',e= .returned (.map o')/\Mo kyE w' o' n f/\(∀ b,o'=some b->w.heap.size<=b/\b<w'.heap.size)/\Bw w w':=by
 cases o with
 |none=>
  refine (AnyW.maps_Clone_nil Tryz.cloneK w).mono ?_;rintro e w' ⟨rfl,rfl⟩;exact ⟨none,rfl,h,(fun b hb=>by cases hb),Below.refl _ _⟩
 |some r=>
  obtain ⟨D,hown,hn,S⟩:=h;refine (AnyW.maps_Clone_owns Tryz.cloneK _ _ r _ D w hown).mono ?_;rintro e w' ⟨rfl,h1,-,hB⟩;exact ⟨some w.heap.size,rfl,⟨D,h1,hn,S⟩,(fun b hb=>by cases hb; exact ⟨Nat.le_refl _,h1.lt⟩),hB⟩
theorem inOrderK {f:Ky->Option (Nat×Nat)} (h:Mo kyE w o n (fun x=>(f x).map dV)) (hn:n<=1000000000):
  Q 126 #[.map o,.func (.func 127) #[] #[]] w fun e w'=>∃ B1 B2 v o' xs,e= .returned (.func (.func 159) #[] #[K B1,K B2])/\ItK w' B1 B2 v o' n f xs/\(∀ b,b∈itL B1 B2 v o'->w.heap.size<=b)/\Bw w w':=by
 have HC:=Z (cloneK h);clear h;go_enter Tryz.func126,Tryz.ntmps126;go_wp2_with (first
  |(go_at_call 157; refine HC.out.mono ?_; rintro e w1 ⟨o',rfl,hM,ho,hB1⟩; have HS:=sortedKeysK (hM.of_block fun b hb=>(aa0 w1 (.cells #[.map o'] 105)).block b (ho b hb).2) hn; have HM:=Z hM; have HO:=Z ho; have HB1:=Z hB1; replace HS:=Z HS; clear hM ho hB1)
  |(go_at_call 158; refine HS.out.mono ?_; rintro e w3 ⟨v,ys,rfl,hm,hs,hl,hR,hb,hB3⟩; obtain ⟨vp,vl,vc,rfl⟩:=hR.slice; have HY:=H6 hm hs hl hR hb hB3; clear hm hs hl hR hb hB3))
 go_ret;obtain ⟨hm,hs,hl,hR,hb,hB3⟩:=HY.out;clear HY HC HS;generalize Value.slice vp vl vc=v at*;have hB1:=HB1.out;have hb2:=aa0 w1 (.cells #[.map o'] 105);have hb4:=aa0 w3 (.cells #[v] 258);have hz1:=aa1 w1 (.cells #[.map o'] 105);have hz3:=aa1 w3 (.cells #[v] 258);have s1:=hB1.size;have s3:=hB3.size;have hlt:∀ b,b∈itL w3.heap.size w1.heap.size v o'->w.heap.size<=b/\b<w3.heap.size+1:=fun b hb'=>by
  rcases ad9.1 hb' with rfl|rfl|h|h
  ·omega
  ·omega
  ·have:=hb b h; omega
  ·have:=HO.out b h; omega
 refine ⟨w3.heap.size,w1.heap.size,v,o',ys,rfl,⟨Blk.new _ _ _,((Blk.new w1 _ _).held hB3).held hb4,?_,?_,hm,hs,hl,fun b hb'=>by rw [hz3]; exact (hlt b hb').2⟩,fun b hb'=>(hlt b hb').1,next hB1 (next hb2 (next hB3 hb4))⟩
 ·exact hR.keep (L:=v.ownBlock.toList) (.of_below (fun b hb'=>(hb b (by simpa using hb')).2) hb4) (fun b hb'=>by simpa using hb')
 ·exact HM.out.of_block fun b hb'=>(next hb2 (next hB3 hb4)).block b (HO.out b hb').2
end
section
open Go.RowKit Rm
variable {w:World}{d id lease m n:Nat}{fl o:Option Nat}
variable {tS:TypeId} {XS:List Value}
theorem bb5 {own:Pk->Option Bool} {floor:Ky->Option (Nat×Nat)} (h:St tS XS w d o fl id lease n m own floor):
  Q 98 #[K d] w fun e w'=>∃ B1 B2 B3 v o' xs,e= .returned (.func (.func 125) #[] #[K B3])/\ItP w' B1 B2 v o' n own xs/\
   Blk 222 w' B3 #[.func (.func 156) #[] #[K B1,K B2]]/\(∀ b,b∈itL B1 B2 v o'->w.heap.size<=b)/\w.heap.size<=B3/\Bw w w':=by
 have c2:w.cell? (Y d 2)=some (.map o):=h.head.at_ 2;have HI:=Z (inOrderP h.owns (by have:=h.counts; omega));clear h;go_enter Tryz.func98,Tryz.ntmps98;go_wp2_with (go_at_call 124; refine HI.out.mono ?_; rintro e w2 ⟨B1,B2,v,o',xs,rfl,hI,hf,hB⟩);go_ret;have hb:=aa0 w2 (.cells #[.func (.func 156) #[] #[K B1,K B2]] 222);exact ⟨B1,B2,w2.heap.size,v,o',xs,rfl,hI.held hb,Blk.new _ _ _,hf,hB.size,next hB hb⟩
theorem by3 {own:Pk->Option Bool} {floor:Ky->Option (Nat×Nat)} (h:St tS XS w d o fl id lease n m own floor):
  Q 99 #[K d] w fun e w'=>∃ B1 B2 v o' xs,e= .returned (.func (.func 159) #[] #[K B1,K B2])/\ItK w' B1 B2 v o' m floor xs/\
   (∀ b,b∈itL B1 B2 v o'->w.heap.size<=b)/\Bw w w':=by
 have c3:w.cell? (Y d 3)=some (.map fl):=h.head.at_ 3;have HI:=Z (inOrderK h.floors (by have:=h.counts; omega));clear h;go_enter Tryz.func99,Tryz.ntmps99;go_wp2_with (go_at_call 126; refine HI.out.mono ?_; rintro e w2 ⟨B1,B2,v,o',xs,rfl,hI,hf,hB⟩);go_ret;exact ⟨B1,B2,v,o',xs,rfl,hI,hf,hB⟩
end
section
open Go.RowKit Go.Maps Rm
attribute [local go_sem] Oper.semAt_some
def mr1 (id d:Nat) (sm:Sm):Mr:=⟨id,sm,fun _=>none,fun _=>0,0,0,0,d⟩
def Lies (w:World) (d S Mp id room:Nat) (sm:Sm):Prop:=∃ dn safe,Dk w d S Mp dn safe (fun _=>none) (-1)/\4<=dn/\room<=500/\((sm=sm0/\room+1<=dn / 2/\∀ i,i<dn->recAt (safe i)=none)\/∃ j:Jr,Jd dn safe (fun _=>none) j id d sm/\j.len+room+1<=j.size)
end
end Go.Proofs.YtafkfnodcemefaaGreat
