import Derived.Test.YtafkfnodcemefaaGreatB26
set_option maxHeartbeats 8000000
set_option maxRecDepth 100000
namespace Go.Proofs.YtafkfnodcemefaaGreat
open _root_.Go.Proofs.Tryz (prog)
section
open Go.RowKit Go.Maps Rm
attribute [local go_sem] Oper.semAt_some
variable {w:World}{d gen id lb size:Nat}
def recsFrom (f:Nat->Option Rc) (gen:Nat):Nat->Nat->List Rc
 |_,0=>[]
 |p,k+1=>match f p with
  |some r=>if r.lsn=p/\r.kind≠1/\r.gen=gen then r::recsFrom f gen (p+1) k else []
  |none=>[]
theorem ar2 (f:Nat->Option Rc) (gen:Nat):∀ k p,(recsFrom f gen p k).length<=k
 |0,p=>by simp [recsFrom]
 |k+1,p=>by
  rw [recsFrom];split
  ·split
   ·have:=ar2 f gen k (p+1)
    simp;omega
   ·simp
  ·simp
theorem elemR:Elem prog 244 160 rcells 9 56:=⟨by kernel_rfl,ae2 (z:= .agg #[I 0,U 0,U 0,U 0,U 0,I 0,O false,U 0,V 0]) X rfl,G,fun _=>rfl,fun x v hv=>by
 simp only [rcells,rcl,List.mem_cons,List.not_mem_nil,or_false] at hv;rcases hv with rfl|rfl|rfl|rfl|rfl|rfl|rfl|rfl|rfl<;>rfl,G⟩
section
variable {w w':World} {d S M n:Nat} {safe:Nat->List UInt8} {wn:Int->Option (List UInt8)} {well:Int}
theorem bw4 (h:Dk w d S M n safe wn well) {first size gen:Nat} (hfit:first+size<=n) (hs:size<=1000):
  Q 168 #[.agg #[K d,I first,I size,U gen]] w fun e w'=>∃ v,e= .returned v/\Ol 160 rcells 9 w.heap.size v (recsFrom (fun p=>recAt (synced safe wn (first+p))) gen 1 (size - 1)) w'/\Bw w w':=by
 obtain ⟨f,hf⟩:∃ f:Nat->Option Rc,∀ p,recAt (synced safe wn (first+p))=f p:=⟨_,fun _=>rfl⟩;rw [show (fun p=>recAt (synced safe wn (first+p)))=f from funext hf];obtain ⟨full,hfull⟩:=ey (recsFrom f gen 1 (size - 1));rw [hfull];have HF:=H2 hf hfull;clear hf hfull;obtain ⟨hb,hX⟩:=nw w 109 #[K d,I first,I size,U gen];have x2:=hX.at_ 2;have H:=H3 h hX hb;clear h hX hb;go_enter Tryz.func168,Tryz.ntmps168;go_wp2;go_step3;go_wp2;go_step3;go_wp2;have H1:=Z (aa1 w (.cells #[K d,I first,I size,U gen] 109));clear x2;generalize w.alloc _=w1 at*;go_loopw [3,9] (fun l i wr=>∃ (p:Nat) (xs:List Rc),i= I p/\p<=size/\Hid (Ol 160 rcells 9 (w.heap.size+1) l xs wr/\Bw w1 wr/\full=xs++recsFrom f gen (max p 1) (size - max p 1)/\xs.length<=p)) (fun _ i _=>size - (intOf i).toNat)
 case atStart=>exact ⟨0,[],rfl,Nat.zero_le _,Ol.nil _ _,.refl _ _,HF.out.2.symm,Nat.le_refl _⟩
 case round=>
  obtain ⟨p,xs,rfl,hp,S⟩:=hrel;obtain ⟨p0,c0,rfl,hc0⟩:=S.out.1.form;obtain ⟨L,hL⟩:=ey xs.length;rw [hL];have HL:=Z hL;clear hL hc0;by_cases hps:p<size
  ·have hpz:(p:Int)<(size:Int):=og
   by_cases hp1:p<1
   ·have hp0:p=0:=og
    have dp:=dT ((p:Int)<1);have S2:=Z (show Ol 160 rcells 9 (w.heap.size+1) (.slice p0 L c0) xs wr/\Bw w1 wr/\full=xs++recsFrom f gen (max (p+1) 1) (size - max (p+1) 1)/\xs.length<=p+1 from by
     rw [<- HL.out];refine ⟨S.out.1,S.out.2.1,?_,by have:=S.out.2.2.2; omega⟩;rw [S.out.2.2.1,show max p 1=1 by omega,show max (p+1) 1=1 by omega])
    clear S hp0;go_wp2_with fail;go_roundw
    case rel=>exact ⟨p+1,xs,by go_num,og,S2.out⟩
    case measure=>simp [intOf]; omega
   ·have dp:=df ((p:Int)<1)
    have hB1:=H.out.2.2.trans (S.out.2.1.mono H.out.2.2.size);obtain ⟨⟨k,g,l,id,a,len,on,s,m⟩,hr⟩:∃ r,(f p).getD Rm.zero=r:=⟨_,rfl⟩;obtain ⟨ok,hok⟩:∃ ok,(f p).isSome=ok:=⟨_,rfl⟩;obtain ⟨q,hq⟩:∃ q,(ok && (l==p))=q:=⟨_,rfl⟩;have HA:=cy1 (H.out.1.held hB1) (first:=first) (size:=size) (gen:=gen) (place:=p) og (by rw [HF.out.1]; exact hr) (by rw [HF.out.1]; exact hok) hq;have hX:=H.out.2.1.held S.out.2.1;have x0:=hX.at_ 0;have x1:=hX.at_ 1;have x2:=hX.at_ 2;have x3:=hX.at_ 3;have hmax:max p 1=p:=og;have hrest:full=xs++recsFrom f gen p ((size - p - 1)+1):=by
     have:=S.out.2.2.1;rw [hmax,show size - p=(size - p - 1)+1 by omega] at this;exact this
    have hstop:(q=false\/k=1\/g≠gen)->full=xs:=fun hst=>by
     rw [hrest,recsFrom]
     cases hfp:f p with
     |none=>simp
     |some r=>
      rw [hfp] at hr hok;obtain rfl:r=⟨k,g,l,id,a,len,on,s,m⟩:=hr;obtain rfl:ok=true:=hok.symm;simp only;rw [if_neg]
      ·simp
      ·rintro ⟨e1,e2,e3⟩
       rcases hst with e|e|e
       ·rw [e,show l=p from e1] at hq
        simp at hq
       ·exact e2 e
       ·exact e e3
    have hgo:q=true->k≠1->g=gen->full=(xs++[⟨k,g,l,id,a,len,on,s,m⟩])++recsFrom f gen (p+1) (size - p - 1):=fun e1 e2 e3=>by
     rw [hrest,recsFrom];rw [<- hq,Bool.and_eq_true] at e1
     cases hfp:f p with
     |none=>rw [hfp] at hok; rw [<- hok] at e1; cases e1.1
     |some r=>
      rw [hfp] at hr;obtain rfl:r=⟨k,g,l,id,a,len,on,s,m⟩:=hr;simp only;rw [if_pos ⟨by simpa using e1.2,e2,e3⟩];simp
    have E:=H4 hstop hgo S.out hB1;clear hstop hgo hrest hmax hr hok hq S hB1;have stop:∀ w2:World,Below wr.heap.size wr w2->(q=false\/k=1\/g≠gen)->∃ v,(Value.slice p0 L c0)=v/\Ol 160 rcells 9 w.heap.size v full w2/\Bw w w2:=fun w2 hb hst=>by
     refine ⟨_,rfl,?_,E.out.2.2.2.trans (hb.mono E.out.2.2.2.size)⟩;rw [E.out.1 hst,<- HL.out];exact (E.out.2.2.1.1.held hb).mono (Nat.le_succ _)
    have ST:=Z stop;clear stop
    cases q with
    |false=>
     simp only [Bool.false_eq_true,if_false] at HA;go_wp2_with (go_at_call 191; refine HA.mono ?_; rintro e w2 ⟨rfl,hb2⟩; have G:=Z (ST.out _ (next hb2 (aa0 w2 (.cells #[I 0,U 0,U 0,U 0,U 0,I 0,O false,U 0,V 0] 160))) (.inl rfl)))
     (try rw [Exit.noGoto_ret])
     go_ret;obtain ⟨v,rfl,h1,h2⟩:=G.out;exact ⟨_,rfl,h1,h2⟩
    |true=>
     simp only [if_true] at HA;go_upto_region 8 with (go_at_call 191; refine HA.mono ?_; rintro e w2 ⟨rfl,hb2⟩);have hb3:=next hb2 (aa0 w2 (.cells #[I k,U g,U l,U id,U a,I len,O on,U s,V m] 160));have R3:=Blk.new w2 160 #[I k,U g,U l,U id,U a,I len,O on,U s,V m];have hs3:=aa1 w2 (.cells #[I k,U g,U l,U id,U a,I len,O on,U s,V m] 160);have HS3:=Z hs3;have hX3:=hX.held hb3;clear HA hb2 x0 x1 x2 x3 hs3 hX;generalize hw3:w2.alloc (.cells #[I k,U g,U l,U id,U a,I len,O on,U s,V m] 160)=w3 at*;have r0:=R3.at_ 0;have r1:=R3.at_ 1;have y3:=hX3.at_ 3;by_cases hk1:k=1
     ·have d1:(k==1)=true:=beq_iff_eq.2 hk1
      have G:=Z (ST.out _ hb3 (.inr (.inl hk1)));clear hk1;go_wp2_with fail
      (try rw [Exit.noGoto_ret])
      go_ret;obtain ⟨v,rfl,h1,h2⟩:=G.out;exact ⟨_,rfl,h1,h2⟩
     ·have d1:(k==1)=false:=beq_eq_false_iff_ne.2 hk1
      by_cases hg:g=gen
      ·have hfl:=E.out.2.1 (by first|trivial|rfl) hk1 hg
       have d2:((g:Int) !=(gen:Int))=false:=by rw [hg]; simp
       have d3:(g !=gen)=false:=by rw [hg]; simp
       have hO3:=E.out.2.2.1.1.held hb3;have hlx:=E.out.2.2.1.2.2.2;have hBw:w.heap.size+1<=w3.heap.size:=by rw [<- H1.out]; exact Nat.le_trans E.out.2.2.1.2.1.size hb3.size
       obtain ⟨g',c',w5,hrun,hO5,hT5,-⟩:=Ol.push1 elemR hO3 hBw ⟨k,g,l,id,a,len,on,s,m⟩ og 244;have hB5:=own_below hO3 (show Below (w.heap.size+1) w1 w3 from by rw [<- H1.out]; exact E.out.2.2.1.2.1.trans (hb3.mono E.out.2.2.1.2.1.size)) hBw hT5;rw [<- H1.out] at hB5;rw [HL.out] at hrun hO5;obtain ⟨L1,hL1⟩:=ey (L+1);rw [hL1] at hrun hO5;have S2:=Z (show Ol 160 rcells 9 (w.heap.size+1) (Lt g' L1 c') (xs++[⟨k,g,l,id,a,len,on,s,m⟩]) w5/\Bw w1 w5/\full=(xs++[⟨k,g,l,id,a,len,on,s,m⟩])++recsFrom f gen (max (p+1) 1) (size - max (p+1) 1)/\(xs++[(⟨k,g,l,id,a,len,on,s,m⟩:Rc)]).length<=p+1 from ⟨hO5,hB5,by rw [show max (p+1) 1=p+1 by omega,show size - (p+1)=size - p - 1 by omega]; exact hfl,by simp; omega⟩);have q2:=R3.at_ 2;have q3:=R3.at_ 3;have q4:=R3.at_ 4;have q5:=R3.at_ 5;have q6:=R3.at_ 6;have q7:=R3.at_ 7;have q8:=R3.at_ 8;replace hrun:(Builtin.append_ #[244,244] 244 #[.slice p0 L c0,Lt w3.heap.size 1 1]).run prog (w3.alloc (.cells #[I k,U g,U l,U id,U a,I len,O on,U s,V m] 160))= .ok (Lt g' L1 c') w5:=hrun;clear hfl hg hk1 hO3 hBw hO5 hT5 hB5 hL1 E ST R3 hX3 hw3 hlx;go_wp2_with (first|(at_builtin; refine Lib.wpList_append_run _ rfl (.tmp 20) (.tmp 22) 244 244 rfl _ _ rfl rfl _ _ hrun ?_)|fail);go_roundw
       case rel=>exact ⟨p+1,_,by go_num,og,S2.out⟩
       case measure=>simp [intOf]; omega
      ·have d2:((g:Int) !=(gen:Int))=true:=by simp; omega
       have G:=Z (ST.out _ hb3 (.inr (.inr hg)));clear hk1;go_wp2_with fail
       (try rw [Exit.noGoto_ret])
       go_ret;obtain ⟨v,rfl,h1,h2⟩:=G.out;exact ⟨_,rfl,h1,h2⟩
  ·have dps:=df ((p:Int)<(size:Int))
   have G:=Z (show ∃ v,(Value.slice p0 L c0)=v/\Ol 160 rcells 9 w.heap.size v full wr/\Bw w wr from by
    refine ⟨_,rfl,?_,H.out.2.2.trans (S.out.2.1.mono H.out.2.2.size)⟩;have h1:=S.out.2.2.1;rw [show size - max p 1=0 by omega,recsFrom,List.append_nil] at h1;rw [h1,<- HL.out];exact S.out.1.mono (Nat.le_succ _))
   clear S;go_wp2_with fail
   (try rw [Exit.noGoto_ret])
   go_ret;obtain ⟨v,rfl,h1,h2⟩:=G.out;exact ⟨_,rfl,h1,h2⟩
end
theorem by1 {half rid:Nat} {pa pb:Option Addr} {fa sa ga fb sb gb:Int} {qa qb:Bool}
  (HA0:∀ W:World,Below w.heap.size w W->Q 167 #[.agg #[K d,I 0,I half,U 0],U rid] W (Rr0 W (.tuple #[.agg #[.pointer pa,I fa,I sa,U ga],O qa])))
  (HB0:∀ W:World,Below w.heap.size w W->Q 167 #[.agg #[K d,I half,I half,U 0],U rid] W (Rr0 W (.tuple #[.agg #[.pointer pb,I fb,I sb,U gb],O qb]))):
  Q 138 #[.agg #[K d,I 0,I half,U 0,K d,I half,I half,U 0],U rid] w (Rr0 w (if qb=true/\(qa=false\/ga<gb) then .tuple #[.agg #[.pointer pb,I fb,I sb,U gb],O true] else .tuple #[.agg #[.pointer pa,I fa,I sa,U ga],O qa])):=by
 obtain ⟨lt,hg,dg⟩:∃ lt:Bool,(ga<gb↔lt=true)/\decide (ga<gb)=lt:=⟨decide (ga<gb),sn,rfl⟩;obtain ⟨r,hr⟩:∃ r:Value,(if qb=true/\(qa=false\/ga<gb) then .tuple #[.agg #[.pointer pb,I fb,I sb,U gb],O true] else .tuple #[.agg #[.pointer pa,I fa,I sa,U ga],O qa])=r:=⟨_,rfl⟩;rw [hr]
 cases qb<;>cases qa<;>cases lt;all_goals
  simp only [hg,Bool.false_eq_true,or_true,or_false,if_true,if_false,reduceCtorEq,and_self,and_false,and_true] at hr;subst hr;clear hg;have hX:=Blk.new (w.alloc (.cells #[K d,I 0,I half,U 0,K d,I half,I half,U 0] 236)) 109 #[.pointer none,I 0,I 0,U 0];have hP:=(Blk.new w 236 #[K d,I 0,I half,U 0,K d,I half,I half,U 0]).more (.cells #[.pointer none,I 0,I 0,U 0] 109);have hb:=next (aa0 w (.cells #[K d,I 0,I half,U 0,K d,I half,I half,U 0] 236)) (aa0 _ (.cells #[.pointer none,I 0,I 0,U 0] 109));rw [aa1] at hX;have HH:=H5 HA0 HB0 hX hP hb;have c0:=hP.at_ 0;have c1:=hP.at_ 1;have c2:=hP.at_ 2;have c3:=hP.at_ 3;have HD:=HA0 _ hb;clear HA0 HB0 hX hP hb;go_enter Tryz.func138,Tryz.ntmps138;go_wp2_with fail;generalize (w.alloc (.cells #[K d,I 0,I half,U 0,K d,I half,I half,U 0] 236)).alloc (.cells #[.pointer none,I 0,I 0,U 0] 109)=W at*;refine HD.mono ?_;rintro e w3 ⟨rfl,hb3⟩;have hb4:=next hb3 (aa0 w3 (.cells #[.pointer pa,I fa,I sa,U ga] 109));have hA:=Blk.new w3 109 #[.pointer pa,I fa,I sa,U ga];have hX4:=HH.out.2.2.1.held hb4;have hP4:=HH.out.2.2.2.1.held hb4;have hbb:=next HH.out.2.2.2.2 hb4;have HD:=HH.out.2.1 _ hbb;clear c0 c1 c2 c3;have c4:=hP4.at_ 4;have c5:=hP4.at_ 5;have c6:=hP4.at_ 6;have c7:=hP4.at_ 7;have HA:=H3 hA hX4 hbb;have hlt:w3.heap.size=w3.heap.size:=rfl;clear hb3 hb4 hA hX4 hP4 hbb HH;go_wp2_with fail;refine HD.mono ?_;rintro e w5 ⟨rfl,hb5⟩;have hb6:=next hb5 (aa0 w5 (.cells #[.pointer pb,I fb,I sb,U gb] 109));have hB:=Blk.new w5 109 #[.pointer pb,I fb,I sb,U gb];have hA6:=HA.out.1.held hb6;have hX6:=HA.out.2.1.held hb6;have hbb:=next HA.out.2.2 hb6;have a0:=hA6.at_ 0;have a1:=hA6.at_ 1;have a2:=hA6.at_ 2;have a3:=hA6.at_ 3;have b0:=hB.at_ 0;have b1:=hB.at_ 1;have b2:=hB.at_ 2;have b3:=hB.at_ 3;have t0:=hX6.at_ 0;have t1:=hX6.at_ 1;have t2:=hX6.at_ 2;have t3:=hX6.at_ 3;have f0:=hX6.free 0;have f1:=hX6.free 1;have f2:=hX6.free 2;have f3:=hX6.free 3;have HX:=H2 hX6 hbb;clear hb5 hb6 hA6 hX6 hbb HA HD c4 c5 c6 c7 hB;go_wp2_with fail;first
  |(
   obtain ⟨E4,hb7⟩:=ab9 HX.out.1 HX.out.2 G (.pointer pa) (I fa) (I sa) (U ga);have e0:=E4.at_ 0;have e1:=E4.at_ 1;have e2:=E4.at_ 2;have e3:=E4.at_ 3;clear E4 t0 t1 t2 t3 f0 f1 f2 f3 a0 a1 a2 a3 b0 b1 b2 b3;refine bodyPost_ret (v:= .tuple #[.agg #[.pointer pa,I fa,I sa,U ga],O _]) ?_ rfl ⟨rfl,hb7⟩;clear hb7;generalize ((((w5.alloc (.cells #[.pointer pb,I fb,I sb,U gb] 109)).setCell (Y (w.heap.size+1) 0) (.pointer pa)).setCell (Y (w.heap.size+1) 1) (I fa)).setCell (Y (w.heap.size+1) 2) (I sa)).setCell (Y (w.heap.size+1) 3) (U ga)=Z at*;simp [results,Tryz.results138,go_sem,e0,e1,e2,e3]
   )
  |(
   obtain ⟨E4,hb7⟩:=ab9 HX.out.1 HX.out.2 G (.pointer pb) (I fb) (I sb) (U gb);have e0:=E4.at_ 0;have e1:=E4.at_ 1;have e2:=E4.at_ 2;have e3:=E4.at_ 3;clear E4 t0 t1 t2 t3 f0 f1 f2 f3 a0 a1 a2 a3 b0 b1 b2 b3;refine bodyPost_ret (v:= .tuple #[.agg #[.pointer pb,I fb,I sb,U gb],O _]) ?_ rfl ⟨rfl,hb7⟩;clear hb7;generalize ((((w5.alloc (.cells #[.pointer pb,I fb,I sb,U gb] 109)).setCell (Y (w.heap.size+1) 0) (.pointer pb)).setCell (Y (w.heap.size+1) 1) (I fb)).setCell (Y (w.heap.size+1) 2) (I sb)).setCell (Y (w.heap.size+1) 3) (U gb)=Z at*;simp [results,Tryz.results138,go_sem,e0,e1,e2,e3]
   )
def Reading (w:World) (lb d first size gen id:Nat) (v:Value) (B:Nat) (rs:List Rc) (k:Nat) (wr:World):Prop:=
 ∃ o fl,Notes 111 (lgX d first size gen 0 false) wr lb o fl id k ((rs.take k).foldl app sm0)/\Ol 160 rcells 9 B v rs wr/\Turn [lb] w wr/\(∀ y,y∈fp lb o fl->y=lb\/w.heap.size<=y)/\(∀ b,v.ownBlock=some b->b∉fp lb o fl)
theorem ch1 {first len len':Nat} {laid:Bool} {o fl:Option Nat} {N:Nat} {S:Sm} (h:Notes 111 (lgX d first size gen len laid) w lb o fl id N S) {z:Int} (hz:z=len'):Notes 111 (lgX d first size gen len' laid) (w.setCell (Y lb 8) (I z)) lb o fl id N S:=by
 subst hz;obtain ⟨cn,cm,hnm,hS⟩:=h;have HL:Blk 111 w lb #[U id,U S.lease,.map o,.map fl,K d,I first,I size,U gen,I len,O laid]:=hS.head;exact ⟨cn,cm,hnm,⟨HL.store 8 (I len'),hS.owns.of_block (fun b hb=>Below.heap_setCell _ _ _ _ (Ne.symm (hS.head_ne (.inl hb)))),hS.floors.of_block (fun b hb=>Below.heap_setCell _ _ _ _ (Ne.symm (hS.head_ne (.inr hb)))),hS.apart,hS.small,hS.lease_lt,hS.counts⟩⟩
theorem Reading.step {wr W:World} {first:Nat} {v:Value} {B:Nat} {rs:List Rc} {k:Nat} {r:Rc} (h:Reading w lb d first size gen id v B rs k wr) (hb:Below wr.heap.size wr W) (hr:rs[k]?=some r) (hfit:r.Fits) (hk:k<1000000000):
  Q 116 #[K lb,.agg #[I r.kind,U r.gen,U r.lsn,U r.id,U r.a,I r.len,O r.on,U r.seq,V r.met]] W fun e w'=>e= .returned (.tuple #[])/\Reading w lb d first size gen id v B rs (k+1) w'/\∃ L,Turn L W w'/\∀ y,y∈L->y<wr.heap.size:=by
 obtain ⟨o,fl,⟨cn,cm,hnm,hS⟩,h2,h3,h4,h5⟩:=h;have h1:Notes 111 (lgX d first size gen 0 false) W lb o fl id k ((rs.take k).foldl app sm0):=⟨cn,cm,hnm,hS.turn (.of_below [] hb) sn⟩;refine (bj4 h1 hk r hfit).mono ?_;rintro e w' ⟨rfl,o',fl',g1,g2,g3⟩;have htk:(rs.take (k+1)).foldl app sm0=app ((rs.take k).foldl app sm0) r:=by
  rw [List.take_add_one,hr,List.foldl_append];rfl
 have h3':=h3.and_below hb;refine ⟨rfl,⟨o',fl',by rw [htk]; exact g1,(h2.held hb).turn g2 h5,h3'.beyond g2 fun y hy=>(h4 y hy).imp (fun e=>by simp [e]) (fun e=>e),fun y hy=>?_,fun b hb2 hm=>?_⟩,fp lb o fl,g2,fun y hy=>hS.lt hy⟩
 ·rcases g3 y hy with e|e
  ·exact h4 y e
  ·exact .inr (Nat.le_trans h3'.size e)
 ·rcases g3 b hm with e|e
  ·exact h5 b hb2 e
  ·have:=((h2.held hb).lt hb2).1; omega
theorem cs9 {S M n first:Nat} {safe:Nat->List UInt8} {wn:Int->Option (List UInt8)} {well:Int} (hN:Notes 111 (lgX d first size gen 0 false) w lb none none id 0 sm0) (hD:Dk w d S M n safe wn well) (hfit:first+size<=n) (hs:size<=1000)
  {rs:List Rc} (hrs:recsFrom (fun p=>recAt (synced safe wn (first+p))) gen 1 (size - 1)=rs) (hf:∀ r∈rs,r.Fits):
  Kc 139 #[Pt lb] w fun e w'=>e= .returned (.tuple #[])/\∃ o fl,Notes 111 (lgX d first size gen rs.length false) w' lb o fl id rs.length (rs.foldl app sm0)/\Turn [lb] w w'/\(∀ y,y∈fp lb o fl->y=lb\/w.heap.size<=y):=by
 have HR:=bw4 hD (first:=first) (size:=size) (gen:=gen) hfit hs;rw [hrs] at HR;obtain ⟨cn,cm,hnm,hS⟩:=hN;have hrl:rs.length<=1000:=by rw [<- hrs]; exact Nat.le_trans (ar2 _ _ _ _) G
 have HL:=aj2 hS;have c4:w.cell? (Y lb 4)=Np d:=HL.at_ 4;have c5:w.cell? (Y lb (4+1))=some (I first):=HL.at_ 5;have c6:w.cell? (Y lb (4+2))=some (I size):=HL.at_ 6;have c7:w.cell? (Y lb (4+3))=some (U gen):=HL.at_ 7;have hlb:=hS.head.lt;have H:=H5 hS hnm hf hrl hlb;clear hS hD hrs hf HL hnm hrl hlb;go_enter Tryz.func139,Tryz.ntmps139;go_wp2_with fail;refine HR.mono ?_;rintro e w2 ⟨v,rfl,hO,hb2⟩;clear HR c4 c5 c6 c7;obtain ⟨p0,c0,rfl,hc0⟩:=hO.form;obtain ⟨L,hL⟩:=ey rs.length;rw [hL] at hO hc0 ⊢;have R0:Reading w lb d first size gen id (.slice p0 L c0) w.heap.size rs 0 w2:=by
  refine ⟨none,none,⟨cn,cm,H.out.2.1,H.out.1.turn (.of_below [] hb2) sn⟩,hO,.of_below _ hb2,fun y hy=>?_,fun b hb hm=>?_⟩
  ·rcases ab6.1 hy with e|e|e
   ·exact .inl e
   ·cases e
   ·cases e
  ·rcases ab6.1 hm with e|e|e
   ·have:=(hO.lt hb).2; have:=H.out.2.2.2.2; omega
   ·cases e
   ·cases e
 have R1:=Z R0;have HLn:=Z hL;have hL1:L<=1000:=by rw [<- hL]; exact H.out.2.2.2.1
 clear R0 hO hL;go_wp2_with fail;go_loopw [12] (fun ix wr=>∃ k:Nat,ix= I k/\k<=L/\Hid (Reading w lb d first size gen id (.slice p0 L c0) w.heap.size rs k wr)) (fun ix _=>L - (intOf ix).toNat)
 case atStart=>exact ⟨0,rfl,Nat.zero_le _,R1⟩
 case round=>
  clear R1;obtain ⟨k,rfl,hk,S⟩:=hrel;by_cases hkl:k<L
  ·have hkz:(k:Int)<(L:Int):=G
   have hkr:k<rs.length:=by rw [HLn.out]; exact hkl
   obtain ⟨r,hr⟩:=ey (rs[k]);have hrk:rs[k]?=some r:=by rw [List.getElem?_eq_getElem hkr,hr]
   have hfr:r.Fits:=H.out.2.2.1 r (by rw [<- hr]; exact List.getElem_mem hkr);obtain ⟨o,fl,h1,h2,h3,h4,h5⟩:=S.out;obtain ⟨g0,cap0,e0,q1,q2,hc⟩:=h2.at_ elemR.len hkr;rw [HLn.out] at e0;injection e0 with e1 e2 e3;subst e1 e3;clear e2;rw [hr] at hc;obtain ⟨rk,rg,rl,ri,ra,rn,ro,rq,rm⟩:=r;have b0:wr.cell? (Y g0 (k*9))=some (I rk):=hc 0 G;have b1:wr.cell? (Y g0 (k*9+1))=some (U rg):=hc 1 G;have b2:wr.cell? (Y g0 (k*9+2))=some (U rl):=hc 2 G;have b3:wr.cell? (Y g0 (k*9+3))=some (U ri):=hc 3 G;have b4:wr.cell? (Y g0 (k*9+4))=some (U ra):=hc 4 G;have b5:wr.cell? (Y g0 (k*9+5))=some (I rn):=hc 5 G;have b6:wr.cell? (Y g0 (k*9+6))=some (O ro):=hc 6 G;have b7:wr.cell? (Y g0 (k*9+7))=some (U rq):=hc 7 G;have b8:wr.cell? (Y g0 (k*9+8))=some (V rm):=hc 8 G;obtain ⟨hb3,PB⟩:=nw wr 160 #[I rk,U rg,U rl,U ri,U ra,I rn,O ro,U rq,V rm];have HA:=S.out.step hb3.drew hrk hfr G;simp only at HA;have hg0:g0<wr.heap.size:=(h2.lt rfl).1;have k0:(wr.alloc (.cells #[I rk,U rg,U rl,U ri,U ra,I rn,O ro,U rq,V rm] 160)).drew.cell? (Y wr.heap.size 0)=some (I rk):=PB.at_ 0;have k1:(wr.alloc (.cells #[I rk,U rg,U rl,U ri,U ra,I rn,O ro,U rq,V rm] 160)).drew.cell? (Y wr.heap.size 1)=some (U rg):=PB.at_ 1;have k2:(wr.alloc (.cells #[I rk,U rg,U rl,U ri,U ra,I rn,O ro,U rq,V rm] 160)).drew.cell? (Y wr.heap.size 2)=some (U rl):=PB.at_ 2;have k3:(wr.alloc (.cells #[I rk,U rg,U rl,U ri,U ra,I rn,O ro,U rq,V rm] 160)).drew.cell? (Y wr.heap.size 3)=some (U ri):=PB.at_ 3;have k4:(wr.alloc (.cells #[I rk,U rg,U rl,U ri,U ra,I rn,O ro,U rq,V rm] 160)).drew.cell? (Y wr.heap.size 4)=some (U ra):=PB.at_ 4;have k5:(wr.alloc (.cells #[I rk,U rg,U rl,U ri,U ra,I rn,O ro,U rq,V rm] 160)).drew.cell? (Y wr.heap.size 5)=some (I rn):=PB.at_ 5;have k6:(wr.alloc (.cells #[I rk,U rg,U rl,U ri,U ra,I rn,O ro,U rq,V rm] 160)).drew.cell? (Y wr.heap.size 6)=some (O ro):=PB.at_ 6;have k7:(wr.alloc (.cells #[I rk,U rg,U rl,U ri,U ra,I rn,O ro,U rq,V rm] 160)).drew.cell? (Y wr.heap.size 7)=some (U rq):=PB.at_ 7;have k8:(wr.alloc (.cells #[I rk,U rg,U rl,U ri,U ra,I rn,O ro,U rq,V rm] 160)).drew.cell? (Y wr.heap.size 8)=some (V rm):=PB.at_ 8;clear hc h1 h2 h3 h4 h5 PB hb3 S hr hrk hfr q1 q2;go_wp2_with fail;clear b0 b1 b2 b3 b4 b5 b6 b7 b8;generalize (wr.alloc (.cells #[I rk,U rg,U rl,U ri,U ra,I rn,O ro,U rq,V rm] 160))=w3 at*;refine wp_region_held_drew (S:=fun u=>u.cell? (Y wr.heap.size 0)=some (I rk)/\u.cell? (Y wr.heap.size 1)=some (U rg)/\u.cell? (Y wr.heap.size 2)=some (U rl)/\u.cell? (Y wr.heap.size 3)=some (U ri)/\u.cell? (Y wr.heap.size 4)=some (U ra)/\u.cell? (Y wr.heap.size 5)=some (I rn)/\u.cell? (Y wr.heap.size 6)=some (O ro)/\u.cell? (Y wr.heap.size 7)=some (U rq)/\u.cell? (Y wr.heap.size 8)=some (V rm)) X ⟨k0,k1,k2,k3,k4,k5,k6,k7,k8⟩ (fun hHeld=>?_);refine tk 0 (Pt lb) rfl hHeld ?_;go_frame;refine tk 1 (Pt lb) rfl hHeld ?_;go_frame;refine tk 2 (Pt lb) rfl hHeld ?_;go_frame;refine tk 3 (.agg #[I rk,U rg,U rl,U ri,U ra,I rn,O ro,U rq,V rm]) rfl hHeld ?_;go_frame;refine _root_.Go.Proofs.YtafkfnodcemefaaGreat.rl 4 rfl fun K hK=>?_
   go_simp;refine HA.mono ?_;rintro e w5 ⟨rfl,hR5,hT5⟩;obtain ⟨L5,t5,hL5⟩:=hT5;have hnot:wr.heap.size∉L5:=fun hm=>by have:=hL5 _ hm; omega
   have R5:=Z hR5;clear HA hR5;refine hK.out _ _ ⟨t5.cell k0 hnot,t5.cell k1 hnot,t5.cell k2 hnot,t5.cell k3 hnot,t5.cell k4 hnot,t5.cell k5 hnot,t5.cell k6 hnot,t5.cell k7 hnot,t5.cell k8 hnot⟩ (fun hHeld=>?_);clear hK K k0 k1 k2 k3 k4 k5 k6 k7 k8;refine wpAnyH_done X ?_ _;try go_frame
   clear hHeld;go_wp2_with fail;go_roundw
   case rel=>exact ⟨k+1,by go_num,G,R5⟩
   case measure=>simp [intOf]; omega
  ·obtain rfl:k=L:=G
   obtain ⟨o,fl,h1,h2,h3,h4,h5⟩:=S.out;have h1':=h1;obtain ⟨cn',cm',hnm',hS'⟩:=h1';have l8:wr.cell? (Y lb 8)=some (I (0:Nat)):=(aj2 hS').at_ 8;have f8:=(aj2 hS').free 8;have hT9:Turn [lb] wr (wr.setCell (Y lb 8) (I k)):=Turn.setCell wr sn _;have hN9:=ch1 h1 (len':=k) (z:=k) rfl;have Q:=H3 hN9 (h3.trans hT9) h4;clear h1 h2 h3 h4 h5 S hS' hnm' hN9 hT9;go_wp2_with fail;go_end0;refine ⟨rfl,o,fl,?_,Q.out.2.1,Q.out.2.2⟩;have:=Q.out.1;rw [<- HLn.out,List.take_length] at this;rw [<- HLn.out];exact this
end
section
open Go.RowKit Go.Maps Rm Fm Sb
def Mr.Kin (M M':Mr):Prop:=M'.id=M.id/\M'.d=M.d
theorem Mr.Kin.refl (M:Mr):M.Kin M:=⟨rfl,rfl⟩
theorem Mr.Kin.trans {M M' M2:Mr} (h:M.Kin M') (k:M'.Kin M2):M.Kin M2:=⟨k.1.trans h.1,k.2.trans h.2⟩
theorem Mr.link_kin (M:Mr) (k:Nat) (z:Int):M.Kin (M.link k z):=by unfold Mr.link; split<;>exact ⟨rfl,rfl⟩
theorem Mr.hear_kin (M:Mr) (fr a:Nat) (len:Int) (id seq met:Nat):M.Kin (M.hear fr a len id seq met):=by
 unfold Mr.hear
 (repeat' split)<;>exact ⟨rfl,rfl⟩
theorem Mr.hears_kin (fr:Nat):∀ (us:List T.Tm.Up) (M:Mr),M.Kin (M.hears fr us)
 |[],M=> .refl M
 |_::r,M=>(M.hear_kin _ _ _ _ _ _).trans (Mr.hears_kin fr r _)
theorem Mr.receive_kin (M:Mr) (z:Int) (bs:List Nat):M.Kin (M.receive z bs):=by
 unfold Mr.receive;split
 ·exact .refl M
 ·cases T.Tm.decode bs with
  |none=>exact .refl M
  |some us=>exact Mr.hears_kin _ us M
end
section
open Go.RowKit Go.Maps Rm
attribute [local go_sem] Oper.semAt_some
section
variable {w:World} {d S M n:Nat} {safe:Nat->List UInt8} {wn:Int->Option (List UInt8)}
end
end
section
open Go.RowKit Go.Maps Rm
end
end Go.Proofs.YtafkfnodcemefaaGreat
