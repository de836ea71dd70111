import Derived.Test.YtlklghedfaeepaaGreatB26
set_option maxHeartbeats 8000000
set_option maxRecDepth 100000
namespace Go.Proofs.YtlklghedfaeepaaGreat
open _root_.Go.Proofs.Tryz (prog)
section
open Go.RowKit Go.Maps Rm
attribute [local go_sem] Oper.semAt_some
variable {w wr:World}{B N d gen id k lb size:Nat}{fl o:Option Nat}{S:Sm}{v:Value}{rs:List Rc}{safe:Nat->List UInt8}{wn:Int->Option (List UInt8)}
def recsFrom (f:Nat->Option Rc) (gen:Nat):Nat->Nat->List Rc
 |_,0=>[]
 |p,k+1=>match f p with
  |some r=>if r.lsn=p/\r.kind≠1/\r.gen=gen then r::recsFrom f gen (p+1) k else []
  |none=>[]
theorem ar2 (f:Nat->Option Rc) (gen:Nat):∀ k p,(recsFrom f gen p k).length<=k
 |0,p=>by simp [recsFrom]
 |k+1,p=>by
  rw [recsFrom];split
  ·split
   ·have:=ar2 f gen k (p+1)
    simp;omega
   ·simp
  ·simp
theorem elemR:Elem prog 226 146 rcells 9 56:=⟨by kernel_rfl,ae2 (z:= .agg #[.int .i64 0,.int .u32 0,.int .u32 0,.int .u32 0,.int .u32 0,.int .i64 0,.bool false,.int .u32 0,.int .u16 0]) (by kernel_rfl) rfl,by omega,fun _=>rfl,fun x v hv=>by
 simp only [rcells,rcl,List.mem_cons,List.not_mem_nil,or_false] at hv;rcases hv with rfl|rfl|rfl|rfl|rfl|rfl|rfl|rfl|rfl<;>rfl,by omega⟩
section
variable {w w':World} {d S M n:Nat} {safe:Nat->List UInt8} {wn:Int->Option (List UInt8)} {well:Int}
theorem bw4 (h:Dk w d S M n safe wn well) {first size gen:Nat} (hfit:first+size<=n) (hs:size<=1000):
  Calls prog 153 #[.agg #[.pointer (some ⟨d,0,none⟩),.int .i64 first,.int .i64 size,.int .u32 gen]] w fun e w'=>∃ v,e= .returned v/\Ol 146 rcells 9 w.heap.size v (recsFrom (fun p=>recAt (synced safe wn (first+p))) gen 1 (size - 1)) w'/\Below w.heap.size w w':=by
 obtain ⟨f,hf⟩:∃ f:Nat->Option Rc,∀ p,recAt (synced safe wn (first+p))=f p:=⟨_,fun _=>rfl⟩;rw [show (fun p=>recAt (synced safe wn (first+p)))=f from funext hf];obtain ⟨full,hfull⟩:∃ full,recsFrom f gen 1 (size - 1)=full:=⟨_,rfl⟩;rw [hfull];have HF:=H2 hf hfull;clear hf hfull;obtain ⟨hb,hX⟩:=nw w 105 #[.pointer (some ⟨d,0,none⟩),.int .i64 first,.int .i64 size,.int .u32 gen];have x2:=hX.at_ 2;have H:=H3 h hX hb;clear h hX hb;go_enter Tryz.func153,Tryz.ntmps153;go_wp2;go_step3;go_wp2;go_step3;go_wp2;have H1:=Lib.hid (aa1 w (.cells #[.pointer (some ⟨d,0,none⟩),.int .i64 first,.int .i64 size,.int .u32 gen] 105));clear x2;generalize w.alloc _=w1 at*;go_loopw [3,9] (fun l i wr=>∃ (p:Nat) (xs:List Rc),i= .int .i64 p/\p<=size/\Hid (Ol 146 rcells 9 (w.heap.size+1) l xs wr/\Below w1.heap.size w1 wr/\full=xs++recsFrom f gen (max p 1) (size - max p 1)/\xs.length<=p)) (fun _ i _=>size - (intOf i).toNat)
 case atStart=>exact ⟨0,[],rfl,Nat.zero_le _,Ol.nil _ _,.refl _ _,HF.out.2.symm,Nat.le_refl _⟩
 case round=>
  obtain ⟨p,xs,rfl,hp,S⟩:=hrel;obtain ⟨p0,c0,rfl,hc0⟩:=S.out.1.form;obtain ⟨L,hL⟩:∃ L,xs.length=L:=⟨_,rfl⟩;rw [hL];have HL:=Lib.hid hL;clear hL hc0;by_cases hps:p<size
  ·have hpz:(p:Int)<(size:Int):=by omega
   by_cases hp1:p<1
   ·have hp0:p=0:=by omega
    have dp:decide ((p:Int)<1)=true:=decide_eq_true (by omega);have S2:=Lib.hid (show Ol 146 rcells 9 (w.heap.size+1) (.slice p0 L c0) xs wr/\Below w1.heap.size w1 wr/\full=xs++recsFrom f gen (max (p+1) 1) (size - max (p+1) 1)/\xs.length<=p+1 from by
     rw [<- HL.out];refine ⟨S.out.1,S.out.2.1,?_,by have:=S.out.2.2.2; omega⟩;rw [S.out.2.2.1,show max p 1=1 by omega,show max (p+1) 1=1 by omega])
    clear S hp0;go_wp2_with fail;go_roundw
    case rel=>exact ⟨p+1,xs,by go_num,by omega,S2.out⟩
    case measure=>simp [intOf]; omega
   ·have dp:decide ((p:Int)<1)=false:=decide_eq_false (by omega)
    have hB1:=H.out.2.2.trans (S.out.2.1.mono H.out.2.2.size);obtain ⟨⟨k,g,l,id,a,len,on,s,m⟩,hr⟩:∃ r,(f p).getD Rm.zero=r:=⟨_,rfl⟩;obtain ⟨ok,hok⟩:∃ ok,(f p).isSome=ok:=⟨_,rfl⟩;obtain ⟨q,hq⟩:∃ q,(ok && (l==p))=q:=⟨_,rfl⟩;have HA:=cy1 (H.out.1.held hB1) (first:=first) (size:=size) (gen:=gen) (place:=p) (by omega) (by rw [HF.out.1]; exact hr) (by rw [HF.out.1]; exact hok) hq;have hX:=H.out.2.1.held S.out.2.1;have x0:=hX.at_ 0;have x1:=hX.at_ 1;have x2:=hX.at_ 2;have x3:=hX.at_ 3;have hmax:max p 1=p:=by omega
    have hrest:full=xs++recsFrom f gen p ((size - p - 1)+1):=by
     have:=S.out.2.2.1;rw [hmax,show size - p=(size - p - 1)+1 by omega] at this;exact this
    have hstop:(q=false\/k=1\/g≠gen)->full=xs:=fun hst=>by
     rw [hrest,recsFrom]
     cases hfp:f p with
     |none=>simp
     |some r=>
      rw [hfp] at hr hok;obtain rfl:r=⟨k,g,l,id,a,len,on,s,m⟩:=hr;obtain rfl:ok=true:=hok.symm;simp only;rw [if_neg]
      ·simp
      ·rintro ⟨e1,e2,e3⟩
       rcases hst with e|e|e
       ·rw [e,show l=p from e1] at hq
        simp at hq
       ·exact e2 e
       ·exact e e3
    have hgo:q=true->k≠1->g=gen->full=(xs++[⟨k,g,l,id,a,len,on,s,m⟩])++recsFrom f gen (p+1) (size - p - 1):=fun e1 e2 e3=>by
     rw [hrest,recsFrom];rw [<- hq,Bool.and_eq_true] at e1
     cases hfp:f p with
     |none=>rw [hfp] at hok; rw [<- hok] at e1; cases e1.1
     |some r=>
      rw [hfp] at hr;obtain rfl:r=⟨k,g,l,id,a,len,on,s,m⟩:=hr;simp only;rw [if_pos ⟨by simpa using e1.2,e2,e3⟩];simp
    have E:=H4 hstop hgo S.out hB1;clear hstop hgo hrest hmax hr hok hq S hB1;have stop:∀ w2:World,Below wr.heap.size wr w2->(q=false\/k=1\/g≠gen)->∃ v,(Value.slice p0 L c0)=v/\Ol 146 rcells 9 w.heap.size v full w2/\Below w.heap.size w w2:=fun w2 hb hst=>by
     refine ⟨_,rfl,?_,E.out.2.2.2.trans (hb.mono E.out.2.2.2.size)⟩;rw [E.out.1 hst,<- HL.out];exact (E.out.2.2.1.1.held hb).mono (Nat.le_succ _)
    have ST:=Lib.hid stop;clear stop
    cases q with
    |false=>
     simp only [Bool.false_eq_true,if_false] at HA;go_wp2_with (go_at_call 173; refine HA.mono ?_; rintro e w2 ⟨rfl,hb2⟩; have G:=Lib.hid (ST.out _ (next hb2 (aa0 w2 (.cells #[.int .i64 0,.int .u32 0,.int .u32 0,.int .u32 0,.int .u32 0,.int .i64 0,.bool false,.int .u32 0,.int .u16 0] 146))) (.inl rfl)))
     (try rw [Exit.noGoto_ret])
     go_ret;obtain ⟨v,rfl,h1,h2⟩:=G.out;exact ⟨_,rfl,h1,h2⟩
    |true=>
     simp only [if_true] at HA;go_upto_region 8 with (go_at_call 173; refine HA.mono ?_; rintro e w2 ⟨rfl,hb2⟩);have hb3:=next hb2 (aa0 w2 (.cells #[.int .i64 k,.int .u32 g,.int .u32 l,.int .u32 id,.int .u32 a,.int .i64 len,.bool on,.int .u32 s,.int .u16 m] 146));have R3:=Blk.new w2 146 #[.int .i64 k,.int .u32 g,.int .u32 l,.int .u32 id,.int .u32 a,.int .i64 len,.bool on,.int .u32 s,.int .u16 m];have hs3:=aa1 w2 (.cells #[.int .i64 k,.int .u32 g,.int .u32 l,.int .u32 id,.int .u32 a,.int .i64 len,.bool on,.int .u32 s,.int .u16 m] 146);have HS3:=Lib.hid hs3;have hX3:=hX.held hb3;clear HA hb2 x0 x1 x2 x3 hs3 hX;generalize hw3:w2.alloc (.cells #[.int .i64 k,.int .u32 g,.int .u32 l,.int .u32 id,.int .u32 a,.int .i64 len,.bool on,.int .u32 s,.int .u16 m] 146)=w3 at*;have r0:=R3.at_ 0;have r1:=R3.at_ 1;have y3:=hX3.at_ 3;by_cases hk1:k=1
     ·have d1:(k==1)=true:=beq_iff_eq.2 hk1
      have G:=Lib.hid (ST.out _ hb3 (.inr (.inl hk1)));clear hk1;go_wp2_with fail
      (try rw [Exit.noGoto_ret])
      go_ret;obtain ⟨v,rfl,h1,h2⟩:=G.out;exact ⟨_,rfl,h1,h2⟩
     ·have d1:(k==1)=false:=beq_eq_false_iff_ne.2 hk1
      by_cases hg:g=gen
      ·have hfl:=E.out.2.1 (by first|trivial|rfl) hk1 hg
       have d2:((g:Int) !=(gen:Int))=false:=by rw [hg]; simp
       have d3:(g !=gen)=false:=by rw [hg]; simp
       have hO3:=E.out.2.2.1.1.held hb3;have hlx:=E.out.2.2.1.2.2.2;have hBw:w.heap.size+1<=w3.heap.size:=by rw [<- H1.out]; exact Nat.le_trans E.out.2.2.1.2.1.size hb3.size
       obtain ⟨g',c',w5,hrun,hO5,hT5,-⟩:=Ol.push1 elemR hO3 hBw ⟨k,g,l,id,a,len,on,s,m⟩ (by omega) 226;have hB5:=own_below hO3 (show Below (w.heap.size+1) w1 w3 from by rw [<- H1.out]; exact E.out.2.2.1.2.1.trans (hb3.mono E.out.2.2.1.2.1.size)) hBw hT5;rw [<- H1.out] at hB5;rw [HL.out] at hrun hO5;obtain ⟨L1,hL1⟩:∃ L1,L+1=L1:=⟨_,rfl⟩;rw [hL1] at hrun hO5;have S2:=Lib.hid (show Ol 146 rcells 9 (w.heap.size+1) (.slice (some ⟨g',0,none⟩) L1 c') (xs++[⟨k,g,l,id,a,len,on,s,m⟩]) w5/\Below w1.heap.size w1 w5/\full=(xs++[⟨k,g,l,id,a,len,on,s,m⟩])++recsFrom f gen (max (p+1) 1) (size - max (p+1) 1)/\(xs++[(⟨k,g,l,id,a,len,on,s,m⟩:Rc)]).length<=p+1 from ⟨hO5,hB5,by rw [show max (p+1) 1=p+1 by omega,show size - (p+1)=size - p - 1 by omega]; exact hfl,by simp; omega⟩);have q2:=R3.at_ 2;have q3:=R3.at_ 3;have q4:=R3.at_ 4;have q5:=R3.at_ 5;have q6:=R3.at_ 6;have q7:=R3.at_ 7;have q8:=R3.at_ 8;replace hrun:(Builtin.append_ #[226,226] 226 #[.slice p0 L c0,.slice (some ⟨w3.heap.size,0,none⟩) 1 1]).run prog (w3.alloc (.cells #[.int .i64 k,.int .u32 g,.int .u32 l,.int .u32 id,.int .u32 a,.int .i64 len,.bool on,.int .u32 s,.int .u16 m] 146))= .ok (.slice (some ⟨g',0,none⟩) L1 c') w5:=hrun;clear hfl hg hk1 hO3 hBw hO5 hT5 hB5 hL1 E ST R3 hX3 hw3 hlx;go_wp2_with (first|(at_builtin; refine Lib.wpList_append_run _ rfl (.tmp 20) (.tmp 22) 226 226 rfl _ _ rfl rfl _ _ hrun ?_)|fail);go_roundw
       case rel=>exact ⟨p+1,_,by go_num,by omega,S2.out⟩
       case measure=>simp [intOf]; omega
      ·have d2:((g:Int) !=(gen:Int))=true:=by simp; omega
       have G:=Lib.hid (ST.out _ hb3 (.inr (.inr hg)));clear hk1;go_wp2_with fail
       (try rw [Exit.noGoto_ret])
       go_ret;obtain ⟨v,rfl,h1,h2⟩:=G.out;exact ⟨_,rfl,h1,h2⟩
  ·have dps:decide ((p:Int)<(size:Int))=false:=decide_eq_false (by omega)
   have G:=Lib.hid (show ∃ v,(Value.slice p0 L c0)=v/\Ol 146 rcells 9 w.heap.size v full wr/\Below w.heap.size w wr from by
    refine ⟨_,rfl,?_,H.out.2.2.trans (S.out.2.1.mono H.out.2.2.size)⟩;have h1:=S.out.2.2.1;rw [show size - max p 1=0 by omega,recsFrom,List.append_nil] at h1;rw [h1,<- HL.out];exact S.out.1.mono (Nat.le_succ _))
   clear S;go_wp2_with fail
   (try rw [Exit.noGoto_ret])
   go_ret;obtain ⟨v,rfl,h1,h2⟩:=G.out;exact ⟨_,rfl,h1,h2⟩
end
theorem by1 {half rid:Nat} {pa pb:Option Addr} {fa sa ga fb sb gb:Int} {qa qb:Bool}
  (HA0:∀ W:World,Below w.heap.size w W->Calls prog 152 #[.agg #[.pointer (some ⟨d,0,none⟩),.int .i64 0,.int .i64 half,.int .u32 0],.int .u32 rid] W fun e w'=>e= .returned (.tuple #[.agg #[.pointer pa,.int .i64 fa,.int .i64 sa,.int .u32 ga],.bool qa])/\Below W.heap.size W w')
  (HB0:∀ W:World,Below w.heap.size w W->Calls prog 152 #[.agg #[.pointer (some ⟨d,0,none⟩),.int .i64 half,.int .i64 half,.int .u32 0],.int .u32 rid] W fun e w'=>e= .returned (.tuple #[.agg #[.pointer pb,.int .i64 fb,.int .i64 sb,.int .u32 gb],.bool qb])/\Below W.heap.size W w'):
  Calls prog 119 #[.agg #[.pointer (some ⟨d,0,none⟩),.int .i64 0,.int .i64 half,.int .u32 0,.pointer (some ⟨d,0,none⟩),.int .i64 half,.int .i64 half,.int .u32 0],.int .u32 rid] w fun e w'=>e= .returned (if qb=true/\(qa=false\/ga<gb) then .tuple #[.agg #[.pointer pb,.int .i64 fb,.int .i64 sb,.int .u32 gb],.bool true] else .tuple #[.agg #[.pointer pa,.int .i64 fa,.int .i64 sa,.int .u32 ga],.bool qa])/\Below w.heap.size w w':=by
 obtain ⟨lt,hg,dg⟩:∃ lt:Bool,(ga<gb↔lt=true)/\decide (ga<gb)=lt:=⟨decide (ga<gb),by simp,rfl⟩;obtain ⟨r,hr⟩:∃ r:Value,(if qb=true/\(qa=false\/ga<gb) then .tuple #[.agg #[.pointer pb,.int .i64 fb,.int .i64 sb,.int .u32 gb],.bool true] else .tuple #[.agg #[.pointer pa,.int .i64 fa,.int .i64 sa,.int .u32 ga],.bool qa])=r:=⟨_,rfl⟩;rw [hr]
 cases qb<;>cases qa<;>cases lt;all_goals
  simp only [hg,Bool.false_eq_true,or_true,or_false,if_true,if_false,reduceCtorEq,and_self,and_false,and_true] at hr;subst hr;clear hg;have hX:=Blk.new (w.alloc (.cells #[.pointer (some ⟨d,0,none⟩),.int .i64 0,.int .i64 half,.int .u32 0,.pointer (some ⟨d,0,none⟩),.int .i64 half,.int .i64 half,.int .u32 0] 213)) 105 #[.pointer none,.int .i64 0,.int .i64 0,.int .u32 0];have hP:=(Blk.new w 213 #[.pointer (some ⟨d,0,none⟩),.int .i64 0,.int .i64 half,.int .u32 0,.pointer (some ⟨d,0,none⟩),.int .i64 half,.int .i64 half,.int .u32 0]).more (.cells #[.pointer none,.int .i64 0,.int .i64 0,.int .u32 0] 105);have hb:=next (aa0 w (.cells #[.pointer (some ⟨d,0,none⟩),.int .i64 0,.int .i64 half,.int .u32 0,.pointer (some ⟨d,0,none⟩),.int .i64 half,.int .i64 half,.int .u32 0] 213)) (aa0 _ (.cells #[.pointer none,.int .i64 0,.int .i64 0,.int .u32 0] 105));rw [aa1] at hX;have HH:=H5 HA0 HB0 hX hP hb;have c0:=hP.at_ 0;have c1:=hP.at_ 1;have c2:=hP.at_ 2;have c3:=hP.at_ 3;have HD:=HA0 _ hb;clear HA0 HB0 hX hP hb;go_enter Tryz.func119,Tryz.ntmps119;go_wp2_with fail;generalize (w.alloc (.cells #[.pointer (some ⟨d,0,none⟩),.int .i64 0,.int .i64 half,.int .u32 0,.pointer (some ⟨d,0,none⟩),.int .i64 half,.int .i64 half,.int .u32 0] 213)).alloc (.cells #[.pointer none,.int .i64 0,.int .i64 0,.int .u32 0] 105)=W at*;refine HD.mono ?_;rintro e w3 ⟨rfl,hb3⟩;have hb4:=next hb3 (aa0 w3 (.cells #[.pointer pa,.int .i64 fa,.int .i64 sa,.int .u32 ga] 105));have hA:=Blk.new w3 105 #[.pointer pa,.int .i64 fa,.int .i64 sa,.int .u32 ga];have hX4:=HH.out.2.2.1.held hb4;have hP4:=HH.out.2.2.2.1.held hb4;have hbb:=next HH.out.2.2.2.2 hb4;have HD:=HH.out.2.1 _ hbb;clear c0 c1 c2 c3;have c4:=hP4.at_ 4;have c5:=hP4.at_ 5;have c6:=hP4.at_ 6;have c7:=hP4.at_ 7;have HA:=H3 hA hX4 hbb;have hlt:w3.heap.size=w3.heap.size:=rfl;clear hb3 hb4 hA hX4 hP4 hbb HH;go_wp2_with fail;refine HD.mono ?_;rintro e w5 ⟨rfl,hb5⟩;have hb6:=next hb5 (aa0 w5 (.cells #[.pointer pb,.int .i64 fb,.int .i64 sb,.int .u32 gb] 105));have hB:=Blk.new w5 105 #[.pointer pb,.int .i64 fb,.int .i64 sb,.int .u32 gb];have hA6:=HA.out.1.held hb6;have hX6:=HA.out.2.1.held hb6;have hbb:=next HA.out.2.2 hb6;have a0:=hA6.at_ 0;have a1:=hA6.at_ 1;have a2:=hA6.at_ 2;have a3:=hA6.at_ 3;have b0:=hB.at_ 0;have b1:=hB.at_ 1;have b2:=hB.at_ 2;have b3:=hB.at_ 3;have t0:=hX6.at_ 0;have t1:=hX6.at_ 1;have t2:=hX6.at_ 2;have t3:=hX6.at_ 3;have f0:=hX6.free 0;have f1:=hX6.free 1;have f2:=hX6.free 2;have f3:=hX6.free 3;have HX:=H2 hX6 hbb;clear hb5 hb6 hA6 hX6 hbb HA HD c4 c5 c6 c7 hB;go_wp2_with fail;first
  |(
   obtain ⟨E4,hb7⟩:=ab9 HX.out.1 HX.out.2 (by omega) (.pointer pa) (.int .i64 fa) (.int .i64 sa) (.int .u32 ga);have e0:=E4.at_ 0;have e1:=E4.at_ 1;have e2:=E4.at_ 2;have e3:=E4.at_ 3;clear E4 t0 t1 t2 t3 f0 f1 f2 f3 a0 a1 a2 a3 b0 b1 b2 b3;refine bodyPost_ret (v:= .tuple #[.agg #[.pointer pa,.int .i64 fa,.int .i64 sa,.int .u32 ga],.bool _]) ?_ rfl ⟨rfl,hb7⟩;clear hb7;generalize ((((w5.alloc (.cells #[.pointer pb,.int .i64 fb,.int .i64 sb,.int .u32 gb] 105)).setCell ⟨w.heap.size+1,0,none⟩ (.pointer pa)).setCell ⟨w.heap.size+1,1,none⟩ (.int .i64 fa)).setCell ⟨w.heap.size+1,2,none⟩ (.int .i64 sa)).setCell ⟨w.heap.size+1,3,none⟩ (.int .u32 ga)=Z at*;simp [results,Tryz.results119,go_sem,e0,e1,e2,e3]
   )
  |(
   obtain ⟨E4,hb7⟩:=ab9 HX.out.1 HX.out.2 (by omega) (.pointer pb) (.int .i64 fb) (.int .i64 sb) (.int .u32 gb);have e0:=E4.at_ 0;have e1:=E4.at_ 1;have e2:=E4.at_ 2;have e3:=E4.at_ 3;clear E4 t0 t1 t2 t3 f0 f1 f2 f3 a0 a1 a2 a3 b0 b1 b2 b3;refine bodyPost_ret (v:= .tuple #[.agg #[.pointer pb,.int .i64 fb,.int .i64 sb,.int .u32 gb],.bool _]) ?_ rfl ⟨rfl,hb7⟩;clear hb7;generalize ((((w5.alloc (.cells #[.pointer pb,.int .i64 fb,.int .i64 sb,.int .u32 gb] 105)).setCell ⟨w.heap.size+1,0,none⟩ (.pointer pb)).setCell ⟨w.heap.size+1,1,none⟩ (.int .i64 fb)).setCell ⟨w.heap.size+1,2,none⟩ (.int .i64 sb)).setCell ⟨w.heap.size+1,3,none⟩ (.int .u32 gb)=Z at*;simp [results,Tryz.results119,go_sem,e0,e1,e2,e3]
   )
def Reading (w:World) (lb d first size gen id:Nat) (v:Value) (B:Nat) (rs:List Rc) (k:Nat) (wr:World):Prop:=
 ∃ o fl,Notes 107 (lgX d first size gen 0 false) wr lb o fl id k ((rs.take k).foldl app sm0)/\Ol 146 rcells 9 B v rs wr/\Turn [lb] w wr/\(∀ y,y∈fp lb o fl->y=lb\/w.heap.size<=y)/\(∀ b,v.ownBlock=some b->b∉fp lb o fl)
theorem Notes.turn {tS:TypeId} {XS:List Value} {w':World} {L:List Nat} (h:Notes tS XS w d o fl id N S) (t:Turn L w w') (hL:∀ x,x∈fp d o fl->x∉L):Notes tS XS w' d o fl id N S:=by
 obtain ⟨n,m,h1,h2⟩:=h;exact ⟨n,m,h1,h2.turn t hL⟩
theorem Reading.held {w2:World} {first:Nat} (h:Reading w lb d first size gen id v B rs k wr) (hb:Below wr.heap.size wr w2):Reading w lb d first size gen id v B rs k w2:=by
 obtain ⟨o,fl,h1,h2,h3,h4,h5⟩:=h;exact ⟨o,fl,h1.turn (.of_below [] hb) (by simp),h2.held hb,h3.and_below hb,h4,h5⟩
theorem ch1 {first len len':Nat} {laid:Bool} (h:Notes 107 (lgX d first size gen len laid) w lb o fl id N S) {z:Int} (hz:z=len'):Notes 107 (lgX d first size gen len' laid) (w.setCell ⟨lb,8,none⟩ (.int .i64 z)) lb o fl id N S:=by
 subst hz;obtain ⟨cn,cm,hnm,hS⟩:=h;have HL:Blk 107 w lb #[.int .u32 id,.int .u32 S.lease,.map o,.map fl,.pointer (some ⟨d,0,none⟩),.int .i64 first,.int .i64 size,.int .u32 gen,.int .i64 len,.bool laid]:=hS.head;exact ⟨cn,cm,hnm,⟨HL.store 8 (.int .i64 len'),hS.owns.of_block (fun b hb=>Below.heap_setCell _ _ _ _ (Ne.symm (hS.head_ne (.inl hb)))),hS.floors.of_block (fun b hb=>Below.heap_setCell _ _ _ _ (Ne.symm (hS.head_ne (.inr hb)))),hS.apart,hS.small,hS.lease_lt,hS.counts⟩⟩
theorem Reading.step {W:World} {first:Nat} {r:Rc} (h:Reading w lb d first size gen id v B rs k wr) (hb:Below wr.heap.size wr W) (hr:rs[k]?=some r) (hfit:r.Fits) (hk:k<100000):
  Calls prog 96 #[.pointer (some ⟨lb,0,none⟩),.agg #[.int .i64 r.kind,.int .u32 r.gen,.int .u32 r.lsn,.int .u32 r.id,.int .u32 r.a,.int .i64 r.len,.bool r.on,.int .u32 r.seq,.int .u16 r.met]] W fun e w'=>e= .returned (.tuple #[])/\Reading w lb d first size gen id v B rs (k+1) w'/\∃ L,Turn L W w'/\∀ y,y∈L->y<wr.heap.size:=by
 obtain ⟨o,fl,⟨cn,cm,hnm,hS⟩,h2,h3,h4,h5⟩:=h;have h1:Notes 107 (lgX d first size gen 0 false) W lb o fl id k ((rs.take k).foldl app sm0):=⟨cn,cm,hnm,hS.turn (.of_below [] hb) (by simp)⟩;refine (bj4 h1 hk r hfit).mono ?_;rintro e w' ⟨rfl,o',fl',g1,g2,g3⟩;have htk:(rs.take (k+1)).foldl app sm0=app ((rs.take k).foldl app sm0) r:=by
  rw [List.take_add_one,hr,List.foldl_append];rfl
 have h3':=h3.and_below hb;refine ⟨rfl,⟨o',fl',by rw [htk]; exact g1,(h2.held hb).turn g2 h5,h3'.beyond g2 fun y hy=>(h4 y hy).imp (fun e=>by simp [e]) (fun e=>e),fun y hy=>?_,fun b hb2 hm=>?_⟩,fp lb o fl,g2,fun y hy=>hS.lt hy⟩
 ·rcases g3 y hy with e|e
  ·exact h4 y e
  ·exact .inr (Nat.le_trans h3'.size e)
 ·rcases g3 b hm with e|e
  ·exact h5 b hb2 e
  ·have:=((h2.held hb).lt hb2).1; omega
theorem cs9 {S M n first:Nat} {well:Int} (hN:Notes 107 (lgX d first size gen 0 false) w lb none none id 0 sm0) (hD:Dk w d S M n safe wn well) (hfit:first+size<=n) (hs:size<=1000)
  {rs:List Rc} (hrs:recsFrom (fun p=>recAt (synced safe wn (first+p))) gen 1 (size - 1)=rs) (hf:∀ r∈rs,r.Fits):
  Calls prog 120 #[.pointer (some ⟨lb,0,none⟩)] w fun e w'=>e= .returned (.tuple #[])/\∃ o fl,Notes 107 (lgX d first size gen rs.length false) w' lb o fl id rs.length (rs.foldl app sm0)/\Turn [lb] w w'/\(∀ y,y∈fp lb o fl->y=lb\/w.heap.size<=y):=by
 have HR:=bw4 hD (first:=first) (size:=size) (gen:=gen) hfit hs;rw [hrs] at HR;obtain ⟨cn,cm,hnm,hS⟩:=hN;have hrl:rs.length<=1000:=by rw [<- hrs]; exact Nat.le_trans (ar2 _ _ _ _) (by omega)
 have HL:=aj2 hS;have c4:w.cell? ⟨lb,4,none⟩=some (.pointer (some ⟨d,0,none⟩)):=HL.at_ 4;have c5:w.cell? ⟨lb,4+1,none⟩=some (.int .i64 first):=HL.at_ 5;have c6:w.cell? ⟨lb,4+2,none⟩=some (.int .i64 size):=HL.at_ 6;have c7:w.cell? ⟨lb,4+3,none⟩=some (.int .u32 gen):=HL.at_ 7;have hlb:=hS.head.lt;have H:=H5 hS hnm hf hrl hlb;clear hS hD hrs hf HL hnm hrl hlb;go_enter Tryz.func120,Tryz.ntmps120;go_wp2_with fail;refine HR.mono ?_;rintro e w2 ⟨v,rfl,hO,hb2⟩;clear HR c4 c5 c6 c7;obtain ⟨p0,c0,rfl,hc0⟩:=hO.form;obtain ⟨L,hL⟩:∃ L,rs.length=L:=⟨_,rfl⟩;rw [hL] at hO hc0 ⊢;have R0:Reading w lb d first size gen id (.slice p0 L c0) w.heap.size rs 0 w2:=by
  refine ⟨none,none,⟨cn,cm,H.out.2.1,H.out.1.turn (.of_below [] hb2) (by simp)⟩,hO,.of_below _ hb2,fun y hy=>?_,fun b hb hm=>?_⟩
  ·rcases ab6.1 hy with e|e|e
   ·exact .inl e
   ·cases e
   ·cases e
  ·rcases ab6.1 hm with e|e|e
   ·have:=(hO.lt hb).2; have:=H.out.2.2.2.2; omega
   ·cases e
   ·cases e
 have R1:=Lib.hid R0;have HLn:=Lib.hid hL;have hL1:L<=1000:=by rw [<- hL]; exact H.out.2.2.2.1
 clear R0 hO hL;go_wp2_with fail;go_loopw [12] (fun ix wr=>∃ k:Nat,ix= .int .i64 k/\k<=L/\Hid (Reading w lb d first size gen id (.slice p0 L c0) w.heap.size rs k wr)) (fun ix _=>L - (intOf ix).toNat)
 case atStart=>exact ⟨0,rfl,Nat.zero_le _,R1⟩
 case round=>
  clear R1;obtain ⟨k,rfl,hk,S⟩:=hrel;by_cases hkl:k<L
  ·have hkz:(k:Int)<(L:Int):=by omega
   have hkr:k<rs.length:=by rw [HLn.out]; exact hkl
   obtain ⟨r,hr⟩:∃ r,rs[k]=r:=⟨_,rfl⟩;have hrk:rs[k]?=some r:=by rw [List.getElem?_eq_getElem hkr,hr]
   have hfr:r.Fits:=H.out.2.2.1 r (by rw [<- hr]; exact List.getElem_mem hkr);obtain ⟨o,fl,h1,h2,h3,h4,h5⟩:=S.out;obtain ⟨g0,cap0,e0,q1,q2,hc⟩:=h2.at_ elemR.len hkr;rw [HLn.out] at e0;injection e0 with e1 e2 e3;subst e1 e3;clear e2;rw [hr] at hc;obtain ⟨rk,rg,rl,ri,ra,rn,ro,rq,rm⟩:=r;have b0:wr.cell? ⟨g0,k*9,none⟩=some (.int .i64 rk):=hc 0 (by omega);have b1:wr.cell? ⟨g0,k*9+1,none⟩=some (.int .u32 rg):=hc 1 (by omega);have b2:wr.cell? ⟨g0,k*9+2,none⟩=some (.int .u32 rl):=hc 2 (by omega);have b3:wr.cell? ⟨g0,k*9+3,none⟩=some (.int .u32 ri):=hc 3 (by omega);have b4:wr.cell? ⟨g0,k*9+4,none⟩=some (.int .u32 ra):=hc 4 (by omega);have b5:wr.cell? ⟨g0,k*9+5,none⟩=some (.int .i64 rn):=hc 5 (by omega);have b6:wr.cell? ⟨g0,k*9+6,none⟩=some (.bool ro):=hc 6 (by omega);have b7:wr.cell? ⟨g0,k*9+7,none⟩=some (.int .u32 rq):=hc 7 (by omega);have b8:wr.cell? ⟨g0,k*9+8,none⟩=some (.int .u16 rm):=hc 8 (by omega);obtain ⟨hb3,PB⟩:=nw wr 146 #[.int .i64 rk,.int .u32 rg,.int .u32 rl,.int .u32 ri,.int .u32 ra,.int .i64 rn,.bool ro,.int .u32 rq,.int .u16 rm];have HA:=S.out.step hb3.drew hrk hfr (by omega);simp only at HA;have hg0:g0<wr.heap.size:=(h2.lt rfl).1;have k0:(wr.alloc (.cells #[.int .i64 rk,.int .u32 rg,.int .u32 rl,.int .u32 ri,.int .u32 ra,.int .i64 rn,.bool ro,.int .u32 rq,.int .u16 rm] 146)).drew.cell? ⟨wr.heap.size,0,none⟩=some (.int .i64 rk):=PB.at_ 0;have k1:(wr.alloc (.cells #[.int .i64 rk,.int .u32 rg,.int .u32 rl,.int .u32 ri,.int .u32 ra,.int .i64 rn,.bool ro,.int .u32 rq,.int .u16 rm] 146)).drew.cell? ⟨wr.heap.size,1,none⟩=some (.int .u32 rg):=PB.at_ 1;have k2:(wr.alloc (.cells #[.int .i64 rk,.int .u32 rg,.int .u32 rl,.int .u32 ri,.int .u32 ra,.int .i64 rn,.bool ro,.int .u32 rq,.int .u16 rm] 146)).drew.cell? ⟨wr.heap.size,2,none⟩=some (.int .u32 rl):=PB.at_ 2;have k3:(wr.alloc (.cells #[.int .i64 rk,.int .u32 rg,.int .u32 rl,.int .u32 ri,.int .u32 ra,.int .i64 rn,.bool ro,.int .u32 rq,.int .u16 rm] 146)).drew.cell? ⟨wr.heap.size,3,none⟩=some (.int .u32 ri):=PB.at_ 3;have k4:(wr.alloc (.cells #[.int .i64 rk,.int .u32 rg,.int .u32 rl,.int .u32 ri,.int .u32 ra,.int .i64 rn,.bool ro,.int .u32 rq,.int .u16 rm] 146)).drew.cell? ⟨wr.heap.size,4,none⟩=some (.int .u32 ra):=PB.at_ 4;have k5:(wr.alloc (.cells #[.int .i64 rk,.int .u32 rg,.int .u32 rl,.int .u32 ri,.int .u32 ra,.int .i64 rn,.bool ro,.int .u32 rq,.int .u16 rm] 146)).drew.cell? ⟨wr.heap.size,5,none⟩=some (.int .i64 rn):=PB.at_ 5;have k6:(wr.alloc (.cells #[.int .i64 rk,.int .u32 rg,.int .u32 rl,.int .u32 ri,.int .u32 ra,.int .i64 rn,.bool ro,.int .u32 rq,.int .u16 rm] 146)).drew.cell? ⟨wr.heap.size,6,none⟩=some (.bool ro):=PB.at_ 6;have k7:(wr.alloc (.cells #[.int .i64 rk,.int .u32 rg,.int .u32 rl,.int .u32 ri,.int .u32 ra,.int .i64 rn,.bool ro,.int .u32 rq,.int .u16 rm] 146)).drew.cell? ⟨wr.heap.size,7,none⟩=some (.int .u32 rq):=PB.at_ 7;have k8:(wr.alloc (.cells #[.int .i64 rk,.int .u32 rg,.int .u32 rl,.int .u32 ri,.int .u32 ra,.int .i64 rn,.bool ro,.int .u32 rq,.int .u16 rm] 146)).drew.cell? ⟨wr.heap.size,8,none⟩=some (.int .u16 rm):=PB.at_ 8;clear hc h1 h2 h3 h4 h5 PB hb3 S hr hrk hfr q1 q2;go_wp2_with fail;clear b0 b1 b2 b3 b4 b5 b6 b7 b8;generalize (wr.alloc (.cells #[.int .i64 rk,.int .u32 rg,.int .u32 rl,.int .u32 ri,.int .u32 ra,.int .i64 rn,.bool ro,.int .u32 rq,.int .u16 rm] 146))=w3 at*;refine wp_region_held_drew (S:=fun u=>u.cell? ⟨wr.heap.size,0,none⟩=some (.int .i64 rk)/\u.cell? ⟨wr.heap.size,1,none⟩=some (.int .u32 rg)/\u.cell? ⟨wr.heap.size,2,none⟩=some (.int .u32 rl)/\u.cell? ⟨wr.heap.size,3,none⟩=some (.int .u32 ri)/\u.cell? ⟨wr.heap.size,4,none⟩=some (.int .u32 ra)/\u.cell? ⟨wr.heap.size,5,none⟩=some (.int .i64 rn)/\u.cell? ⟨wr.heap.size,6,none⟩=some (.bool ro)/\u.cell? ⟨wr.heap.size,7,none⟩=some (.int .u32 rq)/\u.cell? ⟨wr.heap.size,8,none⟩=some (.int .u16 rm)) (by kernel_rfl) ⟨k0,k1,k2,k3,k4,k5,k6,k7,k8⟩ (fun hHeld=>?_);refine tk 0 (.pointer (some ⟨lb,0,none⟩)) rfl hHeld ?_;go_frame;refine tk 1 (.pointer (some ⟨lb,0,none⟩)) rfl hHeld ?_;go_frame;refine tk 2 (.pointer (some ⟨lb,0,none⟩)) rfl hHeld ?_;go_frame;refine tk 3 (.agg #[.int .i64 rk,.int .u32 rg,.int .u32 rl,.int .u32 ri,.int .u32 ra,.int .i64 rn,.bool ro,.int .u32 rq,.int .u16 rm]) rfl hHeld ?_;go_frame;refine _root_.Go.Proofs.YtlklghedfaeepaaGreat.rl 4 rfl fun K hK=>?_
   go_simp;refine HA.mono ?_;rintro e w5 ⟨rfl,hR5,hT5⟩;obtain ⟨L5,t5,hL5⟩:=hT5;have hnot:wr.heap.size∉L5:=fun hm=>by have:=hL5 _ hm; omega
   have R5:=Lib.hid hR5;clear HA hR5;refine hK.out _ _ ⟨t5.cell k0 hnot,t5.cell k1 hnot,t5.cell k2 hnot,t5.cell k3 hnot,t5.cell k4 hnot,t5.cell k5 hnot,t5.cell k6 hnot,t5.cell k7 hnot,t5.cell k8 hnot⟩ (fun hHeld=>?_);clear hK K k0 k1 k2 k3 k4 k5 k6 k7 k8;refine wpAnyH_done (by kernel_rfl) ?_ _;try go_frame
   clear hHeld;go_wp2_with fail;go_roundw
   case rel=>exact ⟨k+1,by go_num,by omega,R5⟩
   case measure=>simp [intOf]; omega
  ·obtain rfl:k=L:=by omega
   obtain ⟨o,fl,h1,h2,h3,h4,h5⟩:=S.out;have h1':=h1;obtain ⟨cn',cm',hnm',hS'⟩:=h1';have l8:wr.cell? ⟨lb,8,none⟩=some (.int .i64 (0:Nat)):=(aj2 hS').at_ 8;have f8:=(aj2 hS').free 8;have hT9:Turn [lb] wr (wr.setCell ⟨lb,8,none⟩ (.int .i64 k)):=Turn.setCell wr (by simp) _;have hN9:=ch1 h1 (len':=k) (z:=k) rfl;have Q:=H3 hN9 (h3.trans hT9) h4;clear h1 h2 h3 h4 h5 S hS' hnm' hN9 hT9;go_wp2_with fail;go_end0;refine ⟨rfl,o,fl,?_,Q.out.2.1,Q.out.2.2⟩;have:=Q.out.1;rw [<- HLn.out,List.take_length] at this;rw [<- HLn.out];exact this
theorem an4 {f:Nat->Option Rc} {gen:Nat}:∀ (rs:List Rc) (p k:Nat),rs.length<=k->(∀ i r,rs[i]?=some r->f (p+i)=some r/\r.gen=gen/\r.lsn=p+i/\r.kind≠1)->(rs.length<k->∀ r,f (p+rs.length)=some r->r.gen≠gen)->recsFrom f gen p k=rs
 |[],p,0,_,_,_=>rfl
 |[],p,k+1,_,_,h=>by
  rw [recsFrom]
  cases hf:f p with
  |none=>rfl
  |some r=>
   have:=h (by simp) r (by simpa using hf);simp only;rw [if_neg (fun hh=>this hh.2.2)]
 |r::rs,p,0,h,_,_=>by simp at h
 |r::rs,p,k+1,h,h1,h2=>by
  obtain ⟨a,b,c,d⟩:=h1 0 r rfl;rw [recsFrom];rw [Nat.add_zero] at a c;rw [a];simp only;rw [if_pos ⟨c,d,b⟩];rw [an4 rs (p+1) k (by simpa using h) (fun i x hx=>by
   have:=h1 (i+1) x (by simpa using hx);rw [show p+1+i=p+(i+1) by omega];exact this) (fun hl x hx=>h2 (by simpa using hl) x (by rw [List.length_cons,show p+(rs.length+1)=p+1+rs.length by omega]; exact hx))]
theorem Jd.other {dn:Nat} {j:Jr} {dk:Nat} {sm:Sm} (h:Jd dn safe wn j id dk sm) (hn:4<=dn) (hlen:j.len+1<j.size+1):∀ r,recAt (safe (j.size - j.first))=some r->r.gen<j.gen:=by
 refine h.old _ ?_ ?_
 ·have:=h.size; have:=h.first; omega
 ·have:=h.size; have:=h.first; omega
section
variable {w:World} {d S M n:Nat} {safe:Nat->List UInt8} {wn:Int->Option (List UInt8)}
theorem ax0 (h:Dk w d S M n safe wn (-1)) (hc:wn=fun _=>none) {f half rid:Nat} (hf:f<n) {ro:Option Rc} (hro:recAt (safe f)=ro):
  ∃ (p:Option Addr) (fi si gi:Int) (q:Bool),(∀ W:World,Below w.heap.size w W->Calls prog 152 #[.agg #[.pointer (some ⟨d,0,none⟩),.int .i64 f,.int .i64 half,.int .u32 0],.int .u32 rid] W fun e w'=>e= .returned (.tuple #[.agg #[.pointer p,.int .i64 fi,.int .i64 si,.int .u32 gi],.bool q])/\Below W.heap.size W w')/\
   ((q=true/\p=some ⟨d,0,none⟩/\fi=f/\si=half/\∃ r,ro=some r/\gi=r.gen/\r.lsn=0/\r.kind=1/\r.id=rid)\/(q=false/\∀ r,ro=some r->¬ (r.lsn=0/\r.kind=1/\r.id=rid))):=by
 subst hc;obtain ⟨⟨k,g,l,id,a,len,on,s,m⟩,hr⟩:∃ r,ro.getD Rm.zero=r:=⟨_,rfl⟩;obtain ⟨ok,hok⟩:∃ ok,ro.isSome=ok:=⟨_,rfl⟩;obtain ⟨q,hq⟩:∃ q,((ok && (l==0)) && (k==1 && id==rid))=q:=⟨_,rfl⟩;have HB:∀ W:World,Below w.heap.size w W->_:=fun W hb=>bj3 (h.held hb) (first:=f) (size:=half) (gen:=0) (rid:=rid) hf (by rw [at7,hro]; exact hr) (by rw [at7,hro]; exact hok) hq
 cases q with
 |true=>
  refine ⟨some ⟨d,0,none⟩,f,half,g,true,fun W hb=>?_,.inl ⟨rfl,rfl,rfl,rfl,?_⟩⟩
  ·have:=HB W hb
   simpa using this
  ·cases ro with
   |none=>rw [<- hok] at hq; simp at hq
   |some r=>
    obtain rfl:r=⟨k,g,l,id,a,len,on,s,m⟩:=hr;obtain rfl:ok=true:=hok.symm;simp only [Bool.true_and,Bool.and_eq_true,beq_iff_eq] at hq;exact ⟨_,rfl,rfl,hq.1,hq.2.1,hq.2.2⟩
 |false=>
  refine ⟨none,0,0,0,false,fun W hb=>?_,.inr ⟨rfl,fun r e hh=>?_⟩⟩
  ·have:=HB W hb
   simpa using this
  ·subst e
   obtain rfl:r=⟨k,g,l,id,a,len,on,s,m⟩:=hr;obtain rfl:ok=true:=hok.symm;simp only at hh;rw [hh.1,hh.2.1,hh.2.2] at hq;simp at hq
theorem bc8 (h:Dk w d S M n safe wn (-1)) {j:Jr} {sm:Sm} {id half dk:Nat} (hJ:Jd n safe wn j id dk sm) (hn:4<=n) (hlen:j.len+1<=j.size) (hh:n / 2=half):
  Calls prog 119 #[.agg #[.pointer (some ⟨d,0,none⟩),.int .i64 0,.int .i64 half,.int .u32 0,.pointer (some ⟨d,0,none⟩),.int .i64 half,.int .i64 half,.int .u32 0],.int .u32 id] w fun e w'=>e= .returned (.tuple #[.agg #[.pointer (some ⟨d,0,none⟩),.int .i64 j.first,.int .i64 half,.int .u32 j.gen],.bool true])/\Below w.heap.size w w':=by
 obtain ⟨pa,fa,sa,ga,qa,HA,hA⟩:=ax0 h hJ.calm (f:=0) (half:=half) (rid:=id) (by omega) rfl;obtain ⟨pb,fb,sb,gb,qb,HB,hB⟩:=ax0 h hJ.calm (f:=half) (half:=half) (rid:=id) (by omega) rfl;refine (by1 HA HB).mono ?_;rintro e w' ⟨rfl,hb⟩;refine ⟨?_,hb⟩;have hs:=hJ.size;have ho:=hJ.other hn (by omega);have hown:=hJ.bg;rw [hh] at hs;rcases hJ.first with hf|hf
 ·rw [hf] at ho hown ⊢
  rw [Nat.sub_zero,hs] at ho;rcases hA with ⟨a1,a2,a3,a4,r,a5,a6,a7,a8,a9⟩|⟨a1,a2⟩
  ·rw [hown] at a5
   cases a5;have hn:¬ (qb=true/\(qa=false\/ga<gb)):=by
    rintro ⟨e1,e2⟩;rcases e2 with e2|e2
    ·rw [a1] at e2; cases e2
    ·rcases hB with ⟨b1,b2,b3,b4,r,b5,b6,b7,b8,b9⟩|⟨b1,b2⟩
     ·have:=ho r b5
      rw [a6,b6] at e2;simp only at e2;omega
     ·rw [b1] at e1; cases e1
   rw [if_neg hn,a1,a2,a3,a4,a6]
  ·exact absurd ⟨rfl,rfl,rfl⟩ (a2 _ hown)
 ·have hf2:j.first=half:=by omega
  rw [hf2] at ho hown ⊢;rw [hs,Nat.sub_self] at ho;rcases hB with ⟨b1,b2,b3,b4,r,b5,b6,b7,b8,b9⟩|⟨b1,b2⟩
  ·rw [hown] at b5
   cases b5;have hn:qb=true/\(qa=false\/ga<gb):=by
    refine ⟨b1,?_⟩;rcases hA with ⟨a1,a2,a3,a4,r,a5,a6,a7,a8,a9⟩|⟨a1,a2⟩
    ·right
     have:=ho r a5;rw [a6,b6];simp only;omega
    ·exact .inl a1
   rw [if_pos hn,b2,b3,b4,b6]
  ·exact absurd ⟨rfl,rfl,rfl⟩ (b2 _ hown)
theorem cg6 (h:Dk w d S M n safe wn (-1)) {j:Jr} {sm:Sm} {id dk:Nat} (hJ:Jd n safe wn j id dk sm) (hlen:j.len+1<=j.size) (h0:0<id) (h1:id<4294967296) (hn:4<=n):
  Calls prog 86 #[.pointer (some ⟨d,0,none⟩),.int .u32 id] w fun e w'=>∃ lb o fl,e= .returned (.tuple #[.pointer (some ⟨lb,0,none⟩),.int .i64 0])/\
   Notes 107 (lgX d j.first j.size j.gen j.len false) w' lb o fl id j.len sm/\(∀ y,y∈fp lb o fl->w.heap.size<=y)/\Below w.heap.size w w':=by
 have n1:=h.n1;have n2:=h.n2;have HR:=au4 h (half:=n / 2) rfl;obtain ⟨half,hh⟩:∃ half,half=n / 2:=⟨_,rfl⟩;rw [<- hh] at HR;obtain ⟨first,hfi⟩:∃ first,j.first=first:=⟨_,rfl⟩;obtain ⟨gen,hge⟩:∃ gen,j.gen=gen:=⟨_,rfl⟩;have hsz:j.size=half:=by rw [hJ.size,hh]
 obtain ⟨rs,r1,r2,r3⟩:=hJ.recs;have hcalm:=hJ.calm;have hfit:first+half<=n:=by have:=hJ.first; omega
 have hrs:recsFrom (fun p=>recAt (synced safe wn (first+p))) gen 1 (half - 1)=rs:=by
  subst hcalm;refine an4 rs 1 (half - 1) (by omega) (fun i r hi=>?_) (fun hl r hr=>?_)
  ·obtain ⟨q1,q2,q3,q4,-,-⟩:=r2 i r hi
   refine ⟨?_,by rw [q2,hge],by omega,q4⟩;show recAt (safe (first+(1+i)))=_;rw [<- q1,hfi,Nat.add_assoc]
  ·have:=hJ.old (first+(1+rs.length)) (by omega) (by rw [hfi]; omega) r hr
   omega
 have hfits:∀ r∈rs,r.Fits:=fun r hr=>by
  obtain ⟨i,hi,e⟩:=List.mem_iff_getElem.1 hr;exact (r2 i r (by rw [List.getElem?_eq_getElem hi,e])).2.2.2.2.2
 have hlt:decide ((half:Int)<2)=false:=decide_eq_false (by omega);have hi0:((id:Int)==0)=false:=by rw [beq_eq_false_iff_ne]; omega
 have HH:=H12 h hJ hrs hfits hfit r1 r3 hfi hge hsz hlen hh;have hh2:half<=1000:=by omega
 clear h hJ hrs hfits hfit r1 r2 r3 hfi hge hsz hcalm hlen hh;go_enter Tryz.func86,Tryz.ntmps86;go_wp2_with fail;refine HR.mono ?_;rintro e w1 ⟨rfl,hb1⟩;have hb2:=next hb1 (aa0 w1 (.cells #[.pointer (some ⟨d,0,none⟩),.int .i64 0,.int .i64 half,.int .u32 0,.pointer (some ⟨d,0,none⟩),.int .i64 half,.int .i64 half,.int .u32 0] 213));have hH:=Blk.new w1 213 #[.pointer (some ⟨d,0,none⟩),.int .i64 0,.int .i64 half,.int .u32 0,.pointer (some ⟨d,0,none⟩),.int .i64 half,.int .i64 half,.int .u32 0];have hz:=aa1 w1 (.cells #[.pointer (some ⟨d,0,none⟩),.int .i64 0,.int .i64 half,.int .u32 0,.pointer (some ⟨d,0,none⟩),.int .i64 half,.int .i64 half,.int .u32 0] 213);have hz1:=hb1.size;clear HR hb1;go_wp2_with fail;generalize w1.alloc _=V at*;refine (ch2 id V).mono ?_;rintro e w2 ⟨rfl,hS,hb3⟩;have hz3:=hb3.size;rw [hz] at hS;have HS:=Lib.hid hS;have s0:w2.cell? ⟨w1.heap.size+1,0,none⟩=some (.int .u32 id):=hS.head.at_ 0;have s1:w2.cell? ⟨w1.heap.size+1,1,none⟩=some (.int .u32 0):=hS.head.at_ 1;have s2:w2.cell? ⟨w1.heap.size+1,2,none⟩=some (.map none):=hS.head.at_ 2;have s3:w2.cell? ⟨w1.heap.size+1,3,none⟩=some (.map none):=hS.head.at_ 3;have hs:=hS.head.lt;obtain ⟨hb4,L0⟩:=nw w2 107 #[.int .u32 id,.int .u32 0,.map none,.map none,.pointer none,.int .i64 0,.int .i64 0,.int .u32 0,.int .i64 0,.bool false];have hH4:=(hH.held hb3).held hb4;have a0:=hH4.at_ 0;have a1:=hH4.at_ 1;have a2:=hH4.at_ 2;have a3:=hH4.at_ 3;have a4:=hH4.at_ 4;have a5:=hH4.at_ 5;have a6:=hH4.at_ 6;have a7:=hH4.at_ 7;have hbb:=next (next hb2 hb3) hb4;have HJ:=bc8 (HH.out.1.held hbb) HH.out.2.1 hn HH.out.2.2.2.2.2.2.2.2.2.2.1 HH.out.2.2.2.2.2.2.2.2.2.2.2.symm;rw [HH.out.2.2.2.2.2.2.2.1,HH.out.2.2.2.2.2.2.2.2.1] at HJ;have HX:=H3 hbb hH4 L0;clear hS hb3 hb4 hH hH4 hb2 L0 hbb;go_wp2_with fail;refine HJ.mono ?_;rintro e w5 ⟨rfl,hb5⟩;have hb6:=next hb5 (aa0 w5 (.cells #[.pointer (some ⟨d,0,none⟩),.int .i64 first,.int .i64 half,.int .u32 gen] 105));obtain ⟨hbb,hH4,L0⟩:=HX.out;have G0:=Blk.new w5 105 #[.pointer (some ⟨d,0,none⟩),.int .i64 first,.int .i64 half,.int .u32 gen];have L6:=L0.held hb6;have hb7:=next hbb hb6;clear a0 a1 a2 a3 a4 a5 a6 a7 HJ hb5 hb6 hbb hH4 L0 HX s0 s1 s2 s3;have g0:=G0.at_ 0;have g1:=G0.at_ 1;have g2:=G0.at_ 2;have g3:=G0.at_ 3;have l4:=L6.at_ 4;have l5:=L6.at_ 5;have l6:=L6.at_ 6;have l7:=L6.at_ 7;have f4:=L6.free 4;have f5:=L6.free 5;have f6:=L6.free 6;have f7:=L6.free 7;have hle:w.heap.size<=w2.heap.size:=by omega
 have L7:=(((L6.store 4 (.pointer (some ⟨d,0,none⟩))).store 5 (.int .i64 first)).store 6 (.int .i64 half)).store 7 (.int .u32 gen);have hb8:=(((hb7.setCell (p:=⟨w2.heap.size,4,none⟩) hle (.pointer (some ⟨d,0,none⟩))).setCell (p:=⟨w2.heap.size,5,none⟩) hle (.int .i64 first)).setCell (p:=⟨w2.heap.size,6,none⟩) hle (.int .i64 half)).setCell (p:=⟨w2.heap.size,7,none⟩) hle (.int .u32 gen);have L9:Blk 107 _ w2.heap.size #[.int .u32 id,.int .u32 0,.map none,.map none,.pointer (some ⟨d,0,none⟩),.int .i64 first,.int .i64 half,.int .u32 gen,.int .i64 0,.bool false]:=L7;have hS9:St 107 (lgX d first half gen 0 false) _ w2.heap.size none none id 0 0 0 (fun _=>none) (fun _=>none):=
  ⟨L9,HS.out.owns.of_block (fun _ h=>by cases h),HS.out.floors.of_block (fun _ h=>by cases h),HS.out.apart,HS.out.small,HS.out.lease_lt,HS.out.counts⟩
 have HRD:=cs9 (⟨0,0,Nat.le_refl _,hS9⟩:Notes 107 (lgX d first half gen 0 false) _ w2.heap.size none none id 0 sm0) (HH.out.1.held hb8) HH.out.2.2.2.2.1 hh2 HH.out.2.2.1 HH.out.2.2.2.1;have HX:=Lib.hid hb8;clear L6 L7 hb7 hb8 L9 hS9 G0;go_wp2_with fail;generalize ((((w5.alloc (.cells #[.pointer (some ⟨d,0,none⟩),.int .i64 first,.int .i64 half,.int .u32 gen] 105)).setCell ⟨w2.heap.size,4,none⟩ (.pointer (some ⟨d,0,none⟩))).setCell ⟨w2.heap.size,5,none⟩ (.int .i64 first)).setCell ⟨w2.heap.size,6,none⟩ (.int .i64 half)).setCell ⟨w2.heap.size,7,none⟩ (.int .u32 gen)=w7 at*;refine HRD.mono ?_;rintro e w8 ⟨rfl,o,fl,hN8,hT8,hF8⟩;have Y:=H3 hN8 hT8 hF8;clear HRD hN8 hT8 hF8 g0 g1 g2 g3 l4 l5 l6 l7 f4 f5 f6 f7;go_wp2_with fail;go_ret2;refine ⟨w2.heap.size,o,fl,rfl,?_,fun y hy=>?_,HX.out.trans ((Y.out.2.1.below (by simpa using hle) HX.out.size))⟩
 ·have:=Y.out.1
  rw [HH.out.2.2.2.2.2.1,HH.out.2.2.2.2.2.2.1] at this;rw [HH.out.2.2.2.2.2.2.2.1,HH.out.2.2.2.2.2.2.2.2.1,HH.out.2.2.2.2.2.2.2.2.2.1];exact this
 ·rcases Y.out.2.2 y hy with e|e
  ·rw [e]; exact hle
  ·exact Nat.le_trans HX.out.size e
end
end
section
open Go.RowKit Go.Maps Rm
theorem da1 {w:World} {d S Mp id room:Nat} {sm:Sm} (h:Lies w d S Mp id room sm) (h0:0<id) (h1:id<4294967296):
  Calls prog 59 #[.pointer (some ⟨d,0,none⟩),.int .u32 id] w fun e w'=>∃ R o fl,e= .returned (.tuple #[.pointer (some ⟨R,0,none⟩),.int .i64 0])/\Rz ([d,S,Mp]++rp R o fl none) w' R room 90000 (mr1 id d sm)/\(∀ y,y∈rp R o fl none->w.heap.size<=y)/\Turn [d,S,Mp] w w':=by
 have hlt:=h.lt;obtain ⟨dn,safe,hD,hn,hr5,hh⟩:=h;have n2:=hD.n2;rcases hh with ⟨rfl,hroom,hN⟩|⟨j,hJ,hroom⟩
 ·have hN':∀ i,i<dn->recAt (synced safe (fun _=>none) i)=none:=hN
  refine ce0 (sm:=sm0) (first:=0) (half:=dn / 2) (gen:=1) (len:=0) (N:=0) hlt ((cg5 hD hN' (by decide) (by decide) h0 h1 hn).mono ?_) (jd_new hN' rfl hn h0 h1) h0 h1 (by omega) (by omega) (by omega);rintro e w1 ⟨lb,rfl,hlb,hNt,hD,hT⟩;rw [bz7] at hD;refine ⟨lb,none,none,rfl,hNt,fun y hy=>?_,hD,hT⟩;rcases ab6.1 hy with e|e|e
  ·rw [e]; exact hlb
  ·cases e
  ·cases e
 ·have hs:=hJ.size
  have hf:=hJ.first;have hla:=hJ.laid;have HO:=cg6 hD hJ (by omega) h0 h1 hn;obtain ⟨jd,first,size,gen,len,laid⟩:=j;simp only at hroom hs hf hla HO;subst hla;have hJ':Jd dn safe (fun _=>none) ⟨d,first,size,gen,len,false⟩ id d sm:=⟨rfl,hJ.gen,hJ.calm,hJ.size,hJ.first,hJ.bg,hJ.recs,hJ.old,hJ.laid,hJ.big⟩;refine ce0 (N:=len) hlt (HO.mono ?_) hJ' h0 h1 (by omega) (by omega) (by omega);rintro e w1 ⟨lb,o,fl,rfl,h1,h2,h3⟩;exact ⟨lb,o,fl,rfl,h1,h2,hD.held h3,.of_below _ h3⟩
theorem Rz.lies {F:List Nat} {w:World} {R room sp:Nat} {M:Mr} (h:Rz F w R room sp M):∃ S Mp rest,F=[M.d,S,Mp]++rest/\Lies w M.d S Mp M.id room M.sm:=by
 obtain ⟨o,fl,tb,j,N,n,S,Mp,dn,safe,wn,hF,hR,hD,hd,q1,q2,q3,q4,q5⟩:=h.ex;have hc:=q3.calm;subst hc;have hjd:=q3.disk;rw [hjd] at hF hD;exact ⟨S,Mp,_,hF,dn,safe,hD,by have:=q3.big; have:=q3.size; omega,by have:=q3.size; have:=hD.n2; omega,.inr ⟨j,q3,q2⟩⟩
end
section
open Go.RowKit Go.Maps Rm Fm Sb
def Mr.Kin (M M':Mr):Prop:=M'.id=M.id/\M'.d=M.d
theorem Mr.Kin.refl (M:Mr):M.Kin M:=⟨rfl,rfl⟩
theorem Mr.Kin.trans {M M' M2:Mr} (h:M.Kin M') (k:M'.Kin M2):M.Kin M2:=⟨k.1.trans h.1,k.2.trans h.2⟩
theorem Mr.link_kin (M:Mr) (k:Nat) (z:Int):M.Kin (M.link k z):=by unfold Mr.link; split<;>exact ⟨rfl,rfl⟩
theorem Mr.hear_kin (M:Mr) (fr a:Nat) (len:Int) (id seq met:Nat):M.Kin (M.hear fr a len id seq met):=by
 unfold Mr.hear
 (repeat' split)<;>exact ⟨rfl,rfl⟩
theorem Mr.hears_kin (fr:Nat):∀ (us:List T.Tm.Up) (M:Mr),M.Kin (M.hears fr us)
 |[],M=> .refl M
 |_::r,M=>(M.hear_kin _ _ _ _ _ _).trans (Mr.hears_kin fr r _)
theorem Mr.receive_kin (M:Mr) (z:Int) (bs:List Nat):M.Kin (M.receive z bs):=by
 unfold Mr.receive;split
 ·exact .refl M
 ·cases T.Tm.decode bs with
  |none=>exact .refl M
  |some us=>exact Mr.hears_kin _ us M
theorem Mr.covered_kin (M:Mr) (a:Nat) (n:Int) (i s m:Nat):M.Kin (M.covered a n i s m):=by unfold Mr.covered; split<;>exact ⟨rfl,rfl⟩
theorem Mr.tell1_kin (M:Mr) (e:En):M.Kin (M.tell1 e).2:=by
 unfold Mr.tell1;split
 ·exact .refl M
 ·split
  ·exact M.covered_kin _ _ _ _ _
  ·exact .refl M
theorem Mr.tellS_kin:∀ (l:List En) (M:Mr),M.Kin (M.tellS l).2
 |[],M=> .refl M
 |e::r,M=>(M.tell1_kin e).trans (Mr.tellS_kin r (M.tell1 e).2)
theorem Mr.leased_kin (M:Mr) (s:Nat):M.Kin (M.leased s):=by unfold Mr.leased; split<;>exact ⟨rfl,rfl⟩
theorem Mr.advance_kin (M:Mr):M.Kin M.advance:=by
 unfold Mr.advance
 (repeat' split)<;>first|exact ⟨rfl,rfl⟩|exact M.leased_kin _
theorem Ticks.kin {M M2:Mr} (h:Ticks M M2):M.Kin M2:=by
 rcases h with ⟨-,rfl⟩|⟨-,rfl⟩
 ·exact (show M.Kin M.aged from ⟨rfl,rfl⟩).trans M.aged.advance_kin
 ·exact ⟨rfl,rfl⟩
end
end Go.Proofs.YtlklghedfaeepaaGreat
