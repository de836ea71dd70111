import Derived.Test.YtlklghedfaeepaaGreatB18
set_option maxHeartbeats 8000000
set_option maxRecDepth 100000
namespace Go.Proofs.YtlklghedfaeepaaGreat
open _root_.Go.Proofs.Tryz (prog)
section
open Go.RowKit Go.Maps Rm Fm Sb
attribute [local go_sem] Oper.semAt_some
variable {W w0:World}{A B B1 B2 D F0 F1 n n₀:Nat}{v:Value}{o:Option Nat}
def Ls2 (w0:World) (n₀ B A F0 F1:Nat) (rs:List En) (W:World):Prop:=Lsj w0 n₀ B F0 F1 rs W/\Blk 191 W A #[.func (.func 100) #[] #[.pointer (some ⟨B,0,none⟩)]]
theorem bl9 {β:Type} {B':Nat} (f:β->List En) (h1:n₀<=w0.heap.size) (h2:n₀<=B'):OwnFrom B' (fun s W=>Ls2 w0 n₀ B A F0 F1 (f s) W):=
 OwnFrom.and (ci2 f h1 h2) (fun _ _ _ _ hs hg hr=>hs.grown hg hr)
theorem Ls2.alloc {rs:List En} (h:Ls2 w0 n₀ B A F0 F1 rs W) (h1:n₀<=w0.heap.size) (o:Obj):Ls2 w0 n₀ B A F0 F1 rs (W.alloc o):=⟨h.1.alloc h1 o,h.2.more o⟩
theorem ItP.count {f:Pk->Option Bool} {xs:List Pk} (h:ItP W B1 B2 v o n f xs):xs.length=n:=by
 have hnd:xs.Nodup:=h.srt.imp (fun {a b} h=>by rintro rfl; unfold ltP at h; omega)
 cases o with
 |none=>
  have:xs=[]:=List.eq_nil_iff_forall_not_mem.2 fun x hx=>by
   have h1:=((h.mem x).1 hx).2;have h2:(f x).map ownV=none:=h.map.2 x
   cases hf:f x with
   |none=>rw [hf] at h1; cases h1
   |some y=>rw [hf] at h2; cases h2
  rw [this,h.map.1];rfl
 |some b=>exact Mk.card h.map hnd (fun k=>by rw [h.mem k,Option.isSome_map]; exact Iff.rfl)
theorem ItK.count {f:Ky->Option (Nat×Nat)} {xs:List Ky} (h:ItK W B1 B2 v o n f xs):xs.length=n:=by
 have hnd:xs.Nodup:=h.srt.imp (fun {a b} h=>by rintro rfl; simp only [ltK,ltP] at h; omega)
 cases o with
 |none=>
  have:xs=[]:=List.eq_nil_iff_forall_not_mem.2 fun x hx=>by
   have h1:=((h.mem x).1 hx).2;have h2:(f x).map dV=none:=h.map.2 x
   cases hf:f x with
   |none=>rw [hf] at h1; cases h1
   |some y=>rw [hf] at h2; cases h2
  rw [this,h.map.1];rfl
 |some b=>exact Mk.card h.map hnd (fun k=>by rw [h.mem k,Option.isSome_map]; exact Iff.rfl)
theorem SjAt.put {es:List En} {o:Obj} (h:SjAt W v es) (hne:v.ownBlock≠some D):SjAt (W.putObj D o) v es:=by
 rcases h with ⟨rfl,rfl⟩|⟨g,cap,rfl,hgl,hc,F,hS,hF⟩
 ·exact .inl ⟨rfl,rfl⟩
 ·refine .inr ⟨g,cap,rfl,by rw [World.putObj_size]; exact hgl,hc,F,hS.of_block (World.putObj_heap_other fun e=>hne (by rw [e]; rfl)),hF⟩
theorem aq2 {k:Nat} {xs:List Value} {q:Option (List Deferred)} (h:W.ownsRow n₀ 158 3 v k xs) (hd:W.heap[D]?=some (.deferred q)):v.ownBlock≠some D:=by
 rcases h.2 with ⟨rfl,_⟩|⟨g,cap,cur,rfl,_,hg,_⟩
 ·simp [Value.ownBlock]
 ·intro e
  have e:g=D:=by simpa [Value.ownBlock] using e
  subst e;rw [hd] at hg
  cases hg
theorem bk7 {w:World} {R:Nat} {fl tb:Option Nat} {j:Jr} {N:Nat} {M:Mr} (h:Rr w R o fl tb j N n M) (hnn:2*N+n<20):
  Calls prog 73 #[.pointer (some ⟨R,0,none⟩)] w fun e w'=>∃ v,∃ xs:List Pk,∃ ys:List Ky,∃ ps:List Pk,∃ es:List (ElP M.sm.own),∃ fs:List (ElK M.sm.floor),∃ ds,e= .returned v/\(EsP M.sm.own xs es/\xs.Pairwise ltP/\∀ x,x∈xs↔x.ok/\(M.sm.own x).isSome=true)/\(EsK M.sm.floor ys fs/\ys.Pairwise ltK/\∀ x,x∈ys↔x.ok/\(M.sm.floor x).isSome=true)/\
   (∀ p,p∈ps↔∃ fr,Rk.ok ⟨p.a,p.n,fr⟩/\(M.f ⟨p.a,p.n,fr⟩).isSome=true)/\SortOf (es.map sO++fs.map sF++ps.map sW) ds/\ds.length<20/\SjAt w' v (keepE (fun i=>(ds.map (·.e))[i]!) (ds.map (·.e)).length)/\(∀ b,v.ownBlock=some b->w.heap.size<=b)/\Below w.heap.size w w':=by
 have hb1:=next (aa0 w (.cells #[.slice none 0 0] 155)) (aa0 _ (.cells #[.func (.func 100) #[] #[.pointer (some ⟨w.heap.size,0,none⟩)]] 191));have hBx:Boxed ((w.alloc (.cells #[.slice none 0 0] 155)).alloc (.cells #[.func (.func 100) #[] #[.pointer (some ⟨w.heap.size,0,none⟩)]] 191)) w.heap.size 155 (.slice none 0 0):=(Blk.new w 155 #[.slice none 0 0]).more (.cells #[.func (.func 100) #[] #[.pointer (some ⟨w.heap.size,0,none⟩)]] 191);have hAB:=Blk.new (w.alloc (.cells #[.slice none 0 0] 155)) 191 #[.func (.func 100) #[] #[.pointer (some ⟨w.heap.size,0,none⟩)]];rw [aa1] at hAB;have hz:((w.alloc (.cells #[.slice none 0 0] 155)).alloc (.cells #[.func (.func 100) #[] #[.pointer (some ⟨w.heap.size,0,none⟩)]] 191)).heap.size=w.heap.size+2:=by rw [aa1,aa1]
 have h1:=h.held hb1;have HST:=ac4 h1;have HR:=Lib.hid h;refine (callsIn_wide (n:=9)).1 ?_;refine callsIn_of_wp_marks Tryz.func73 rfl trivial ?_ rfl;simp only [Tryz.ntmps73,List.size_toArray,List.length_cons,List.length_nil,Nat.reduceAdd,Nat.reduceSub,Array.replicate_succ,Array.replicate_zero,List.push_toArray,List.append_toArray,List.nil_append,List.cons_append];clear h
 gi_wp2
 generalize (w.alloc (.cells #[.slice none 0 0] 155)).alloc (.cells #[.func (.func 100) #[] #[.pointer (some ⟨w.heap.size,0,none⟩)]] 191)=w1 at*;refine ⟨trivial,(aa7 HST).mono ?_⟩;rintro e w1' ⟨rfl,hb1'⟩;have hR1:=h1.held hb1';obtain ⟨cn,cm,hnm,hS⟩:=hR1.nt;have HO:=bb5 hS;clear HST
 gi_wp2
 refine ⟨trivial,(aa7 HO).mono ?_⟩;rintro e w2 ⟨B1,B2,B3,v1,oo,xs,rfl,hI,h3,hfr,hB3,hB⟩;clear HO
 gi_wp2
 have hbb:=next hb1' hB;have hsz2:=hbb.size;have hsz1:=hb1'.size;obtain ⟨es,hE⟩:=bt7 (f:=M.sm.own) (fun _ _ _=>rfl) xs (fun x hx=>(hI.mem x).1 hx);have hlenE:es.length<=100000:=by
  have:es.length=xs.length:=by rw [<- show es.map (·.key)=xs from hE]; simp
  have:=hI.len;have:=hS.counts;omega
 have hL1:Ls2 w w.heap.size w.heap.size (w.heap.size+1) w1'.heap.size w2.heap.size [] w2:=by
  refine ⟨⟨⟨.slice none 0 0,(hbb.block _ (by omega)).trans hBx,World.ownsRow_nil _ _ _ _,by simp,fun b hb=>by cases hb⟩,next hb1 hbb,Nat.le_refl _⟩,hAB.held hbb⟩
 have h1w:w.heap.size<=w.heap.size:=Nat.le_refl _;refine bc5 (α:=ElP M.sm.own) rfl am8 (au9 hI hE h3) (fun _=>rfl) (fun h k=>⟨h.1.trans k.1,fun b C hb=>k.2 b C (h.2 b C hb)⟩) (fun W l o o' hl h hc hw=>⟨af8 hI.lt W l o o' hl h hc hw,KeepT.put W l o o' h hc⟩)
  (fun pre W=>Ls2 w w.heap.size w.heap.size (w.heap.size+1) w1'.heap.size w2.heap.size (pre.map sO) W) (bl9 _ h1w (by omega)) hL1
  (fun x a' W=>∃ Bx,Blk 31 W Bx #[.int .u32 x.key.a,.int .i64 x.key.n]/\a'={ tmps:=#[.pointer (some ⟨R,0,none⟩),undef,.slice none 0 0,.pointer (some ⟨w.heap.size,0,none⟩),.pointer (some ⟨w.heap.size+1,0,none⟩),.pointer (some ⟨Bx,0,none⟩),undef,undef,.func (.func 100) #[] #[.pointer (some ⟨w.heap.size,0,none⟩)],.pointer (some ⟨R,0,none⟩),.pointer (some ⟨R,0,none⟩),.func (.func 124) #[] #[.pointer (some ⟨B3,0,none⟩)],.agg #[.int .u32 x.key.a,.int .i64 x.key.n],.bool x.val,undef,undef,undef,undef,undef,undef,undef,undef,undef,undef,undef,undef,undef,undef,undef,undef,undef,undef,undef,undef,undef,undef,undef,undef,undef,undef],defers:=[] })
  ?_ ?assign ?body ?done
 ·rintro x a' s W W' row ⟨Bx,hp,rfl⟩ hg hr
  exact ⟨Bx,hp.grown hg hr,rfl⟩
 case assign=>
  rintro l pre ⟨⟨xa,xn⟩,y,hok,hfit,hhas⟩ W K hL hK;have hb:=aa0 W (.cells #[.int .u32 xa,.int .i64 xn] 31);have hl:=hL.1.2.2;simp only [arO,clP]
  gi_wp2
  exact hK _ _ (ac7 _ hb) ⟨.of_below (fun b hb'=>Nat.lt_of_lt_of_le (hI.lt b hb') hl) hb,.of_below hb⟩ (hL.alloc h1w _) ⟨_,Blk.new _ _ _,rfl⟩
 case body=>
  rintro l pre ⟨⟨xa,xn⟩,y,hok,hfit,hhas⟩ a' W hL ⟨Bx,hp,rfl⟩ hlt;have p0:=hp.at_ 0;have p1:=hp.at_ 1;have a0:=hL.2.at_ 0;have hrl:(pre.map sO).length=pre.length:=by simp
  have HA:=cn9 h1w (Nat.le_refl _) hL.1 (by omega) xa xn;have X:=H2 hL hp;clear hL hp
  gi_wp2
  refine ⟨trivial,rfl,(ad1 HA).mono ?_⟩;rintro e W2 ⟨rfl,hl2,hk2,hb2,hoth,hkt⟩;have hne:∀ {t C b},Blk t W b C->t≠155->b≠w.heap.size:=fun {t C b} hb ht e=>by
   obtain ⟨⟨⟨v,hv,-⟩,-⟩,-⟩:=X.out.1;subst e;exact hb.ne (show Blk 155 W w.heap.size #[v] from hv) ht rfl
  gi_wp2
  refine ⟨hk2.from _,⟨⟨fun b hb=>hoth b (Nat.lt_of_lt_of_le (hI.lt b hb) X.out.1.1.2.2) (fun e=>?_) (hfr b hb) (hI.lt b hb),hk2.size⟩,fun b C hb=>hkt _ C b hb (by decide) (hne hb (by decide))⟩,?_,hkt _ _ _ X.out.1.2 (by decide) (by omega)⟩
  ·have:=hfr b hb
   omega
  ·simpa [sO] using hl2
 case done=>
  rintro D es' W hD rfl hL hK;have hDW:D<W.heap.size:=(Array.getElem?_eq_some_iff.1 hK).1;have hDw:w1.heap.size<=D:=Nat.le_trans hsz2 hD;have hR2:=HR.out.held hL.1.2.1;have HST2:=ac4 hR2;have HE:=H3 hE hI.srt hI.mem;have hkl:=hI.count;have hcn:=hS.counts;clear hI h3 hfr hB3 hB hL1 hb1 hBx hE hAB h1 hb1' hR1 hS hbb
  gi_wp2
  refine ⟨trivial,(aa7 HST2).mono ?_⟩;rintro e W3 ⟨rfl,hb3⟩;have hR3:=hR2.held hb3;obtain ⟨cn3,cm3,hnm3,hS3⟩:=hR3.nt;have HF:=by3 hS3;clear HST2
  gi_wp2
  refine ⟨trivial,(aa7 HF).mono ?_⟩;rintro e w4 ⟨C1,C2,v2,oo2,ys,rfl,hI2,hfr2,hB2⟩;clear HF
  gi_wp2
  have hb34:=next hb3 hB2;have hsz4:=hB2.size;have hsz3:=hb3.size;obtain ⟨fs,hE2⟩:=cx9 (f:=M.sm.floor) hS3.small ys (fun x hx=>(hI2.mem x).1 hx);have hlenF:fs.length<=100000:=by
   have:fs.length=ys.length:=by rw [<- show fs.map (·.key)=ys from hE2]; simp
   have:=hI2.len;have:=hS3.counts;omega
  have hlenE2:(es'.map sO).length<=100000:=by rw [List.length_map]; omega
  have hL4:Ls2 w w.heap.size w.heap.size (w.heap.size+1) W3.heap.size w4.heap.size (es'.map sO++([]:List (ElK M.sm.floor)).map sF) w4:=by
   have:=(hL.1.held hb3 h1w).rebase hB2 h1w;exact ⟨by simpa using this,hL.2.held hb34⟩
  have hD4:w4.heap[D]?=some (.deferred (some [])):=(hb34.block D hDW).trans hK;refine wpIn_rangeFunc_ownH (α:=ElK M.sm.floor) rfl (by omega) (gf:=164) (lb:=#[.pointer (some ⟨C1,0,none⟩),.pointer (some ⟨C2,0,none⟩)]) rfl trivial bi2 (bh4 hI2 hE2 8) KeepS.trans (af8 hI2.lt) (Below.refl _ _) (fun _=>rfl)
   (fun pre V9=>Ls2 w w.heap.size w.heap.size (w.heap.size+1) W3.heap.size w4.heap.size (es'.map sO++pre.map sF) V9/\V9.heap[D]?=some (.deferred (some [])))
   (fun _ _ _=>False)
   (OwnFrom.and (bl9 (B':=w4.heap.size) _ h1w (by omega)) (fun _ _ _ _ h hg hr=>ac0 hg hr (by omega) h))
   (fun _ _ _ _ _ h _ _=>h) ⟨hL4,hD4⟩
   (fun x a' V8=>∃ Bk,Blk 190 V8 Bk #[.int .u32 x.key.a,.int .i64 x.key.n,.int .u32 x.key.id]/\a'={ tmps:=#[.pointer (some ⟨R,0,none⟩),undef,.slice none 0 0,.pointer (some ⟨w.heap.size,0,none⟩),.pointer (some ⟨w.heap.size+1,0,none⟩),undef,.pointer (some ⟨Bk,0,none⟩),undef,.func (.func 100) #[] #[.pointer (some ⟨w.heap.size,0,none⟩)],.pointer (some ⟨R,0,none⟩),.pointer (some ⟨R,0,none⟩),.func (.func 124) #[] #[.pointer (some ⟨B3,0,none⟩)],undef,undef,undef,undef,undef,.pointer (some ⟨R,0,none⟩),.pointer (some ⟨R,0,none⟩),.func (.func 164) #[] #[.pointer (some ⟨C1,0,none⟩),.pointer (some ⟨C2,0,none⟩)],.agg #[.int .u32 x.key.a,.int .i64 x.key.n,.int .u32 x.key.id],.agg #[.int .u32 x.val.1,.int .u16 x.val.2],undef,undef,undef,undef,undef,undef,undef,undef,undef,undef,undef,undef,undef,undef,undef,undef,undef,undef],defers:=[] })
   ?_ ?assign ?body ?done ?stop
  ·rintro x a' s W1 W2 row ⟨Bk,hp,rfl⟩ hg hr
   exact ⟨Bk,hp.grown hg hr,rfl⟩
  case assign=>
   rintro l pre ⟨⟨xa,xn,xi⟩,⟨s,y⟩,hok,hfit,hhas⟩ W1 K ⟨hL,hd⟩ hK;have hbb:=aa0 W1 (.cells #[.int .u32 xa,.int .i64 xn,.int .u32 xi] 190);have hl:=hL.1.2.2;have hdl:D<W1.heap.size:=(Array.getElem?_eq_some_iff.1 hd).1;have hd2:=(hbb.block D hdl).trans hd;simp only [arK,clK,dV]
   gi_wp2
   exact hK _ _ (ac7 _ hbb) (.of_below (fun b hb'=>Nat.lt_of_lt_of_le (hI2.lt b hb') hl) hbb) ⟨hL.alloc h1w _,hd2⟩ ⟨_,Blk.new _ _ _,rfl⟩
  case body=>
   rintro l pre ⟨⟨xa,xn,xi⟩,⟨s,y⟩,hok,hfit,hhas⟩ a' W1 _ _ ⟨hL,hd⟩ ⟨Bk,hp,rfl⟩ hlt;have p0:=hp.at_ 0;have p1:=hp.at_ 1;have a0:=hL.2.at_ 0;have hrl:(es'.map sO++pre.map sF).length<=300000:=by
    have h2:(pre.map (sF (f:=M.sm.floor))).length=pre.length:=by simp
    rw [List.length_append,h2];omega
   have HA:=cn9 h1w (Nat.le_refl _) hL.1 hrl xa xn;have X:=H2 hL hp;clear hL hp
   gi_wp2
   first|refine ⟨trivial,trivial,(ad1 HA).mono ?_⟩|refine ⟨trivial,trivial,rfl,(ad1 HA).mono ?_⟩|refine ⟨rfl,trivial,(ad1 HA).mono ?_⟩|refine ⟨trivial,(ad1 HA).mono ?_⟩
   rintro e W2 ⟨rfl,hl2,hk2,hb2,hoth,hkt⟩
   gi_wp2
   refine ⟨hk2.from _,⟨fun b hb=>hoth b (Nat.lt_of_lt_of_le (hI2.lt b hb) X.out.1.1.2.2) (fun e=>?_) (hfr2 b hb) (hI2.lt b hb),hk2.size⟩,⟨?_,hkt _ _ _ X.out.1.2 (by decide) (by omega)⟩,hk2.same _ _ hd rfl⟩
   ·have:=hfr2 b hb
    omega
   ·simpa [sF] using hl2
  case stop=>
   rintro D2 c pre W2 _ _ h _;exact h.elim
  case done=>
   rintro D2 fs' W2 hD2 rfl ⟨hL2,hd⟩ hK2;have hDW2:D<W2.heap.size:=(Array.getElem?_eq_some_iff.1 hd).1;have hDW3:D2<W2.heap.size:=(Array.getElem?_eq_some_iff.1 hK2).1;have hR4:=HR.out.held hL2.1.2.1;have HP:=db4 hR4.tab (by omega);have HE2:=H3 hE2 hI2.srt hI2.mem;have hkl2:=hI2.count;have hcn3:=hS3.counts;clear hI2 hfr2 hB2 hL4 hD4 hE2 hL hK hR2 hR3 hS3 hb3 hb34
   gi_wp2
   refine ⟨trivial,(aa7 HP).mono ?_⟩;rintro e w5 ⟨B,gx,capx,ps,rfl,hPf⟩;clear HP
   gi_wp2
   have hb5:=hPf.below;have hsz5:=hb5.size;have hlenP:ps.length<=100000:=by have:=hPf.len; omega
   have hlenS:(es'.map sO++fs'.map sF).length<=200000:=by have h0:(fs'.map (sF (f:=M.sm.floor))).length=fs'.length:=(by simp); rw [List.length_append]; omega
   have hL5:Ls2 w w.heap.size w.heap.size (w.heap.size+1) W2.heap.size w5.heap.size (es'.map sO++fs'.map sF++([]:List Pk).map sW) w5:=by
    have:=hL2.1.rebase hb5 h1w;exact ⟨by simpa using this,hL2.2.held hb5⟩
   have hd5:w5.heap[D]?=some (.deferred (some [])):=(hb5.block D hDW2).trans hd;have hK5:w5.heap[D2]?=some (.deferred (some [])):=(hb5.block D2 hDW3).trans hK2;have hBl:∀ b,b∈[B,gx]->b<w5.heap.size:=fun b hb=>by
    simp at hb;rcases hb with rfl|rfl
    ·exact hPf.box.lt
    ·exact hPf.gl
   have hBf:∀ b,b∈[B,gx]->W2.heap.size<=b:=fun b hb=>by
    simp at hb;rcases hb with rfl|rfl
    ·exact hPf.B0
    ·exact hPf.g0
   refine bc5 (α:=Pk) rfl by9 (bw9 hPf.box hPf.row hPf.gl hlenP) (fun _=>rfl) KeepS.trans (fun W l o o' hl h hc hw=>af8 hBl W l o o' hl h hc hw)
    (fun pre W9=>Ls2 w w.heap.size w.heap.size (w.heap.size+1) W2.heap.size w5.heap.size (es'.map sO++fs'.map sF++pre.map sW) W9/\W9.heap[D]?=some (.deferred (some []))/\W9.heap[D2]?=some (.deferred (some [])))
    (OwnFrom.and (bl9 (B':=w5.heap.size) _ h1w (by omega)) (OwnFrom.and (fun _ _ _ _ h hg hr=>ac0 hg hr (by omega) h) (fun _ _ _ _ h hg hr=>ac0 hg hr (by omega) h))) ⟨hL5,hd5,hK5⟩
    (fun x a' W8=>∃ Bp,Blk 31 W8 Bp #[.int .u32 x.a,.int .i64 x.n]/\a'={ tmps:=#[.pointer (some ⟨R,0,none⟩),undef,.slice none 0 0,.pointer (some ⟨w.heap.size,0,none⟩),.pointer (some ⟨w.heap.size+1,0,none⟩),undef,undef,.pointer (some ⟨Bp,0,none⟩),.func (.func 100) #[] #[.pointer (some ⟨w.heap.size,0,none⟩)],.pointer (some ⟨R,0,none⟩),.pointer (some ⟨R,0,none⟩),.func (.func 124) #[] #[.pointer (some ⟨B3,0,none⟩)],undef,undef,undef,undef,undef,.pointer (some ⟨R,0,none⟩),.pointer (some ⟨R,0,none⟩),.func (.func 164) #[] #[.pointer (some ⟨C1,0,none⟩),.pointer (some ⟨C2,0,none⟩)],undef,undef,undef,undef,undef,undef,.pointer (some ⟨R,0,none⟩),.pointer (some ⟨R,0,none⟩),.pointer (some ⟨R,10,none⟩),.func (.func 143) #[] #[.pointer (some ⟨B,0,none⟩)],.agg #[.int .u32 x.a,.int .i64 x.n],undef,undef,undef,undef,undef,undef,undef,undef,undef],defers:=[] })
    ?_ ?assign ?body ?done
   ·rintro x a' s W1 W3 row ⟨Bp,hp,rfl⟩ hg hr
    exact ⟨Bp,hp.grown hg hr,rfl⟩
   case assign=>
    rintro l pre ⟨xa,xn⟩ W1 K ⟨hL,hd,hk⟩ hK;have hb:=aa0 W1 (.cells #[.int .u32 xa,.int .i64 xn] 31);have hl:=hL.1.2.2;have hdl:D<W1.heap.size:=(Array.getElem?_eq_some_iff.1 hd).1;have hdl2:D2<W1.heap.size:=(Array.getElem?_eq_some_iff.1 hk).1;simp only [arW]
    gi_wp2
    exact hK _ _ (ac7 _ hb) (.of_below (fun b hb'=>Nat.lt_of_lt_of_le (hBl b hb') hl) hb) ⟨hL.alloc h1w _,(hb.block D hdl).trans hd,(hb.block D2 hdl2).trans hk⟩ ⟨_,Blk.new _ _ _,rfl⟩
   case body=>
    rintro l pre ⟨xa,xn⟩ a' W1 ⟨⟨⟨⟨v,hv,hrow,hnil,ho⟩,hBl1,hF⟩,hAn⟩,hd,hk⟩ ⟨Bp,hp,rfl⟩ hlt;have cB:=hv.cell;have p0:=hp.at_ 0;have p1:=hp.at_ 1;have hle:=hBl1.size;obtain ⟨i0,hi,hz0,hz1,hz2⟩:=info_parts infoSj;have hrl:(es'.map sO++fs'.map sF++pre.map sW).length<=300000:=by
     rw [List.length_append];have:(pre.map sW).length=pre.length:=by simp
     omega
    generalize hRR:es'.map sO++fs'.map sF++pre.map sW=RR at*
    gi_wp2_with (first
     |(gi_at_builtin; go_loud (refine wpListIn_append_own_at _ rfl _ _ 155 rfl w.heap.size 158 i0 _ 3 24 Tryz.underlying155 hi hz0 hz1 hz2 rfl (by decide) _ _ _ rfl (hrow.alloc _) ⟨W1.heap.size,0,none⟩ 1 1 (ecl (sW ⟨xa,xn⟩)) rfl rfl (fun j u hj=>(br9 _ _ _ j).trans (by rw [<- hj]; simp [ecl,sW])) (by simp [Value.oneCell',ecl,sW]) (by unfold maxLen; omega) (by omega) (by simp; omega) ?_)
       intro v' w3 hown' hgrow _ hat;obtain ⟨g',cap',rfl⟩:=ownsRow_succ hown';obtain ⟨hv1,hl2,hk2,hb2,hoth⟩:=Lsj.push h1w (Nat.le_refl _) hv hrow ho hBl1 hF hown' hgrow hat;have hc1:=hv1.cell;have hf1:=hv1.frozen)
     |gi_in)
    have hAl:=hAn.lt;refine ⟨hk2.from _,⟨fun b hb=>hoth b (Nat.lt_of_lt_of_le (hBl b hb) hF) (fun e=>?_) (fun e=>?_),hk2.size⟩,⟨?_,?_⟩,hk2.same _ _ hd rfl,hk2.same _ _ hk rfl⟩
    ·have:=hBf b hb
     have:=hL2.1.2.1.size;have:=hL2.2.lt;omega
    ·have h5:=hBf b hb
     have h6:=hBl b hb;rcases ho b e.symm with h|h<;>omega
    ·have h3:=hl2
     generalize w3.setCell ⟨w.heap.size,0,none⟩ (.slice (some ⟨g',0,none⟩) (RR.length+1) cap')=V7 at h3 ⊢;rw [<- hRR] at h3;simpa [sW] using h3
    ·exact (hoth _ hAl (by omega) (ap6 hrow hAn (by decide))).trans hAn
   case done=>
    rintro D3 ps' W3 hD3 rfl ⟨hL3,hd3,hk3⟩ hK3;obtain ⟨⟨⟨v,hv,hrow,hnil,ho⟩,hBl3,hF3⟩,hAn⟩:=hL3;have cB:=hv.cell;have hle:es'.length=xs.length:=by have h:=HE.out.1; rw [<- show es'.map (·.key)=xs from h]; simp
    have hlf:fs'.length=ys.length:=by have h:=HE2.out.1; rw [<- show fs'.map (·.key)=ys from h]; simp
    have hlp:=hPf.len;have hlen:(es'.map sO++fs'.map sF++ps'.map sW).length<20:=by
     rw [List.length_append,List.length_append,List.length_map,List.length_map,List.length_map];omega
    have hmem:=hPf.mem;have hSo:=cz5 hrow hnil hlen;have oD:=aq2 hrow hd3;have oD2:=aq2 hrow hk3;have oD3:=aq2 hrow hK3;have oB:v.ownBlock≠some w.heap.size:=fun e=>ap6 hrow (show Blk 155 W3 w.heap.size #[v] from hv) (by decide) e.symm
    have hge:∀ b,v.ownBlock=some b->w.heap.size<=b:=fun b e=>(hrow.lt b e).1
    have hDl:D<W3.heap.size:=(Array.getElem?_eq_some_iff.1 hd3).1;have hDl2:D2<W3.heap.size:=(Array.getElem?_eq_some_iff.1 hk3).1;have hDl3:D3<W3.heap.size:=(Array.getElem?_eq_some_iff.1 hK3).1;have n12:D≠D2:=by omega
    have n13:D≠D3:=by omega
    have n23:D2≠D3:=by omega
    have hs1:=hL2.1.2.1.size
    gi_wp2
    refine ⟨trivial,(aa7 hSo).mono ?_⟩;rintro e W4 ⟨rfl,ds,hso,hat,hT4⟩;have hno:∀ {X:Nat},v.ownBlock≠some X->X∉v.ownBlock.toList:=fun {X} h hm=>h (by simpa using hm)
    have cB4:W4.cell? ⟨w.heap.size,0,none⟩=some v:=hT4.cell cB (hno oB);have d4:=(hT4.block D hDl (hno oD)).trans hd3;have e4:=(hT4.block D2 hDl2 (hno oD2)).trans hk3;have k4:=(hT4.block D3 hDl3 (hno oD3)).trans hK3;have hds:(ds.map (·.e)).length<20:=by rw [List.length_map,hso.len]; exact hlen
    have hCo:=bv5 hat hds;have hw4:=hT4.size;clear hSo cB
    gi_wp2
    refine ⟨trivial,(aa7 hCo).mono ?_⟩;rintro e W5 ⟨v',rfl,hat5,hT5,hown⟩;have d5:=(hT5.block D (by omega) (hno oD)).trans d4;have e5:=(hT5.block D2 (by omega) (hno oD2)).trans e4;have k5:=(hT5.block D3 (by omega) (hno oD3)).trans k4;have hB5:Below w.heap.size w W5:=(hBl3.trans (hT4.below (fun i hi=>hge i (by simpa using hi)) hBl3.size)).trans (hT5.below (fun i hi=>hge i (by simpa using hi)) (Nat.le_trans hBl3.size hw4));clear hCo
    gi_wp2
    have d6:((W5.putObj D3 (.deferred none)).putObj D2 (.deferred none)).heap[D]?=some (.deferred (some [])):=(World.putObj_heap_other n12).trans ((World.putObj_heap_other n13).trans d5);have e6:(W5.putObj D3 (.deferred none)).heap[D2]?=some (.deferred (some [])):=(World.putObj_heap_other n23).trans e5;refine ⟨by simp,.inl ⟨_,_,rfl,run_takeDeferred k5,by simp,.inl ⟨_,_,rfl,run_takeDeferred e6,by simp,.inl ⟨_,_,rfl,run_takeDeferred d6,?_⟩⟩⟩⟩;refine ⟨_,results_tmp rfl _ _ _,v',xs,ys,ps',es',fs',ds,rfl,HE.out,HE2.out,hmem,hso,(by rw [hso.len]; exact hlen),((hat5.put (by rw [hown]; exact oD3)).put (by rw [hown]; exact oD2)).put (by rw [hown]; exact oD),fun b e=>hge b (by rw [<- hown]; exact e),?_⟩;exact ((hB5.grown (grownBy_putObj' _ _ _) hB5.size (fun k e=>by cases e; omega)).grown (grownBy_putObj' _ _ _) (by rw [World.putObj_size]; exact hB5.size) (fun k e=>by cases e; omega)).grown (grownBy_putObj' _ _ _) (by rw [World.putObj_size,World.putObj_size]; exact hB5.size) (fun k e=>by cases e; omega)
end
section
open Go.RowKit Go.Maps Rm Fm Sb
def En.pk (e:En):Pk:=⟨e.a,e.n⟩
theorem cw7 {x y:En}:Sm1 x y↔En.pk x=En.pk y:=by
 unfold Sm1 En.pk;constructor
 ·rintro ⟨h1,h2⟩; rw [h1,h2]
 ·intro h; simp at h; exact h
theorem ar4 {f:Nat->En}:∀ {n:Nat},(∀ i j,i<j->j<n->ltP (En.pk (f i)) (En.pk (f j))\/En.pk (f i)=En.pk (f j))->
  ((keepE f n).map En.pk).Pairwise ltP/\(∀ e,e∈keepE f n->∃ i,i<n/\f i=e/\∀ j,j<i->En.pk (f j)≠En.pk e)/\∀ i,i<n->∃ e,e∈keepE f n/\En.pk e=En.pk (f i)
 |0,_=>⟨by simp [keepE],fun e he=>by simp [keepE] at he,fun i hi=>absurd hi (Nat.not_lt_zero _)⟩
 |n+1,hs=>by
  obtain ⟨h1,h2,h3⟩:=ar4 (n:=n) fun i j a b=>hs i j a (by omega)
  rw [ah0];by_cases h:n=0\/¬ Sm1 (f n) (f (n - 1))
  ·rw [if_pos h]
   have hlt:∀ i,i<n->ltP (En.pk (f i)) (En.pk (f n)):=fun i hi=>by
    have hne:¬ Sm1 (f n) (f (n - 1)):=by rcases h with h|h; omega; exact h
    rw [cw7] at hne;have hb:ltP (En.pk (f (n - 1))) (En.pk (f n)):=by
     rcases hs (n - 1) n (by omega) (by omega) with h|h
     ·exact h
     ·exact absurd h.symm hne
    by_cases c:i=n - 1
    ·subst c; exact hb
    ·rcases hs i (n - 1) (by omega) (by omega) with h|h
     ·unfold ltP at*; omega
     ·rw [h]; exact hb
   refine ⟨?_,fun e he=>?_,fun i hi=>?_⟩
   ·rw [List.map_append]
    refine List.pairwise_append.2 ⟨h1,by simp,fun a ha b hb=>?_⟩;simp at hb;subst hb;obtain ⟨e,he,rfl⟩:=List.mem_map.1 ha;obtain ⟨i,hi,rfl,-⟩:=h2 e he;exact hlt i hi
   ·rcases List.mem_append.1 he with he|he
    ·obtain ⟨i,hi,e1,e2⟩:=h2 e he
     exact ⟨i,by omega,e1,e2⟩
    ·simp at he
     subst he;exact ⟨n,by omega,rfl,fun j hj e=>by have:=hlt j hj; rw [e] at this; unfold ltP at this; omega⟩
   ·by_cases c:i=n
    ·subst c; exact ⟨f i,by simp,rfl⟩
    ·obtain ⟨e,he,e1⟩:=h3 i (by omega)
     exact ⟨e,by simp [he],e1⟩
  ·rw [if_neg h,List.append_nil]
   have h0:n≠0/\Sm1 (f n) (f (n - 1)):=by
    refine ⟨fun e=>h (.inl e),?_⟩;by_cases c:Sm1 (f n) (f (n - 1))
    ·exact c
    ·exact absurd (.inr c) h
   refine ⟨h1,fun e he=>?_,fun i hi=>?_⟩
   ·obtain ⟨i,hi,e1,e2⟩:=h2 e he
    exact ⟨i,by omega,e1,e2⟩
   ·by_cases c:i=n
    ·subst c
     obtain ⟨e,he,e1⟩:=h3 (i - 1) (by omega);exact ⟨e,he,e1.trans (cw7.1 h0.2).symm⟩
    ·exact h3 i (by omega)
theorem bj9 {A B:List En} {ds:List De} (hA:∀ e∈A,e.on=true) (hB:∀ e∈B,e.on=false) (h:SortOf (A++B) ds):
  ((keepE (fun i=>(ds.map (·.e))[i]!) (ds.map (·.e)).length).map En.pk).Pairwise ltP/\
  ∀ e,e∈keepE (fun i=>(ds.map (·.e))[i]!) (ds.map (·.e)).length↔(∃ x∈A,En.pk x=En.pk e)/\e.on=true\/(¬ ∃ x∈A,En.pk x=En.pk e)/\(∃ x∈B,En.pk x=En.pk e)/\e.on=false:=by
 have hat:∀ i (hi:i<ds.length),(ds.map (·.e))[i]! =ds[i].e:=fun i hi=>by simp [hi]
 have hlen:(ds.map (·.e)).length=ds.length:=by simp
 rw [hlen];obtain ⟨k1,k2,k3⟩:=ar4 (f:=fun i=>(ds.map (·.e))[i]!) (n:=ds.length) fun i j a b=>by
  have:=h.srt i j a b;simp only [hat i (by omega),hat j b];unfold Lx at this;unfold ltP En.pk;rcases this with h|h
  ·exact .inl (.inl h)
  ·by_cases c:ds[i].e.a=ds[j].e.a/\ds[i].e.n=ds[j].e.n
   ·right; rw [c.1,c.2]
   ·left; simp only; omega
 have hAt:∀ k (hk:k<(A++B).length),((A++B)[k].on=true↔k<A.length)/\((A++B)[k].on=false↔A.length<=k):=fun k hk=>by
  by_cases c:k<A.length
  ·rw [List.getElem_append_left c]
   have:=hA _ (List.getElem_mem c);simp [this,c]
  ·rw [List.getElem_append_right (by omega)]
   have:=hB _ (List.getElem_mem (l:=B) (n:=k - A.length) (by simp at hk; omega));simp [this];omega
 have fwd:∀ e,e∈keepE (fun i=>(ds.map (·.e))[i]!) ds.length->(∃ x∈A,En.pk x=En.pk e)/\e.on=true\/(¬ ∃ x∈A,En.pk x=En.pk e)/\(∃ x∈B,En.pk x=En.pk e)/\e.on=false:=by
  intro e he;obtain ⟨i,hi,e1,e2⟩:=k2 e he;simp only [hat i hi] at e1;obtain ⟨hl,e3⟩:=h.at_ i hi;rw [e1] at e3;by_cases c:ds[i].i<A.length
  ·refine .inl ⟨⟨e,?_,rfl⟩,?_⟩
   ·rw [e3,List.getElem_append_left c]; exact List.getElem_mem c
   ·rw [e3]; exact (hAt _ hl).1.2 c
  ·refine .inr ⟨?_,⟨e,?_,rfl⟩,?_⟩
   ·rintro ⟨x,hx,ex⟩
    obtain ⟨k',hk',rfl⟩:=List.mem_iff_getElem.1 hx;obtain ⟨p,hp,ep⟩:=h.all k' (by simp; omega);obtain ⟨hp1,hp2⟩:=h.at_ p hp;have hpk:ds[p].e=A[k']:=by rw [hp2]; simp only [ep]; exact List.getElem_append_left hk'
    rcases Nat.lt_trichotomy p i with g|g|g
    ·refine e2 p g ?_
     simp only [hat p hp];rw [hpk,ex]
    ·subst g; omega
    ·have hx:=h.srt i p g hp
     unfold Lx at hx;rw [hpk,e1] at hx;unfold En.pk at ex;simp at ex;omega
   ·rw [e3,List.getElem_append_right (by omega)]; exact List.getElem_mem _
   ·rw [e3]; exact (hAt _ hl).2.2 (by omega)
 refine ⟨k1,fun e=>⟨fwd e,fun he=>?_⟩⟩;have hex:∃ x∈A++B,En.pk x=En.pk e:=by
  rcases he with ⟨⟨x,hx,ex⟩,-⟩|⟨-,⟨x,hx,ex⟩,-⟩
  ·exact ⟨x,by simp [hx],ex⟩
  ·exact ⟨x,by simp [hx],ex⟩
 obtain ⟨x,hx,ex⟩:=hex;obtain ⟨k',hk',rfl⟩:=List.mem_iff_getElem.1 hx;obtain ⟨p,hp,ep⟩:=h.all k' hk';obtain ⟨hp1,hp2⟩:=h.at_ p hp;obtain ⟨e',he',ee⟩:=k3 p hp;simp only [hat p hp] at ee;have hpk:ds[p].e=(A++B)[k']:=by rw [hp2]; simp only [ep]
 rw [hpk,ex] at ee;have hon:e'.on=e.on:=by
  rcases fwd e' he' with ⟨hh,h1⟩|⟨hh,-,h1⟩<;>rw [ee] at hh<;>rcases he with ⟨g,h2⟩|⟨g,-,h2⟩
  ·rw [h1,h2]
  ·exact absurd hh g
  ·exact absurd g hh
  ·rw [h1,h2]
 have:e'=e:=by
  cases e'
  cases e;simp only [En.pk,Pk.mk.injEq] at ee;simp only at hon;rw [ee.1,ee.2,hon]
 rw [<- this];exact he'
end
section
open Go.RowKit Go.Maps Rm Fm Sb
attribute [local go_sem] Oper.semAt_some
theorem cq0 {w:World} {R:Nat} {o fl tb:Option Nat} {j:Jr} {N n:Nat} {M:Mr} (h:Rr w R o fl tb j N n M):
  Calls prog 63 #[.pointer (some ⟨R,0,none⟩)] w fun e w'=>∃ xs:List Pk,e= .returned (.int .i64 xs.length)/\xs.Pairwise ltP/\(∀ x,x∈xs↔x.ok/\(M.sm.own x).isSome=true)/\Below w.heap.size w w':=by
 obtain ⟨hb1,hBx⟩:=nw w 3 #[.int .i64 0];have h1:=h.held hb1;have HST:=ac4 h1;have HR:=Lib.hid h;refine (callsIn_wide (n:=9)).1 ?_;refine callsIn_of_wp_marks Tryz.func63 rfl trivial ?_ rfl;simp only [Tryz.ntmps63,List.size_toArray,List.length_cons,List.length_nil,Nat.reduceAdd,Nat.reduceSub,Array.replicate_succ,Array.replicate_zero,List.push_toArray,List.append_toArray,List.nil_append,List.cons_append];clear h
 gi_wp2
 have hz:(w.alloc (.cells #[.int .i64 0] 3)).heap.size=w.heap.size+1:=aa1 w _;generalize w.alloc _=w1 at*;refine ⟨trivial,(aa7 HST).mono ?_⟩;rintro e w1' ⟨rfl,hb1'⟩;have hR1:=h1.held hb1';obtain ⟨cn,cm,hnm,hS⟩:=hR1.nt;have HO:=bb5 hS;clear HST
 gi_wp2
 refine ⟨trivial,(aa7 HO).mono ?_⟩;rintro e w2 ⟨B1,B2,B3,v1,oo,xs,rfl,hI,h3,hfr,hB3,hB⟩;clear HO
 gi_wp2
 have hbb:=next hb1' hB;have hsz2:=hbb.size;have hsz1:=hb1'.size;obtain ⟨es,hE⟩:=bt7 (f:=M.sm.own) (fun _ _ _=>rfl) xs (fun x hx=>(hI.mem x).1 hx);have hxs:es.length=xs.length:=by rw [<- show es.map (·.key)=xs from hE]; simp
 have hlenE:es.length<=100000:=by
  have:=hI.len;have:=hS.counts;omega
 have h1w:w.heap.size<=w.heap.size:=Nat.le_refl _;refine bc5 (α:=ElP M.sm.own) rfl am8 (au9 hI hE h3) (fun _=>rfl) (fun h k=>⟨h.1.trans k.1,fun b C hb=>k.2 b C (h.2 b C hb)⟩) (fun W l o o' hl h hc hw=>⟨af8 hI.lt W l o o' hl h hc hw,KeepT.put W l o o' h hc⟩)
  (fun pre W=>Blk 3 W w.heap.size #[.int .i64 (pre.length:Int)]/\Below w.heap.size w W) (OwnFrom.and (fun _ _ _ _ hs hg hr=>hs.grown hg hr) (ownFrom_below h1w (by omega))) ⟨hBx.held hbb,next hb1 hbb⟩
  (fun x a' W=>a'={ tmps:=#[.pointer (some ⟨R,0,none⟩),undef,.int .i64 0,.pointer (some ⟨w.heap.size,0,none⟩),.pointer (some ⟨R,0,none⟩),.pointer (some ⟨R,0,none⟩),.func (.func 124) #[] #[.pointer (some ⟨B3,0,none⟩)],.agg #[.int .u32 x.key.a,.int .i64 x.key.n],.bool x.val,undef,undef,undef],defers:=[] })
  ?_ ?assign ?body ?done
 ·rintro x a' s W W' row rfl hg hr
  rfl
 case assign=>
  rintro l pre ⟨⟨xa,xn⟩,y,hok,hfit,hhas⟩ W K hL hK;simp only [arO,clP]
  gi_wp2
  exact hK _ _ (KeepsFrom.refl _ _) ⟨⟨Keep.refl _ _,Nat.le_refl _⟩,fun _ _ h=>h⟩ hL rfl
 case body=>
  rintro l pre ⟨⟨xa,xn⟩,y,hok,hfit,hhas⟩ a' W ⟨hL,hbw⟩ rfl hlt;have p0:=hL.at_ 0;have f0:=hL.free 0;have hlt2:(pre.length:Int)<=100000:=by omega
  have X:=H2 hL hbw;clear hL hbw
  gi_wp2
  have hne:∀ {b},b∈itL B1 B2 v1 oo->b≠w.heap.size:=fun {b} hb e=>by
   have:=hfr b hb;omega
  refine ⟨(KeepsOthers.setCell _ _ _).from _,⟨⟨fun b hb=>Below.heap_setCell _ _ _ _ (hne hb),(KeepsOthers.setCell W _ _).size⟩,fun b C hb=>hb.away ?_ _⟩,?_,X.out.2.setCell (Nat.le_refl _) _⟩
  ·exact hb.ne X.out.1 (by decide)
  ·have e:=X.out.1.store 0 (.int .i64 ((pre.length:Int)+1))
   simpa using e
 case done=>
  rintro D es' W hD rfl ⟨hL,hbw⟩ hK;have p0:=hL.at_ 0
  gi_wp2
  refine ⟨by simp,.inl ⟨_,_,rfl,run_takeDeferred hK,_,results_tmp rfl _ _ _,xs,rfl,hI.srt,hI.mem,?_⟩⟩;exact hbw.grown (grownBy_putObj' _ _ _) hbw.size (fun k e=>by cases e; omega)
end
section
open Go.RowKit Go.Maps Rm
theorem cl6:dec (dec (-1))=-1:=by decide
theorem au2 {F:List Nat} {w:World} {R room sp:Nat} {M:Mr} (h:Rz F w R (room+1) sp M) {k:Int} {g l rid a:Nat} {rn:Int} {on:Bool} {s m:Nat} (hf:(⟨k,g,l,rid,a,rn,on,s,m⟩:Rc).Fits) (hr:right ⟨k,g,l,rid,a,rn,on,s,m⟩=true) (hk:k≠1):
  Calls prog 64 #[.pointer (some ⟨R,0,none⟩),.agg #[.int .i64 k,.int .u32 g,.int .u32 l,.int .u32 rid,.int .u32 a,.int .i64 rn,.bool on,.int .u32 s,.int .u16 m]] w fun e w'=>e= .returned (.int .i64 0)/\Goes F w R room sp { M with sm:=app M.sm ⟨k,g,l,rid,a,rn,on,s,m⟩ } w':=by
 obtain ⟨o,fl,tb,j,N,n,S,Mp,dn,safe,wn,hF',hR,hD,hd,h1,h2,h3,h4,h5⟩:=h.ex;subst hF';obtain ⟨d,first,size,gen,len,laid⟩:=j;simp only at h1 h2 h3 hD hd;have hN:Notes 112 (lgX d first size gen len laid++rtX tb M.c M.now M.seq M.since) w R o fl M.id N M.sm:=hR.nt;have hn512:=hD.n2;have hf2:(⟨k,gen,1+len,rid,a,rn,on,s,m⟩:Rc).Fits:=⟨hf.k1,hf.k2,h3.gen,by show 1+len<4294967296; omega,hf.id,hf.a,hf.n1,hf.n2,hf.seq,hf.met⟩;have hr2:right ⟨k,gen,1+len,rid,a,rn,on,s,m⟩=true:=by rw [<- ai8] at hr ⊢; unfold right2 at hr ⊢; exact hr
 refine (bp0 hN (by omega) hD (by decide) (by decide) (fun x hx=>hd x (List.mem_append_left _ hx)) (by omega) (by omega) h3.gen hf hr hk).mono ?_;rintro e w' ⟨rfl,hD',o',fl',hN',hT,hnew⟩;rw [cl6] at hD';refine ⟨rfl,[d,S,Mp]++rp R o' fl' tb,⟨o',fl',tb,⟨d,first,size,gen,len+1,laid⟩,N+1,n,S,Mp,dn,_,_,rfl,⟨hN',?_,?_,?_⟩,hD',?_,h1,by show len+1+room+1<=size; omega,h3.push hf2 hr2 hk,by omega,h5⟩,?_,?_⟩
 ·refine hR.mp.of_block fun b e=>hT.block b (hR.mp.lt e) fun hm=>?_
  rcases List.mem_append.1 hm with hm|hm
  ·exact hd b (ae6.2 (.inr (.inr (.inr e)))) hm
  ·rcases ab6.1 hm with e2|e2|e2
   ·exact hR.ne (.inr (.inr e)) e2.symm
   ·exact (hR.apart b e).1 e2
   ·exact (hR.apart b e).2 e2
 ·intro b e
  have key:∀ {x:Option Nat},(x=o'\/x=fl')->x≠some b:=fun {x} hx e2=>by
   have hm:b∈fp R o' fl':=ab6.2 (by rcases hx with rfl|rfl; exact .inr (.inl e2); exact .inr (.inr e2));rcases hnew b hm with h|h
   ·rcases ab6.1 h with e3|e3|e3
    ·exact hR.ne (.inr (.inr e)) e3.symm
    ·exact (hR.apart b e).1 e3
    ·exact (hR.apart b e).2 e3
   ·have:=hR.mp.lt e; omega
  exact ⟨key (.inl rfl),key (.inr rfl)⟩
 ·exact ⟨hR.fits.id,hR.fits.f,hR.fits.c,hR.fits.now,hR.fits.seq,hR.fits.since⟩
 ·intro x hx hm
  rcases List.mem_append.1 hx with hx|hx
  ·rcases hnew x hx with h'|h'
   ·exact hd x (List.mem_append_left _ h') hm
   ·have:x<w.heap.size:=h.lt (List.mem_append_left _ hm)
    omega
  ·exact hd x (List.mem_append_right _ hx) hm
 ·exact hT.mono fun i hi=>by
   rcases List.mem_append.1 hi with h'|h'
   ·exact List.mem_append_left _ h'
   ·exact List.mem_append_right _ (List.mem_append_left _ h')
 ·intro y hy
  rcases List.mem_append.1 hy with h'|h'
  ·exact .inl (List.mem_append_left _ h')
  ·rcases List.mem_append.1 h' with h'|h'
   ·exact (hnew y h').imp (fun h=>List.mem_append_right _ (List.mem_append_left _ h)) id
   ·exact .inl (List.mem_append_right _ (List.mem_append_right _ h'))
end
section
open Go.RowKit Go.Maps Rm
attribute [local go_sem] Oper.semAt_some
variable {F:List Nat}{w:World}{R sp:Nat}{M:Mr}
def Mr.covered (M:Mr) (a:Nat) (len:Int) (id seq met:Nat):Mr:=if cov (M.sm.floor ⟨a,len,id⟩) seq met=true then M else { M with sm:=app M.sm ⟨4,0,0,id,a,len,false,seq,met⟩ }
theorem Rz.lessRoom {room:Nat} (h:Rz F w R (room+1) sp M):Rz F w R room sp M:=by
 obtain ⟨o,fl,tb,j,N,n,S,Mp,dn,safe,wn,hF',hR,hD,hd,h1,h2,h3,h4,h5⟩:=h.ex;exact ⟨o,fl,tb,j,N,n,S,Mp,dn,safe,wn,hF',hR,hD,hd,h1,by omega,h3,by omega,h5⟩
theorem bv9 {room:Nat} (h:Rz F w R (room+1) sp M) {a:Nat} {len:Int} (hp:Pk.ok ⟨a,len⟩) {id seq met:Nat} (hi:id<4294967296) (hs:seq<4294967296) (hm:met<65536) (hr:met≠65535->right ⟨4,0,0,id,a,len,false,seq,met⟩=true):
  Calls prog 149 #[.pointer (some ⟨R,0,none⟩),.agg #[.int .u32 a,.int .i64 len,.int .u32 id,.int .u32 seq,.int .u16 met]] w fun e w'=>e= .returned (.bool true)/\Goes F w R room sp (M.covered a len id seq met) w':=by
 obtain ⟨q,hq⟩:∃ q,cov (M.sm.floor ⟨a,len,id⟩) seq met=q:=⟨_,rfl⟩;obtain ⟨hb,UB⟩:=nw w 61 #[.int .u32 a,.int .i64 len,.int .u32 id,.int .u32 seq,.int .u16 met];have h1:=h.held hb;go_enter Tryz.func149,Tryz.ntmps149;go_upto_region 1 with fail;generalize w.alloc _=W at*;have hS:∀ (d:Nat) (os:Array Obj),Calls prog 16 #[.pointer (some ⟨R,0,none⟩)] (Sort.grow (redrawn W d) os) fun e w'=>e= .returned (.pointer (some ⟨R,0,none⟩))/\Below (Sort.grow (redrawn W d) os).heap.size (Sort.grow (redrawn W d) os) w':=fun d os=>by
  obtain ⟨o,fl,tb,j,N,n,hR⟩:=(h1.held (below_regrown W d os)).rr;exact ac4 hR
 have hO:∀ (d:Nat) (os:Array Obj),Calls prog 171 #[.pointer (some ⟨R,0,none⟩),.agg #[.int .u32 a,.int .i64 len,.int .u32 id],.agg #[.int .u32 seq,.int .u16 met]] (Sort.grow (redrawn W d) os) fun e w'=>e= .returned (.bool q)/\Below (Sort.grow (redrawn W d) os).heap.size (Sort.grow (redrawn W d) os) w':=fun d os=>by
  obtain ⟨o,fl,tb,j,N,n,hR⟩:=(h1.held (below_regrown W d os)).rr;obtain ⟨cn,cm,hnm,hS⟩:=hR.nt;rw [<- hq];exact bz9 hS ⟨a,len,id⟩ ⟨hp.1,hp.2,hi⟩ seq met
 have u0:=cell_regrown (UB.at_ 0);have u1:=cell_regrown (UB.at_ 1);have u2:=cell_regrown (UB.at_ 2);have u3:=cell_regrown (UB.at_ 3);have u4:=cell_regrown (UB.at_ 4);have X:=H6 h hb UB h1 hq hr;clear h hb UB h1 hq hr;refine wp_region_quiet_below (by kernel_rfl) (by kernel_rfl) ?_
 repeat (go_big_quiet_step (first|(go_at_call 16; exact Calls.regrown_of (hS _ _))|(go_at_call 171; exact Calls.regrown_of (hO _ _))))
 refine wpQuiet_nil ?_;intro _ hw';obtain ⟨⟨dq,osq⟩,hw''⟩:=hw';subst hw'';have hbr:=below_regrown W dq osq;have hbz:=X.out.2.1.trans (hbr.mono X.out.2.1.size);clear hS hO u0 u1 u2 u3 u4
 cases q with
 |true=>
  clear hbr;go_wp2_with fail;go_ret;refine ⟨rfl,?_⟩;unfold Mr.covered;rw [if_pos X.out.2.2.2.2.1];exact Goes.stay X.out.1.lessRoom hbz
 |false=>
  have hmet:met≠65535:=fun e=>by
   have:=X.out.2.2.2.2.1;rw [e] at this;unfold cov at this;simp at this
  have hrt:=X.out.2.2.2.2.2 hmet;have hfit:(⟨4,0,0,id,a,len,false,seq,met⟩:Rc).Fits:=⟨by show (-9223372036854775808:Int)<=4; decide,by show (4:Int)<=9223372036854775807; decide,by show 0<4294967296; omega,by show 0<4294967296; omega,hi,hp.1,hp.2.1,hp.2.2,hs,hm⟩;have UB2:=(X.out.2.2.1.held hbr).drew;have HA:Calls prog 64 #[.pointer (some ⟨R,0,none⟩),.agg #[.int .i64 4,.int .u32 0,.int .u32 0,.int .u32 id,.int .u32 a,.int .i64 len,.bool false,.int .u32 seq,.int .u16 met]] (Sort.grow (redrawn W dq) osq).drew _:=au2 ((X.out.2.2.2.1.held hbr).held (Below.refl _ _).drew) hfit hrt (by decide);have E:=Lib.hid (show M.covered a len id seq met={ M with sm:=app M.sm ⟨4,0,0,id,a,len,false,seq,met⟩ } by unfold Mr.covered; rw [if_neg (by rw [X.out.2.2.2.2.1]; decide)]);generalize Sort.grow (redrawn W dq) osq=W2 at*;have hbF:w.heap.size∉F:=fun hx=>by have:=X.out.1.lt hx; omega
  have u0:W2.drew.cell? ⟨w.heap.size,0,none⟩=some (.int .u32 a):=UB2.at_ 0;have u1:W2.drew.cell? ⟨w.heap.size,1,none⟩=some (.int .i64 len):=UB2.at_ 1;have u2:W2.drew.cell? ⟨w.heap.size,2,none⟩=some (.int .u32 id):=UB2.at_ 2;have u3:W2.drew.cell? ⟨w.heap.size,3,none⟩=some (.int .u32 seq):=UB2.at_ 3;have u4:W2.drew.cell? ⟨w.heap.size,4,none⟩=some (.int .u16 met):=UB2.at_ 4;have Z:=Lib.hid hbz;clear hbr hbz hrt hfit UB2 hmet;go_upto_region 3 with fail;refine wp_region_held_drew (S:=fun u=>u.cell? ⟨w.heap.size,0,none⟩=some (.int .u32 a)/\u.cell? ⟨w.heap.size,1,none⟩=some (.int .i64 len)/\u.cell? ⟨w.heap.size,2,none⟩=some (.int .u32 id)/\u.cell? ⟨w.heap.size,3,none⟩=some (.int .u32 seq)/\u.cell? ⟨w.heap.size,4,none⟩=some (.int .u16 met)) (by kernel_rfl) ⟨u0,u1,u2,u3,u4⟩ (fun hHeld=>?_);refine tk 0 (.pointer (some ⟨R,0,none⟩)) rfl hHeld ?_;go_frame;refine tk 1 (.pointer (some ⟨R,0,none⟩)) rfl hHeld ?_;go_frame;refine tk 2 (.pointer (some ⟨R,0,none⟩)) rfl hHeld ?_;go_frame;refine tk 3 (.pointer (some ⟨w.heap.size,2,none⟩)) rfl hHeld ?_;go_frame;refine tk 4 (.int .u32 id) rfl hHeld ?_;go_frame;refine tk 5 (.pointer (some ⟨w.heap.size,0,none⟩)) rfl hHeld ?_;go_frame;refine tk 6 (.agg #[.int .u32 a,.int .i64 len]) rfl hHeld ?_;go_frame;refine tk 7 (.pointer (some ⟨w.heap.size,3,none⟩)) rfl hHeld ?_;go_frame;refine tk 8 (.agg #[.int .u32 seq,.int .u16 met]) rfl hHeld ?_;go_frame;refine tk 9 (.agg #[.int .i64 4,.int .u32 0,.int .u32 0,.int .u32 id,.int .u32 a,.int .i64 len,.bool false,.int .u32 seq,.int .u16 met]) rfl hHeld ?_;go_frame;refine rl 10 rfl fun K hK=>?_
  go_simp;refine HA.mono ?_;rintro e w4 ⟨rfl,hG⟩;obtain ⟨F4,hz4,t4,n4⟩:=hG;refine hK.out _ _ ⟨t4.cell u0 hbF,t4.cell u1 hbF,t4.cell u2 hbF,t4.cell u3 hbF,t4.cell u4 hbF⟩ (fun hHeld=>?_);have s0:=t4.cell u0 hbF;have s1:=t4.cell u1 hbF;have s2:=t4.cell u2 hbF;have s3:=t4.cell u3 hbF;have s4:=t4.cell u4 hbF;clear hK K HA u0 u1 u2 u3 u4;have hG3:Goes F w R room sp _ w4:=Goes.before Z.out.drew ⟨F4,hz4,t4,n4⟩;rw [<- E.out] at hG3;have G:=Lib.hid hG3;clear hz4 t4 n4 hG3;refine tk 11 (.bool true) rfl hHeld ?_;go_frame;refine rl 12 rfl fun K hK=>?_
  go_simp;refine hK.out _ _ ⟨s0,s1,s2,s3,s4⟩ (fun hHeld=>?_);clear hK K;refine wpAnyH_done (by kernel_rfl) ?_ _;try go_frame
  clear s0 s1 s2 s3 s4 hHeld;go_wp2_with fail;go_ret;exact ⟨rfl,G.out⟩
theorem dr0 {room:Nat} (h:Rz F w R (room+1) sp M) {a:Nat} {len:Int} (hp:Pk.ok ⟨a,len⟩) (hright:Am.right a len=true) (hrt:right ⟨2,0,0,0,a,len,true,0,0⟩=true) (hn:M.sm.own ⟨a,len⟩=none)
  (hfew:∀ xs:List Pk,xs.Pairwise ltP->(∀ x,x∈xs↔x.ok/\(M.sm.own x).isSome=true)->xs.length<16):
  Calls prog 31 #[.pointer (some ⟨R,0,none⟩),.agg #[.int .u32 a,.int .i64 len],.bool true] w fun e w'=>e= .returned (.int .i64 0)/\Goes F w R room sp { M with sm:=app M.sm ⟨2,0,0,0,a,len,true,0,0⟩ } w':=by
 obtain ⟨hb,PB⟩:=nw w 31 #[.int .u32 a,.int .i64 len];have h1:=h.held hb;go_enter Tryz.func31,Tryz.ntmps31;go_upto_region 1 with fail;generalize w.alloc _=W at*;have HP:=af5 a len hp.1 W;rw [hright] at HP;have p0:W.cell? ⟨w.heap.size,0,none⟩=some (.int .u32 a):=PB.at_ 0;have p1:W.cell? ⟨w.heap.size,1,none⟩=some (.int .i64 len):=PB.at_ 1;go_upto_region 3 with (go_at_call 61; refine HP.mono ?_; rintro e w2 ⟨rfl,hb2⟩);have hb3:=next hb hb2;have h2:=h1.held hb2;have PB2:=PB.held hb2;clear HP p0 p1 PB h1 hb2 hb;have hS:∀ (d:Nat) (os:Array Obj),Calls prog 16 #[.pointer (some ⟨R,0,none⟩)] (Sort.grow (redrawn w2 d) os) fun e w'=>e= .returned (.pointer (some ⟨R,0,none⟩))/\Below (Sort.grow (redrawn w2 d) os).heap.size (Sort.grow (redrawn w2 d) os) w':=fun d os=>by
  obtain ⟨o,fl,tb,j,N,n,hR⟩:=(h2.held (below_regrown w2 d os)).rr;exact ac4 hR
 have hO:∀ (d:Nat) (os:Array Obj),Calls prog 62 #[.pointer (some ⟨R,0,none⟩),.agg #[.int .u32 a,.int .i64 len]] (Sort.grow (redrawn w2 d) os) fun e w'=>e= .returned (.tuple #[.bool false,.bool false])/\Below (Sort.grow (redrawn w2 d) os).heap.size (Sort.grow (redrawn w2 d) os) w':=fun d os=>by
  obtain ⟨o,fl,tb,j,N,n,hR⟩:=(h2.held (below_regrown w2 d os)).rr;obtain ⟨cn,cm,hnm,hS⟩:=hR.nt;exact cg0 hS hp (by rw [hn]; rfl) (by rw [hn]; rfl)
 have p0:=cell_regrown (PB2.at_ 0);have p1:=cell_regrown (PB2.at_ 1);have X:=H7 h hb3 PB2 h2 hp hrt hfew;clear h hb3 PB2 h2 hp hrt hfew hn hright;refine wp_region_quiet_below (by kernel_rfl) (by kernel_rfl) ?_
 repeat (go_big_quiet_step (first|(go_at_call 16; exact Calls.regrown_of (hS _ _))|(go_at_call 62; exact Calls.regrown_of (hO _ _))))
 refine wpQuiet_nil ?_;intro _ hw';obtain ⟨⟨dq,osq⟩,hw''⟩:=hw';subst hw'';have hbr:=below_regrown w2 dq osq;have hbz:=X.out.2.1.trans (hbr.mono X.out.2.1.size);clear hS hO p0 p1;have PB3:=X.out.2.2.1.held hbr;have h3:=X.out.2.2.2.1.held hbr;generalize Sort.grow (redrawn w2 dq) osq=W2 at*;obtain ⟨o,fl,tb,j,N,n,hR⟩:=h3.rr;have HN:=cq0 hR;have Y:=H3 hbz PB3 h3;clear hbr hbz PB3 h3 hR;go_upto_region 10 with (go_at_call 63; refine HN.mono ?_; rintro e w3 ⟨xs,rfl,hasc,hmem,hb4⟩; have hxs:=X.out.2.2.2.2.2.2 xs hasc hmem; have d16:decide ((16:Int)<=(xs.length:Int))=false:=decide_eq_false (by omega));clear HN hmem hasc d16;have hz4:=Y.out.1.trans (hb4.mono Y.out.1.size);have h4:=Y.out.2.2.held hb4;have PB4:=(Y.out.2.1.held hb4).drew;have hfit:(⟨2,0,0,0,a,len,true,0,0⟩:Rc).Fits:=⟨by show (-9223372036854775808:Int)<=2; decide,by show (2:Int)<=9223372036854775807; decide,by show 0<4294967296; omega,by show 0<4294967296; omega,by show 0<4294967296; omega,X.out.2.2.2.2.1.1,X.out.2.2.2.2.1.2.1,X.out.2.2.2.2.1.2.2,by show 0<4294967296; omega,by show 0<65536; omega⟩;have HA:=au2 (h4.held (Below.refl _ _).drew) hfit X.out.2.2.2.2.2.1 (by decide);have hbF:w.heap.size∉F:=fun hx=>by have:=X.out.1.lt hx; omega
 have u0:w3.drew.cell? ⟨w.heap.size,0,none⟩=some (.int .u32 a):=PB4.at_ 0;have u1:w3.drew.cell? ⟨w.heap.size,1,none⟩=some (.int .i64 len):=PB4.at_ 1;have Z:=Lib.hid hz4;clear hz4 h4 PB4 hfit hb4 hxs;refine wp_region_held_drew (S:=fun u=>u.cell? ⟨w.heap.size,0,none⟩=some (.int .u32 a)/\u.cell? ⟨w.heap.size,1,none⟩=some (.int .i64 len)) (by kernel_rfl) ⟨u0,u1⟩ (fun hHeld=>?_);refine tk 0 (.pointer (some ⟨R,0,none⟩)) rfl hHeld ?_;go_frame;refine tk 1 (.pointer (some ⟨R,0,none⟩)) rfl hHeld ?_;go_frame;refine tk 2 (.pointer (some ⟨R,0,none⟩)) rfl hHeld ?_;go_frame;refine tk 3 (.agg #[.int .u32 a,.int .i64 len]) rfl hHeld ?_;go_frame;refine tk 4 (.bool true) rfl hHeld ?_;go_frame;refine tk 5 (.agg #[.int .i64 2,.int .u32 0,.int .u32 0,.int .u32 0,.int .u32 a,.int .i64 len,.bool true,.int .u32 0,.int .u16 0]) rfl hHeld ?_;go_frame;refine rl 6 rfl fun K hK=>?_
 go_simp;refine HA.mono ?_;rintro e w4 ⟨rfl,hG⟩;obtain ⟨F4,hz4,t4,n4⟩:=hG;refine hK.out _ _ ⟨t4.cell u0 hbF,t4.cell u1 hbF⟩ (fun hHeld=>?_);clear hK K HA u0 u1;have G:=Lib.hid (show Goes F w R room sp _ w4 from Goes.before Z.out.drew ⟨F4,hz4,t4,n4⟩);clear hz4 t4 n4;refine tk 7 (.int .i64 0) rfl hHeld ?_;go_frame;refine wpAnyH_done (by kernel_rfl) ?_ _;try go_frame
 clear hHeld;go_wp2_with fail;go_ret;exact ⟨rfl,G.out⟩
end
section
open Go.RowKit Go.Maps Rm Fm Sb
variable {M:Mr}{rs:List En}
def Mr.ans (M:Mr) (p:Pk):Prop:=(p.ok/\(M.sm.own p).isSome=true)\/∃ id,Ky.ok ⟨p.a,p.n,id⟩/\(M.sm.floor ⟨p.a,p.n,id⟩).isSome=true
def Mr.ways (M:Mr) (p:Pk):Prop:=∃ fr,Rk.ok ⟨p.a,p.n,fr⟩/\(M.f ⟨p.a,p.n,fr⟩).isSome=true
structure Subj (M:Mr) (rs:List En):Prop where
 asc:(rs.map En.pk).Pairwise ltP
 mem:∀ e,e∈rs↔M.ans (En.pk e)/\e.on=true\/¬ M.ans (En.pk e)/\M.ways (En.pk e)/\e.on=false
theorem Subj.unique {rs':List En} (h:Subj M rs) (h':Subj M rs'):rs=rs':=by
 have nd:∀ l:List En,(l.map En.pk).Pairwise ltP->l.Pairwise fun x y=>ltP (En.pk x) (En.pk y):=fun l hl=>List.pairwise_map.1 hl
 have h1:=nd _ h.asc;have h2:=nd _ h'.asc;have hd:∀ l:List En,(l.Pairwise fun x y=>ltP (En.pk x) (En.pk y))->l.Nodup:=fun l hl=>hl.imp fun {a b} hab e=>by subst e; unfold ltP at hab; omega
 exact List.Perm.eq_of_pairwise (fun a b _ _ hab hba=>by unfold ltP at hab hba; omega) h1 h2 ((List.perm_ext_iff_of_nodup (hd _ h1) (hd _ h2)).2 fun e=>(h.mem e).trans (h'.mem e).symm)
theorem Subj.none (h:Subj M rs) (ha:∀ p,¬ M.ans p) (hw:∀ p,¬ M.ways p):rs=[]:=
 List.eq_nil_iff_forall_not_mem.2 fun e he=>((h.mem e).1 he).elim (fun x=>ha _ x.1) (fun x=>hw _ x.2.1)
theorem Subj.one (h:Subj M rs) {a:Nat} {len:Int} (ha:∀ p,M.ans p↔p=⟨a,len⟩) (hw:∀ p,M.ways p->p=⟨a,len⟩):rs=[⟨a,len,true⟩]:=by
 refine h.unique ⟨by simp,fun e=>?_⟩
 cases e with
 |mk ea en on=>
  simp only [List.mem_singleton,En.pk,En.mk.injEq];constructor
  ·rintro ⟨rfl,rfl,rfl⟩
   exact .inl ⟨(ha _).2 rfl,rfl⟩
  ·rintro (⟨h1,h2⟩|⟨h1,h2,h3⟩)
   ·have:=(ha _).1 h1
    simp at this;exact ⟨this.1,this.2,h2⟩
   ·have:=hw _ h2
    exact absurd ((ha _).2 this) h1
theorem Subj.way (h:Subj M rs) {a:Nat} {len:Int} (ha:∀ p,¬ M.ans p) (hw:∀ p,M.ways p↔p=⟨a,len⟩):rs=[⟨a,len,false⟩]:=by
 refine h.unique ⟨by simp,fun e=>?_⟩
 cases e with
 |mk ea en on=>
  simp only [List.mem_singleton,En.pk,En.mk.injEq];constructor
  ·rintro ⟨rfl,rfl,rfl⟩
   exact .inr ⟨ha _,(hw _).2 rfl,rfl⟩
  ·rintro (⟨h1,h2⟩|⟨h1,h2,h3⟩)
   ·exact absurd h1 (ha _)
   ·have:=(hw _).1 h2
    simp at this;exact ⟨this.1,this.2,h3⟩
theorem ce7 {w:World} {R:Nat} {o fl tb:Option Nat} {j:Jr} {N n:Nat} (h:Rr w R o fl tb j N n M) (hnn:2*N+n<20):
  Calls prog 73 #[.pointer (some ⟨R,0,none⟩)] w fun e w'=>∃ v rs,e= .returned v/\Subj M rs/\rs.length<20/\SjAt w' v rs/\(∀ b,v.ownBlock=some b->w.heap.size<=b)/\Below w.heap.size w w':=by
 refine (bk7 h hnn).mono ?_;rintro e w' ⟨v,xs,ys,ps,es,fs,ds,rfl,⟨hE,-,hx⟩,⟨hF,-,hy⟩,hp,hso,hl20,hat,hown,hb⟩;have hA:∀ e∈es.map sO++fs.map sF,e.on=true:=fun e he=>by
  rcases List.mem_append.1 he with he|he<;>obtain ⟨x,-,rfl⟩:=List.mem_map.1 he<;>rfl
 have hB:∀ e∈ps.map sW,e.on=false:=fun e he=>by
  obtain ⟨x,-,rfl⟩:=List.mem_map.1 he;rfl
 obtain ⟨k1,k2⟩:=bj9 hA hB hso;have hans:∀ p:Pk,(∃ x∈es.map sO++fs.map sF,En.pk x=p)↔M.ans p:=fun p=>by
  constructor
  ·rintro ⟨x,hx',rfl⟩
   rcases List.mem_append.1 hx' with h1|h1
   ·obtain ⟨⟨⟨xa,xn⟩,y,hok,hfit,hhas⟩,-,rfl⟩:=List.mem_map.1 h1
    exact .inl ⟨hok,by show (M.sm.own ⟨xa,xn⟩).isSome=true; rw [hhas]; rfl⟩
   ·obtain ⟨⟨⟨xa,xn,xi⟩,y,hok,hfit,hhas⟩,-,rfl⟩:=List.mem_map.1 h1
    exact .inr ⟨xi,hok,by show (M.sm.floor ⟨xa,xn,xi⟩).isSome=true; rw [hhas]; rfl⟩
  ·rintro (h1|⟨id,h1⟩)
   ·have h2:=(hx p).2 h1
    rw [<- show es.map (·.key)=xs from hE] at h2;obtain ⟨x,h3,rfl⟩:=List.mem_map.1 h2;exact ⟨sO x,List.mem_append_left _ (List.mem_map.2 ⟨x,h3,rfl⟩),rfl⟩
   ·have h2:=(hy ⟨p.a,p.n,id⟩).2 h1
    rw [<- show fs.map (·.key)=ys from hF] at h2;obtain ⟨x,h3,h4⟩:=List.mem_map.1 h2;refine ⟨sF x,List.mem_append_right _ (List.mem_map.2 ⟨x,h3,rfl⟩),?_⟩;unfold sF En.pk;rw [h4]
 have hways:∀ p:Pk,(∃ x∈ps.map sW,En.pk x=p)↔M.ways p:=fun p=>by
  constructor
  ·rintro ⟨x,hx',rfl⟩
   obtain ⟨q,h1,rfl⟩:=List.mem_map.1 hx';exact (hp q).1 h1
  ·intro h1
   exact ⟨sW p,List.mem_map.2 ⟨p,(hp p).2 h1,rfl⟩,rfl⟩
 refine ⟨v,_,rfl,⟨k1,fun e=>?_⟩,Nat.lt_of_le_of_lt (bh0 _ _) (by rw [List.length_map]; exact hl20),hat,hown,hb⟩;rw [k2 e,hans,hways]
end
section
open Go.RowKit Go.Maps Rm
attribute [local go_sem] Oper.semAt_some
variable {F:List Nat}{w:World}{R sp:Nat}{M:Mr}
def Mr.leased (M:Mr) (s:Nat):Mr:=if s<=M.sm.lease then M else { M with sm:=app M.sm ⟨3,0,0,0,0,0,false,min (s+7) 1073741824,0⟩ }
theorem bm2 (s:Nat) (h:s<=1073741824):right ⟨3,0,0,0,0,0,false,s,0⟩=true:=by
 rw [<- ai8];unfold right2;rw [show Am.right 0 0=true by decide];simp;omega
theorem au1 {room:Nat} {s:Nat} (h:Rz F w R (room+if s<=M.sm.lease then 0 else 1) sp M) (hs:s<=1073741824):
  Calls prog 108 #[.pointer (some ⟨R,0,none⟩),.int .u32 s] w fun e w'=>e= .returned (.bool true)/\Goes F w R room sp (M.leased s) w':=by
 obtain ⟨o,fl,tb,j,N,n,hR⟩:=h.rr;have HS:=ac4 hR;have X:=Lib.hid h;clear h hR;go_enter Tryz.func108,Tryz.ntmps108;go_wp2_with fail;refine HS.mono ?_;rintro e w2 ⟨rfl,hb2⟩;obtain ⟨o2,fl2,tb2,j2,N2,n2,hR2⟩:=(X.out.held hb2).rr;obtain ⟨cn,cm,hnm,hSt⟩:=hR2.nt;have HL:=an8 hSt;clear hR2 hSt HS;go_wp2_with fail;refine HL.mono ?_;rintro e w3 ⟨rfl,rfl⟩;clear HL;by_cases hq:s<=M.sm.lease
 ·have d1:decide (s<=M.sm.lease)=true:=decide_eq_true hq
  have E:=Lib.hid (show M.leased s=M by unfold Mr.leased; rw [if_pos hq]);have B:=Lib.hid hb2;have Q:=Lib.hid hq;clear hq hb2;go_wp2_with fail;go_ret;have hz0:Rz F w R room sp M:=by have:=X.out; rw [if_pos Q.out] at this; exact this
  exact ⟨rfl,by rw [E.out]; exact Goes.stay hz0 B.out⟩
 ·have d1:decide (s<=M.sm.lease)=false:=decide_eq_false hq
  have E:=Lib.hid (show M.leased s={ M with sm:=app M.sm ⟨3,0,0,0,0,0,false,min (s+7) 1073741824,0⟩ } by unfold Mr.leased; rw [if_neg hq]);obtain ⟨z,hz⟩:∃ z,min (s+7) 1073741824=z:=⟨_,rfl⟩;have hz2:z<=1073741824:=by omega
  have hmin:min ((s:Int)+8 - 1) 1073741824=(z:Int):=by omega
  have h2:Rz F w2 R (room+1) sp M:=by have:=X.out.held hb2; rw [if_neg hq] at this; exact this
  rw [hz] at E;have B:=H3 hb2 h2 hz2;clear hq hb2 h2 hz;go_upto_region 4 with fail;have HA:=au2 B.out.2.1 (k:=3) (g:=0) (l:=0) (rid:=0) (a:=0) (rn:=0) (on:=false) (s:=z) (m:=0) ⟨by show (-9223372036854775808:Int)<=3; decide,by show (3:Int)<=9223372036854775807; decide,by show 0<4294967296; omega,by show 0<4294967296; omega,by show 0<4294967296; omega,by show 0<4294967296; omega,by show (-9223372036854775808:Int)<=0; decide,by show (0:Int)<=9223372036854775807; decide,by show z<4294967296; omega,by show 0<65536; omega⟩ (bm2 z hz2) (by decide);try rw [hmin]
  clear hmin d1;go_wp2_with fail;refine HA.mono ?_;rintro e w4 ⟨rfl,hG⟩;have hG3:=Goes.before B.out.1 hG;rw [<- E.out] at hG3;have G:=Lib.hid hG3;clear HA hG hG3;go_wp2_with fail;go_ret;exact ⟨rfl,G.out⟩
def Mr.next (M:Mr):Nat:=if M.seq=0 then M.sm.lease+1 else M.seq+1
def Mr.advance (M:Mr):Mr:=if M.seq≠0/\M.now - M.since<12 then M else if M.next<=1073741824 then { M.leased M.next with seq:=M.next,since:=M.now } else M
def Mr.advN (M:Mr):Nat:=if M.seq≠0/\M.now - M.since<12 then 0 else if M.next<=1073741824 then (if M.next<=M.sm.lease then 0 else 1) else 0
theorem af7 (M:Mr) (s:Nat):(M.leased s).id=M.id/\(M.leased s).f=M.f/\(M.leased s).c=M.c/\(M.leased s).now=M.now/\(M.leased s).seq=M.seq/\(M.leased s).since=M.since:=by unfold Mr.leased; split<;>exact ⟨rfl,rfl,rfl,rfl,rfl,rfl⟩
theorem au0 (M:Mr) (s:Nat) (t:Int) (o fl:Option Nat) (j:Jr) (tb:Option Nat):((M.C o fl j tb).setIfInBounds 20 (.int .u32 s)).setIfInBounds 21 (.int .i64 t)=({ M with seq:=s,since:=t }:Mr).C o fl j tb:=rfl
theorem bw0 {room:Nat} (h:Rz F w R (room+M.advN) sp M) (hl:M.sm.lease<=1073741824):
  Calls prog 76 #[.pointer (some ⟨R,0,none⟩)] w fun e w'=>e= .returned (.tuple #[])/\Goes F w R room sp M.advance w':=by
 obtain ⟨o,fl,tb,j,N,n,hR⟩:=h.rr;have hF:=h.fits;have hn1:=hF.now;have hn2:=hF.since;have hn3:=hF.seq;have c0:w.cell? ⟨R,19,none⟩=some (.int .i64 M.now):=hR.head.at_ 19;have c1:w.cell? ⟨R,20,none⟩=some (.int .u32 M.seq):=hR.head.at_ 20;have c2:w.cell? ⟨R,21,none⟩=some (.int .i64 M.since):=hR.head.at_ 21;have r0:=cell_regrown c0;have r1:=cell_regrown c1;have r2:=cell_regrown c2;have X:=Lib.hid h;clear h hR hF c0 c1 c2;obtain ⟨q0,hq0⟩:∃ q,((M.seq:Int) !=0)=q:=⟨_,rfl⟩;have e0:M.seq≠0↔q0=true:=by rw [<- hq0,bne_iff_ne]; omega
 have E0:=Lib.hid e0;clear e0;by_cases hd:M.now - M.since<12
 ·have d1:decide (M.now - M.since<12)=true:=decide_eq_true hd
  cases q0 with
  |true=>
   have E:=Lib.hid (show M.advance=M by unfold Mr.advance; rw [if_pos ⟨E0.out.2 (by trivial),hd⟩]);have hN:M.advN=0:=by unfold Mr.advN; rw [if_pos ⟨E0.out.2 (by trivial),hd⟩]
   have XX:=Lib.hid (show Rz F w R room sp M by have:=X.out; rw [hN] at this; exact this);clear hN;clear hd;go_enter Tryz.func76,Tryz.ntmps76;go_upto_region 0 with fail;refine wp_region_quiet_below (by kernel_rfl) (by kernel_rfl) ?_
   repeat (go_big_quiet_step (fail))
   refine wpQuiet_nil ?_;intro _ hw';obtain ⟨⟨dq,osq⟩,hw''⟩:=hw';subst hw'';have B:=Lib.hid (below_regrown w dq osq);have c1:=r1 dq osq;clear r0 r1 r2;generalize Sort.grow (redrawn w dq) osq=W at*;go_wp2_with fail;refine bodyPost_ret (results_none rfl _ _ _) rfl ⟨rfl,by rw [E.out]; exact Goes.stay XX.out B.out⟩
  |false=>
   have hs0:M.seq=0:=by rcases Nat.eq_zero_or_pos M.seq with h|h; exact h; have:=E0.out.1 (by omega); cases this
   have E:=Lib.hid (show M.advance=if M.next<=1073741824 then { M.leased M.next with seq:=M.next,since:=M.now } else M by unfold Mr.advance; rw [if_neg (fun h=>h.1 hs0)]);have AN:=Lib.hid (show M.advN=if M.next<=1073741824 then (if M.next<=M.sm.lease then 0 else 1) else 0 by unfold Mr.advN; rw [if_neg (fun h=>h.1 hs0)]);have nx:=Lib.hid (show M.next=M.sm.lease+1 by unfold Mr.next; rw [if_pos hs0]);clear hd;go_enter Tryz.func76,Tryz.ntmps76;go_upto_region 0 with fail;refine wp_region_quiet_below (by kernel_rfl) (by kernel_rfl) ?_
   repeat (go_big_quiet_step (fail))
   refine wpQuiet_nil ?_;intro _ hw';obtain ⟨⟨dq,osq⟩,hw''⟩:=hw';subst hw'';have B:=Lib.hid (below_regrown w dq osq);have c1:=r1 dq osq;clear r0 r1 r2;generalize Sort.grow (redrawn w dq) osq=W at*;obtain ⟨o2,fl2,tb2,j2,N2,nn2,hR2⟩:=(X.out.held B.out).rr;have HS:=ac4 hR2;clear hR2;obtain ⟨z,hz⟩:∃ z,M.sm.lease+1=z:=⟨_,rfl⟩;have NX:Hid (M.next=z):=Lib.hid (nx.out.trans hz);have hzz:(M.sm.lease:Int)+1=(z:Int):=by omega
   clear nx hz;go_wp2_with fail;refine HS.mono ?_;rintro e w3 ⟨rfl,hb3⟩;have hb4:=next B.out hb3;obtain ⟨o3,fl3,tb3,j3,N3,nn3,hR3⟩:=(X.out.held hb4).rr;obtain ⟨cn,cm,hnm,hSt⟩:=hR3.nt;have HLe:=an8 hSt;have B2:=H2 hb4 (X.out.held hb4);clear hR3 hSt HS hb3 hb4 c1;go_wp2_with fail;refine HLe.mono ?_;rintro e w3' ⟨rfl,rfl⟩;clear HLe;go_upto_region 4 with fail;try rw [hzz]
   clear hzz;by_cases hle:z<=1073741824
   ·have d4:decide ((z:Int)<=1073741824)=true:=decide_eq_true (by omega)
    have hzl:=B2.out.2;rw [AN.out,NX.out,if_pos hle] at hzl;have HL:=au1 hzl hle;clear hzl;have HLE:=Lib.hid hle;have E2:=Lib.hid (show M.advance={ M.leased z with seq:=z,since:=M.now } by rw [E.out,NX.out,if_pos hle]);clear hle;go_wp2_with fail;refine HL.mono ?_;rintro e w4 ⟨rfl,hG⟩;obtain ⟨F4,hz4,t4,n4⟩:=Goes.before B2.out.1 hG;obtain ⟨o4,fl4,tb4,j4,N4,nn4,hR4⟩:=hz4.rr;have L4:=af7 M z;have a0:w4.cell? ⟨R,19,none⟩=some (.int .i64 M.now):=by have:=hR4.head.at_ 19; rw [<- L4.2.2.2.1]; exact this
    have a1:=hR4.head.at_ 20;have a2:=hR4.head.at_ 21;have a3:w4.cell? ⟨R,20,none⟩=some (.int .u32 (M.leased z).seq):=a1;have a4:w4.cell? ⟨R,21,none⟩=some (.int .i64 (M.leased z).since):=a2;have f1:=hR4.head.free 20;have f2:=hR4.head.free 21;have Z:=H4 hz4 t4 n4 L4;clear HL hG hz4 t4 n4 hR4 a1 a2 L4;go_wp2_with fail;have hG5:Goes F4 w4 R room sp { M.leased z with seq:=z,since:=M.now } _:=Z.out.1.of_head (M':={ M.leased z with seq:=z,since:=M.now }) (fun o fl j tb hb=>by
      have:=(hb.store 20 (.int .u32 z)).store 21 (.int .i64 M.now);rw [au0] at this;exact this) rfl rfl ((Turn.setCell _ (by simp) _).trans (Turn.setCell _ (by simp) _)) ⟨Z.out.1.fits.id,Z.out.1.fits.f,Z.out.1.fits.c,Z.out.1.fits.now,HLE.out,hn1.1,by show M.now<=(M.leased z).now; rw [Z.out.2.2.2.2.2.2.1]; exact Int.le_refl _⟩
    have hG6:=Goes.trans Z.out.2.1 Z.out.2.2.1 hG5;rw [<- E2.out] at hG6;refine bodyPost_end (v:= .tuple #[]) (results_none rfl _ _ _) rfl ⟨rfl,hG6⟩
   ·have d4:decide ((z:Int)<=1073741824)=false:=decide_eq_false (by omega)
    have E2:=Lib.hid (show M.advance=M by rw [E.out,NX.out,if_neg hle]);have HNL:=Lib.hid hle;clear hle;go_wp2_with fail;have hz0:Rz F w R room sp M:=by have:=X.out; rw [AN.out,NX.out,if_neg HNL.out] at this; exact this
    refine bodyPost_end (v:= .tuple #[]) (results_none rfl _ _ _) rfl ⟨rfl,by rw [E2.out]; exact Goes.stay hz0 B2.out.1⟩
 ·have d1:decide (M.now - M.since<12)=false:=decide_eq_false hd
  cases q0 with
  |true=>
   have hs0:M.seq≠0:=E0.out.2 (by trivial);have E:=Lib.hid (show M.advance=if M.next<=1073741824 then { M.leased M.next with seq:=M.next,since:=M.now } else M by unfold Mr.advance; rw [if_neg (fun h=>hd h.2)]);have AN:=Lib.hid (show M.advN=if M.next<=1073741824 then (if M.next<=M.sm.lease then 0 else 1) else 0 by unfold Mr.advN; rw [if_neg (fun h=>hd h.2)]);have nx:=Lib.hid (show M.next=M.seq+1 by unfold Mr.next; rw [if_neg hs0]);clear hd;go_enter Tryz.func76,Tryz.ntmps76;go_upto_region 0 with fail;refine wp_region_quiet_below (by kernel_rfl) (by kernel_rfl) ?_
   repeat (go_big_quiet_step (fail))
   refine wpQuiet_nil ?_;intro _ hw';obtain ⟨⟨dq,osq⟩,hw''⟩:=hw';subst hw'';have B:=Lib.hid (below_regrown w dq osq);have c1:=r1 dq osq;clear r0 r1 r2;generalize Sort.grow (redrawn w dq) osq=W at*;obtain ⟨z,hz⟩:∃ z,M.seq+1=z:=⟨_,rfl⟩;have NX:Hid (M.next=z):=Lib.hid (nx.out.trans hz);have hzz:(M.seq:Int)+1=(z:Int):=by omega
   have B2:=H2 B.out (X.out.held B.out);clear nx hz;go_upto_region 4 with fail;try rw [hzz]
   clear hzz c1;by_cases hle:z<=1073741824
   ·have d4:decide ((z:Int)<=1073741824)=true:=decide_eq_true (by omega)
    have hzl:=B2.out.2;rw [AN.out,NX.out,if_pos hle] at hzl;have HL:=au1 hzl hle;clear hzl;have HLE:=Lib.hid hle;have E2:=Lib.hid (show M.advance={ M.leased z with seq:=z,since:=M.now } by rw [E.out,NX.out,if_pos hle]);clear hle;go_wp2_with fail;refine HL.mono ?_;rintro e w4 ⟨rfl,hG⟩;obtain ⟨F4,hz4,t4,n4⟩:=Goes.before B2.out.1 hG;obtain ⟨o4,fl4,tb4,j4,N4,nn4,hR4⟩:=hz4.rr;have L4:=af7 M z;have a0:w4.cell? ⟨R,19,none⟩=some (.int .i64 M.now):=by have:=hR4.head.at_ 19; rw [<- L4.2.2.2.1]; exact this
    have a1:=hR4.head.at_ 20;have a2:=hR4.head.at_ 21;have a3:w4.cell? ⟨R,20,none⟩=some (.int .u32 (M.leased z).seq):=a1;have a4:w4.cell? ⟨R,21,none⟩=some (.int .i64 (M.leased z).since):=a2;have f1:=hR4.head.free 20;have f2:=hR4.head.free 21;have Z:=H4 hz4 t4 n4 L4;clear HL hG hz4 t4 n4 hR4 a1 a2 L4;go_wp2_with fail;have hG5:Goes F4 w4 R room sp { M.leased z with seq:=z,since:=M.now } _:=Z.out.1.of_head (M':={ M.leased z with seq:=z,since:=M.now }) (fun o fl j tb hb=>by
      have:=(hb.store 20 (.int .u32 z)).store 21 (.int .i64 M.now);rw [au0] at this;exact this) rfl rfl ((Turn.setCell _ (by simp) _).trans (Turn.setCell _ (by simp) _)) ⟨Z.out.1.fits.id,Z.out.1.fits.f,Z.out.1.fits.c,Z.out.1.fits.now,HLE.out,hn1.1,by show M.now<=(M.leased z).now; rw [Z.out.2.2.2.2.2.2.1]; exact Int.le_refl _⟩
    have hG6:=Goes.trans Z.out.2.1 Z.out.2.2.1 hG5;rw [<- E2.out] at hG6;refine bodyPost_end (v:= .tuple #[]) (results_none rfl _ _ _) rfl ⟨rfl,hG6⟩
   ·have d4:decide ((z:Int)<=1073741824)=false:=decide_eq_false (by omega)
    have E2:=Lib.hid (show M.advance=M by rw [E.out,NX.out,if_neg hle]);have HNL:=Lib.hid hle;clear hle;go_wp2_with fail;have hz0:Rz F w R room sp M:=by have:=X.out; rw [AN.out,NX.out,if_neg HNL.out] at this; exact this
    refine bodyPost_end (v:= .tuple #[]) (results_none rfl _ _ _) rfl ⟨rfl,by rw [E2.out]; exact Goes.stay hz0 B2.out.1⟩
  |false=>
   have hs0:M.seq=0:=by rcases Nat.eq_zero_or_pos M.seq with h|h; exact h; have:=E0.out.1 (by omega); cases this
   have E:=Lib.hid (show M.advance=if M.next<=1073741824 then { M.leased M.next with seq:=M.next,since:=M.now } else M by unfold Mr.advance; rw [if_neg (fun h=>hd h.2)]);have AN:=Lib.hid (show M.advN=if M.next<=1073741824 then (if M.next<=M.sm.lease then 0 else 1) else 0 by unfold Mr.advN; rw [if_neg (fun h=>hd h.2)]);have nx:=Lib.hid (show M.next=M.sm.lease+1 by unfold Mr.next; rw [if_pos hs0]);clear hd;go_enter Tryz.func76,Tryz.ntmps76;go_upto_region 0 with fail;refine wp_region_quiet_below (by kernel_rfl) (by kernel_rfl) ?_
   repeat (go_big_quiet_step (fail))
   refine wpQuiet_nil ?_;intro _ hw';obtain ⟨⟨dq,osq⟩,hw''⟩:=hw';subst hw'';have B:=Lib.hid (below_regrown w dq osq);have c1:=r1 dq osq;clear r0 r1 r2;generalize Sort.grow (redrawn w dq) osq=W at*;obtain ⟨o2,fl2,tb2,j2,N2,nn2,hR2⟩:=(X.out.held B.out).rr;have HS:=ac4 hR2;clear hR2;obtain ⟨z,hz⟩:∃ z,M.sm.lease+1=z:=⟨_,rfl⟩;have NX:Hid (M.next=z):=Lib.hid (nx.out.trans hz);have hzz:(M.sm.lease:Int)+1=(z:Int):=by omega
   clear nx hz;go_wp2_with fail;refine HS.mono ?_;rintro e w3 ⟨rfl,hb3⟩;have hb4:=next B.out hb3;obtain ⟨o3,fl3,tb3,j3,N3,nn3,hR3⟩:=(X.out.held hb4).rr;obtain ⟨cn,cm,hnm,hSt⟩:=hR3.nt;have HLe:=an8 hSt;have B2:=H2 hb4 (X.out.held hb4);clear hR3 hSt HS hb3 hb4 c1;go_wp2_with fail;refine HLe.mono ?_;rintro e w3' ⟨rfl,rfl⟩;clear HLe;go_upto_region 4 with fail;try rw [hzz]
   clear hzz;by_cases hle:z<=1073741824
   ·have d4:decide ((z:Int)<=1073741824)=true:=decide_eq_true (by omega)
    have hzl:=B2.out.2;rw [AN.out,NX.out,if_pos hle] at hzl;have HL:=au1 hzl hle;clear hzl;have HLE:=Lib.hid hle;have E2:=Lib.hid (show M.advance={ M.leased z with seq:=z,since:=M.now } by rw [E.out,NX.out,if_pos hle]);clear hle;go_wp2_with fail;refine HL.mono ?_;rintro e w4 ⟨rfl,hG⟩;obtain ⟨F4,hz4,t4,n4⟩:=Goes.before B2.out.1 hG;obtain ⟨o4,fl4,tb4,j4,N4,nn4,hR4⟩:=hz4.rr;have L4:=af7 M z;have a0:w4.cell? ⟨R,19,none⟩=some (.int .i64 M.now):=by have:=hR4.head.at_ 19; rw [<- L4.2.2.2.1]; exact this
    have a1:=hR4.head.at_ 20;have a2:=hR4.head.at_ 21;have a3:w4.cell? ⟨R,20,none⟩=some (.int .u32 (M.leased z).seq):=a1;have a4:w4.cell? ⟨R,21,none⟩=some (.int .i64 (M.leased z).since):=a2;have f1:=hR4.head.free 20;have f2:=hR4.head.free 21;have Z:=H4 hz4 t4 n4 L4;clear HL hG hz4 t4 n4 hR4 a1 a2 L4;go_wp2_with fail;have hG5:Goes F4 w4 R room sp { M.leased z with seq:=z,since:=M.now } _:=Z.out.1.of_head (M':={ M.leased z with seq:=z,since:=M.now }) (fun o fl j tb hb=>by
      have:=(hb.store 20 (.int .u32 z)).store 21 (.int .i64 M.now);rw [au0] at this;exact this) rfl rfl ((Turn.setCell _ (by simp) _).trans (Turn.setCell _ (by simp) _)) ⟨Z.out.1.fits.id,Z.out.1.fits.f,Z.out.1.fits.c,Z.out.1.fits.now,HLE.out,hn1.1,by show M.now<=(M.leased z).now; rw [Z.out.2.2.2.2.2.2.1]; exact Int.le_refl _⟩
    have hG6:=Goes.trans Z.out.2.1 Z.out.2.2.1 hG5;rw [<- E2.out] at hG6;refine bodyPost_end (v:= .tuple #[]) (results_none rfl _ _ _) rfl ⟨rfl,hG6⟩
   ·have d4:decide ((z:Int)<=1073741824)=false:=decide_eq_false (by omega)
    have E2:=Lib.hid (show M.advance=M by rw [E.out,NX.out,if_neg hle]);have HNL:=Lib.hid hle;clear hle;go_wp2_with fail;have hz0:Rz F w R room sp M:=by have:=X.out; rw [AN.out,NX.out,if_neg HNL.out] at this; exact this
    refine bodyPost_end (v:= .tuple #[]) (results_none rfl _ _ _) rfl ⟨rfl,by rw [E2.out]; exact Goes.stay hz0 B2.out.1⟩
end
end Go.Proofs.YtlklghedfaeepaaGreat
