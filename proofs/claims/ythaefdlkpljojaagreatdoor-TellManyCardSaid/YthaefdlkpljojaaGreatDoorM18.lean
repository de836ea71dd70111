import Derived.Test.YthaefdlkpljojaaGreatDoorM17
import Derived.Test.YthaefdlkpljojaaGreatDoorM09
import Derived.Test.YthaefdlkpljojaaGreatDoorM12
import Derived.Test.YthaefdlkpljojaaGreatDoorM02
import Derived.Lib.QuietBelow
import Derived.Test.YthaefdlkpljojaaGreatDoorM01
set_option maxHeartbeats 8000000
namespace Go.Proofs.YthaefdlkpljojaaGreatDoor
open Go.RowKit Go.Maps Rm Fm Sb
attribute [local go_sem] Oper.semAt_some
def Ls2 (w0:World) (n₀ B A F0 F1:Nat) (rs:List En) (W:World):Prop:=Lsj w0 n₀ B F0 F1 rs W∧Blk 172 W A #[.func (.func 114) #[] #[.pointer (some ⟨B,0,none⟩)]]
theorem ls2_own {β:Type} {w0:World} {n₀ B A F0 F1 B':Nat} (f:β→List En) (h1:n₀≤w0.heap.size) (h2:n₀≤B'):OwnFrom B' (fun s W=>Ls2 w0 n₀ B A F0 F1 (f s) W):=
 OwnFrom.and (lsj_own f h1 h2) (fun _ _ _ _ hs hg hr=>hs.grown hg hr)
theorem Ls2.alloc {w0 W:World} {n₀ B A F0 F1:Nat} {rs:List En} (h:Ls2 w0 n₀ B A F0 F1 rs W) (h1:n₀≤w0.heap.size) (o:Obj):Ls2 w0 n₀ B A F0 F1 rs (W.alloc o):=⟨h.1.alloc h1 o,h.2.more o⟩
theorem ItP.count {W:World} {B1 B2 n:Nat} {v:Value} {o:Option Nat} {f:Pk→Option Bool} {xs:List Pk} (h:ItP W B1 B2 v o n f xs):xs.length=n:=by
 have hnd:xs.Nodup:=h.srt.imp (fun {a b} h=>by rintro rfl; unfold ltP at h; omega)
 cases o with
 |none=>
  have:xs=[]:=List.eq_nil_iff_forall_not_mem.2 fun x hx=>by
   have h1:=((h.mem x).1 hx).2
   have h2:(f x).map ownV=none:=h.map.2 x
   cases hf:f x with
   |none=>rw [hf] at h1; cases h1
   |some y=>rw [hf] at h2; cases h2
  rw [this,h.map.1]
  rfl
 |some b=>exact Mk.card h.map hnd (fun k=>by rw [h.mem k,Option.isSome_map]; exact Iff.rfl)
theorem ItK.count {W:World} {B1 B2 n:Nat} {v:Value} {o:Option Nat} {f:Ky→Option (Nat×Nat)} {xs:List Ky} (h:ItK W B1 B2 v o n f xs):xs.length=n:=by
 have hnd:xs.Nodup:=h.srt.imp (fun {a b} h=>by rintro rfl; simp only [ltK,ltP] at h; omega)
 cases o with
 |none=>
  have:xs=[]:=List.eq_nil_iff_forall_not_mem.2 fun x hx=>by
   have h1:=((h.mem x).1 hx).2
   have h2:(f x).map dV=none:=h.map.2 x
   cases hf:f x with
   |none=>rw [hf] at h1; cases h1
   |some y=>rw [hf] at h2; cases h2
  rw [this,h.map.1]
  rfl
 |some b=>exact Mk.card h.map hnd (fun k=>by rw [h.mem k,Option.isSome_map]; exact Iff.rfl)
theorem SjAt.put {W:World} {v:Value} {es:List En} {D:Nat} {o:Obj} (h:SjAt W v es) (hne:v.ownBlock≠some D):SjAt (W.putObj D o) v es:=by
 rcases h with ⟨rfl,rfl⟩|⟨g,cap,rfl,hgl,hc,F,hS,hF⟩
 ·exact .inl ⟨rfl,rfl⟩
 ·refine .inr ⟨g,cap,rfl,by rw [World.putObj_size]; exact hgl,hc,F,hS.of_block (World.putObj_heap_other fun e=>hne (by rw [e]; rfl)),hF⟩
theorem own_no_def {W:World} {n₀ k D:Nat} {v:Value} {xs:List Value} {q:Option (List Deferred)} (h:W.ownsRow n₀ 171 3 v k xs) (hd:W.heap[D]?=some (.deferred q)):v.ownBlock≠some D:=by
 rcases h.2 with ⟨rfl,_⟩|⟨g,cap,cur,rfl,_,hg,_⟩
 ·simp [Value.ownBlock]
 ·intro e
  have e:g=D:=by simpa [Value.ownBlock] using e
  subst e
  rw [hd] at hg
  cases hg
set_option maxRecDepth 100000 in
theorem rr_subjects {w:World} {R:Nat} {o fl tb:Option Nat} {j:Jr} {N n:Nat} {M:Mr} (h:Rr w R o fl tb j N n M) (hnn:2*N+n<20):
  Calls Tryz.prog 88 #[.pointer (some ⟨R,0,none⟩)] w fun e w'=>∃ v,∃ xs:List Pk,∃ ys:List Ky,∃ ps:List Pk,∃ es:List (ElP M.sm.own),∃ fs:List (ElK M.sm.floor),∃ ds,e= .returned v∧(EsP M.sm.own xs es∧xs.Pairwise ltP∧∀ x,x∈xs↔x.ok∧(M.sm.own x).isSome=true)∧(EsK M.sm.floor ys fs∧ys.Pairwise ltK∧∀ x,x∈ys↔x.ok∧(M.sm.floor x).isSome=true)∧
   (∀ p,p∈ps↔∃ fr,Rk.ok ⟨p.a,p.n,fr⟩∧(M.f ⟨p.a,p.n,fr⟩).isSome=true)∧SortOf (es.map sO++fs.map sF++ps.map sW) ds∧ds.length<20∧SjAt w' v (keepE (fun i=>(ds.map (·.e))[i]!) (ds.map (·.e)).length)∧(∀ b,v.ownBlock=some b→w.heap.size≤b)∧Below w.heap.size w w':=by
 have hb1:=next (below_new w (.cells #[.slice none 0 0] 168)) (below_new _ (.cells #[.func (.func 114) #[] #[.pointer (some ⟨w.heap.size,0,none⟩)]] 172))
 have hBx:Boxed ((w.alloc (.cells #[.slice none 0 0] 168)).alloc (.cells #[.func (.func 114) #[] #[.pointer (some ⟨w.heap.size,0,none⟩)]] 172)) w.heap.size 168 (.slice none 0 0):=(Blk.new w 168 #[.slice none 0 0]).more (.cells #[.func (.func 114) #[] #[.pointer (some ⟨w.heap.size,0,none⟩)]] 172)
 have hAB:=Blk.new (w.alloc (.cells #[.slice none 0 0] 168)) 172 #[.func (.func 114) #[] #[.pointer (some ⟨w.heap.size,0,none⟩)]]
 rw [size_new] at hAB
 have hz:((w.alloc (.cells #[.slice none 0 0] 168)).alloc (.cells #[.func (.func 114) #[] #[.pointer (some ⟨w.heap.size,0,none⟩)]] 172)).heap.size=w.heap.size+2:=by rw [size_new,size_new]
 have h1:=h.held hb1
 have HST:=rr_state h1
 have HR:=Lib.hid h
 refine (callsIn_wide (n:=9)).1 ?_
 refine callsIn_of_wp_marks Tryz.func88 rfl trivial ?_ rfl
 simp only [Tryz.ntmps88,List.size_toArray,List.length_cons,List.length_nil,Nat.reduceAdd,Nat.reduceSub,Array.replicate_succ,Array.replicate_zero,List.push_toArray,List.append_toArray,List.nil_append,List.cons_append]
 clear h
 gi_wp2
 generalize (w.alloc (.cells #[.slice none 0 0] 168)).alloc (.cells #[.func (.func 114) #[] #[.pointer (some ⟨w.heap.size,0,none⟩)]] 172)=w1 at*
 refine ⟨trivial,(callsIn_any HST).mono ?_⟩
 rintro e w1' ⟨rfl,hb1'⟩
 have hR1:=h1.held hb1'
 obtain ⟨cn,cm,hnm,hS⟩:=hR1.nt
 have HO:=owns_any hS
 clear HST
 gi_wp2
 refine ⟨trivial,(callsIn_any HO).mono ?_⟩
 rintro e w2 ⟨B1,B2,B3,v1,oo,xs,rfl,hI,h3,hfr,hB3,hB⟩
 clear HO
 gi_wp2
 have hbb:=next hb1' hB
 have hsz2:=hbb.size
 have hsz1:=hb1'.size
 obtain ⟨es,hE⟩:=esP_ex (f:=M.sm.own) (fun _ _ _=>rfl) xs (fun x hx=>(hI.mem x).1 hx)
 have hlenE:es.length≤100000:=by
  have:es.length=xs.length:=by rw [← show es.map (·.key)=xs from hE]; simp
  have:=hI.len
  have:=hS.counts
  omega
 have hL1:Ls2 w w.heap.size w.heap.size (w.heap.size+1) w1'.heap.size w2.heap.size [] w2:=by
  refine ⟨⟨⟨.slice none 0 0,(hbb.block _ (by omega)).trans hBx,World.ownsRow_nil _ _ _ _,by simp,fun b hb=>by cases hb⟩,next hb1 hbb,Nat.le_refl _⟩,hAB.held hbb⟩
 have h1w:w.heap.size≤w.heap.size:=Nat.le_refl _
 refine loop_all (α:=ElP M.sm.own) rfl enter_owns1 (owns_drives hI hE h3) (fun _=>rfl) (fun h k=>⟨h.1.trans k.1,fun b C hb=>k.2 b C (h.2 b C hb)⟩) (fun W l o o' hl h hc hw=>⟨keepS_put hI.lt W l o o' hl h hc hw,KeepT.put W l o o' h hc⟩)
  (fun pre W=>Ls2 w w.heap.size w.heap.size (w.heap.size+1) w1'.heap.size w2.heap.size (pre.map sO) W) (ls2_own _ h1w (by omega)) hL1
  (fun x a' W=>∃ Bx,Blk 33 W Bx #[.int .u32 x.key.a,.int .i64 x.key.n]∧a'={ tmps:=#[.pointer (some ⟨R,0,none⟩),undef,.slice none 0 0,.pointer (some ⟨w.heap.size,0,none⟩),.pointer (some ⟨w.heap.size+1,0,none⟩),.pointer (some ⟨Bx,0,none⟩),undef,undef,.func (.func 114) #[] #[.pointer (some ⟨w.heap.size,0,none⟩)],.pointer (some ⟨R,0,none⟩),.pointer (some ⟨R,0,none⟩),.func (.func 147) #[] #[.pointer (some ⟨B3,0,none⟩)],.agg #[.int .u32 x.key.a,.int .i64 x.key.n],.bool x.val,undef,undef,undef,undef,undef,undef,undef,undef,undef,undef,undef,undef,undef,undef,undef,undef,undef,undef,undef,undef,undef,undef,undef,undef,undef,undef],defers:=[] })
  ?_ ?assign ?body ?done
 ·rintro x a' s W W' row ⟨Bx,hp,rfl⟩ hg hr
  exact ⟨Bx,hp.grown hg hr,rfl⟩
 case assign=>
  rintro l pre ⟨⟨xa,xn⟩,y,hok,hfit,hhas⟩ W K hL hK
  have hb:=below_new W (.cells #[.int .u32 xa,.int .i64 xn] 33)
  have hl:=hL.1.2.2
  simp only [arO,clP]
  gi_wp2
  exact hK _ _ (keepsFrom_below _ hb) ⟨.of_below (fun b hb'=>Nat.lt_of_lt_of_le (hI.lt b hb') hl) hb,.of_below hb⟩ (hL.alloc h1w _) ⟨_,Blk.new _ _ _,rfl⟩
 case body=>
  rintro l pre ⟨⟨xa,xn⟩,y,hok,hfit,hhas⟩ a' W hL ⟨Bx,hp,rfl⟩ hlt
  have p0:=hp.at_ 0
  have p1:=hp.at_ 1
  have a0:=hL.2.at_ 0
  have hrl:(pre.map sO).length=pre.length:=by simp
  have HA:=ans_any h1w (Nat.le_refl _) hL.1 (by omega) xa xn
  have X:=Lib.hid (And.intro hL hp)
  clear hL hp
  gi_wp2
  refine ⟨trivial,rfl,(callsIn_round HA).mono ?_⟩
  rintro e W2 ⟨rfl,hl2,hk2,hb2,hoth,hkt⟩
  have hne:∀ {t C b},Blk t W b C→t≠168→b≠w.heap.size:=fun {t C b} hb ht e=>by
   obtain ⟨⟨⟨v,hv,-⟩,-⟩,-⟩:=X.out.1
   subst e
   exact hb.ne (show Blk 168 W w.heap.size #[v] from hv) ht rfl
  gi_wp2
  refine ⟨hk2.from _,⟨⟨fun b hb=>hoth b (Nat.lt_of_lt_of_le (hI.lt b hb) X.out.1.1.2.2) (fun e=>?_) (hfr b hb) (hI.lt b hb),hk2.size⟩,fun b C hb=>hkt _ C b hb (by decide) (hne hb (by decide))⟩,?_,hkt _ _ _ X.out.1.2 (by decide) (by omega)⟩
  ·have:=hfr b hb
   omega
  ·simpa [sO] using hl2
 case done=>
  rintro D es' W hD rfl hL hK
  have hDW:D<W.heap.size:=(Array.getElem?_eq_some_iff.1 hK).1
  have hDw:w1.heap.size≤D:=Nat.le_trans hsz2 hD
  have hR2:=HR.out.held hL.1.2.1
  have HST2:=rr_state hR2
  have HE:=Lib.hid (And.intro hE (And.intro hI.srt hI.mem))
  have hkl:=hI.count
  have hcn:=hS.counts
  clear hI h3 hfr hB3 hB hL1 hb1 hBx hE hAB h1 hb1' hR1 hS hbb
  gi_wp2
  refine ⟨trivial,(callsIn_any HST2).mono ?_⟩
  rintro e W3 ⟨rfl,hb3⟩
  have hR3:=hR2.held hb3
  obtain ⟨cn3,cm3,hnm3,hS3⟩:=hR3.nt
  have HF:=floors_any hS3
  clear HST2
  gi_wp2
  refine ⟨trivial,(callsIn_any HF).mono ?_⟩
  rintro e w4 ⟨C1,C2,v2,oo2,ys,rfl,hI2,hfr2,hB2⟩
  clear HF
  gi_wp2
  have hb34:=next hb3 hB2
  have hsz4:=hB2.size
  have hsz3:=hb3.size
  obtain ⟨fs,hE2⟩:=esK_ex (f:=M.sm.floor) hS3.small ys (fun x hx=>(hI2.mem x).1 hx)
  have hlenF:fs.length≤100000:=by
   have:fs.length=ys.length:=by rw [← show fs.map (·.key)=ys from hE2]; simp
   have:=hI2.len
   have:=hS3.counts
   omega
  have hlenE2:(es'.map sO).length≤100000:=by rw [List.length_map]; omega
  have hL4:Ls2 w w.heap.size w.heap.size (w.heap.size+1) W3.heap.size w4.heap.size (es'.map sO++([]:List (ElK M.sm.floor)).map sF) w4:=by
   have:=(hL.1.held hb3 h1w).rebase hB2 h1w
   exact ⟨by simpa using this,hL.2.held hb34⟩
  have hD4:w4.heap[D]?=some (.deferred (some [])):=(hb34.block D hDW).trans hK
  refine wpIn_rangeFunc_ownH (α:=ElK M.sm.floor) rfl (by omega) (gf:=193) (lb:=#[.pointer (some ⟨C1,0,none⟩),.pointer (some ⟨C2,0,none⟩)]) rfl trivial enter_inOrdK (inOrdK_stops hI2 hE2 8) KeepS.trans (keepS_put hI2.lt) (Below.refl _ _) (fun _=>rfl)
   (fun pre V9=>Ls2 w w.heap.size w.heap.size (w.heap.size+1) W3.heap.size w4.heap.size (es'.map sO++pre.map sF) V9∧V9.heap[D]?=some (.deferred (some [])))
   (fun _ _ _=>False)
   (OwnFrom.and (ls2_own (B':=w4.heap.size) _ h1w (by omega)) (fun _ _ _ _ h hg hr=>grown_block hg hr (by omega) h))
   (fun _ _ _ _ _ h _ _=>h) ⟨hL4,hD4⟩
   (fun x a' V8=>∃ Bk,Blk 189 V8 Bk #[.int .u32 x.key.a,.int .i64 x.key.n,.int .u32 x.key.id]∧a'={ tmps:=#[.pointer (some ⟨R,0,none⟩),undef,.slice none 0 0,.pointer (some ⟨w.heap.size,0,none⟩),.pointer (some ⟨w.heap.size+1,0,none⟩),undef,.pointer (some ⟨Bk,0,none⟩),undef,.func (.func 114) #[] #[.pointer (some ⟨w.heap.size,0,none⟩)],.pointer (some ⟨R,0,none⟩),.pointer (some ⟨R,0,none⟩),.func (.func 147) #[] #[.pointer (some ⟨B3,0,none⟩)],undef,undef,undef,undef,undef,.pointer (some ⟨R,0,none⟩),.pointer (some ⟨R,0,none⟩),.func (.func 193) #[] #[.pointer (some ⟨C1,0,none⟩),.pointer (some ⟨C2,0,none⟩)],.agg #[.int .u32 x.key.a,.int .i64 x.key.n,.int .u32 x.key.id],.agg #[.int .u32 x.val.1,.int .u16 x.val.2],undef,undef,undef,undef,undef,undef,undef,undef,undef,undef,undef,undef,undef,undef,undef,undef,undef,undef],defers:=[] })
   ?_ ?assign ?body ?done ?stop
  ·rintro x a' s W1 W2 row ⟨Bk,hp,rfl⟩ hg hr
   exact ⟨Bk,hp.grown hg hr,rfl⟩
  case assign=>
   rintro l pre ⟨⟨xa,xn,xi⟩,⟨s,y⟩,hok,hfit,hhas⟩ W1 K ⟨hL,hd⟩ hK
   have hbb:=below_new W1 (.cells #[.int .u32 xa,.int .i64 xn,.int .u32 xi] 189)
   have hl:=hL.1.2.2
   have hdl:D<W1.heap.size:=(Array.getElem?_eq_some_iff.1 hd).1
   have hd2:=(hbb.block D hdl).trans hd
   simp only [arK,clK,dV]
   gi_wp2
   exact hK _ _ (keepsFrom_below _ hbb) (.of_below (fun b hb'=>Nat.lt_of_lt_of_le (hI2.lt b hb') hl) hbb) ⟨hL.alloc h1w _,hd2⟩ ⟨_,Blk.new _ _ _,rfl⟩
  case body=>
   rintro l pre ⟨⟨xa,xn,xi⟩,⟨s,y⟩,hok,hfit,hhas⟩ a' W1 _ _ ⟨hL,hd⟩ ⟨Bk,hp,rfl⟩ hlt
   have p0:=hp.at_ 0
   have p1:=hp.at_ 1
   have a0:=hL.2.at_ 0
   have hrl:(es'.map sO++pre.map sF).length≤300000:=by
    have h2:(pre.map (sF (f:=M.sm.floor))).length=pre.length:=by simp
    rw [List.length_append,h2]
    omega
   have HA:=ans_any h1w (Nat.le_refl _) hL.1 hrl xa xn
   have X:=Lib.hid (And.intro hL hp)
   clear hL hp
   gi_wp2
   first|refine ⟨trivial,trivial,(callsIn_round HA).mono ?_⟩|refine ⟨trivial,trivial,rfl,(callsIn_round HA).mono ?_⟩|refine ⟨rfl,trivial,(callsIn_round HA).mono ?_⟩|refine ⟨trivial,(callsIn_round HA).mono ?_⟩
   rintro e W2 ⟨rfl,hl2,hk2,hb2,hoth,hkt⟩
   gi_wp2
   refine ⟨hk2.from _,⟨fun b hb=>hoth b (Nat.lt_of_lt_of_le (hI2.lt b hb) X.out.1.1.2.2) (fun e=>?_) (hfr2 b hb) (hI2.lt b hb),hk2.size⟩,⟨?_,hkt _ _ _ X.out.1.2 (by decide) (by omega)⟩,hk2.same _ _ hd rfl⟩
   ·have:=hfr2 b hb
    omega
   ·simpa [sF] using hl2
  case stop=>
   rintro D2 c pre W2 _ _ h _
   exact h.elim
  case done=>
   rintro D2 fs' W2 hD2 rfl ⟨hL2,hd⟩ hK2
   have hDW2:D<W2.heap.size:=(Array.getElem?_eq_some_iff.1 hd).1
   have hDW3:D2<W2.heap.size:=(Array.getElem?_eq_some_iff.1 hK2).1
   have hR4:=HR.out.held hL2.1.2.1
   have HP:=pfx_any hR4.tab (by omega)
   have HE2:=Lib.hid (And.intro hE2 (And.intro hI2.srt hI2.mem))
   have hkl2:=hI2.count
   have hcn3:=hS3.counts
   clear hI2 hfr2 hB2 hL4 hD4 hE2 hL hK hR2 hR3 hS3 hb3 hb34
   gi_wp2
   refine ⟨trivial,(callsIn_any HP).mono ?_⟩
   rintro e w5 ⟨B,gx,capx,ps,rfl,hPf⟩
   clear HP
   gi_wp2
   have hb5:=hPf.below
   have hsz5:=hb5.size
   have hlenP:ps.length≤100000:=by have:=hPf.len; omega
   have hlenS:(es'.map sO++fs'.map sF).length≤200000:=by have h0:(fs'.map (sF (f:=M.sm.floor))).length=fs'.length:=(by simp); rw [List.length_append]; omega
   have hL5:Ls2 w w.heap.size w.heap.size (w.heap.size+1) W2.heap.size w5.heap.size (es'.map sO++fs'.map sF++([]:List Pk).map sW) w5:=by
    have:=hL2.1.rebase hb5 h1w
    exact ⟨by simpa using this,hL2.2.held hb5⟩
   have hd5:w5.heap[D]?=some (.deferred (some [])):=(hb5.block D hDW2).trans hd
   have hK5:w5.heap[D2]?=some (.deferred (some [])):=(hb5.block D2 hDW3).trans hK2
   have hBl:∀ b,b∈[B,gx]→b<w5.heap.size:=fun b hb=>by
    simp at hb
    rcases hb with rfl|rfl
    ·exact hPf.box.lt
    ·exact hPf.gl
   have hBf:∀ b,b∈[B,gx]→W2.heap.size≤b:=fun b hb=>by
    simp at hb
    rcases hb with rfl|rfl
    ·exact hPf.B0
    ·exact hPf.g0
   refine loop_all (α:=Pk) rfl enter_pfx1 (pfx_drives hPf.box hPf.row hPf.gl hlenP) (fun _=>rfl) KeepS.trans (fun W l o o' hl h hc hw=>keepS_put hBl W l o o' hl h hc hw)
    (fun pre W9=>Ls2 w w.heap.size w.heap.size (w.heap.size+1) W2.heap.size w5.heap.size (es'.map sO++fs'.map sF++pre.map sW) W9∧W9.heap[D]?=some (.deferred (some []))∧W9.heap[D2]?=some (.deferred (some [])))
    (OwnFrom.and (ls2_own (B':=w5.heap.size) _ h1w (by omega)) (OwnFrom.and (fun _ _ _ _ h hg hr=>grown_block hg hr (by omega) h) (fun _ _ _ _ h hg hr=>grown_block hg hr (by omega) h))) ⟨hL5,hd5,hK5⟩
    (fun x a' W8=>∃ Bp,Blk 33 W8 Bp #[.int .u32 x.a,.int .i64 x.n]∧a'={ tmps:=#[.pointer (some ⟨R,0,none⟩),undef,.slice none 0 0,.pointer (some ⟨w.heap.size,0,none⟩),.pointer (some ⟨w.heap.size+1,0,none⟩),undef,undef,.pointer (some ⟨Bp,0,none⟩),.func (.func 114) #[] #[.pointer (some ⟨w.heap.size,0,none⟩)],.pointer (some ⟨R,0,none⟩),.pointer (some ⟨R,0,none⟩),.func (.func 147) #[] #[.pointer (some ⟨B3,0,none⟩)],undef,undef,undef,undef,undef,.pointer (some ⟨R,0,none⟩),.pointer (some ⟨R,0,none⟩),.func (.func 193) #[] #[.pointer (some ⟨C1,0,none⟩),.pointer (some ⟨C2,0,none⟩)],undef,undef,undef,undef,undef,undef,.pointer (some ⟨R,0,none⟩),.pointer (some ⟨R,0,none⟩),.pointer (some ⟨R,10,none⟩),.func (.func 152) #[] #[.pointer (some ⟨B,0,none⟩)],.agg #[.int .u32 x.a,.int .i64 x.n],undef,undef,undef,undef,undef,undef,undef,undef,undef],defers:=[] })
    ?_ ?assign ?body ?done
   ·rintro x a' s W1 W3 row ⟨Bp,hp,rfl⟩ hg hr
    exact ⟨Bp,hp.grown hg hr,rfl⟩
   case assign=>
    rintro l pre ⟨xa,xn⟩ W1 K ⟨hL,hd,hk⟩ hK
    have hb:=below_new W1 (.cells #[.int .u32 xa,.int .i64 xn] 33)
    have hl:=hL.1.2.2
    have hdl:D<W1.heap.size:=(Array.getElem?_eq_some_iff.1 hd).1
    have hdl2:D2<W1.heap.size:=(Array.getElem?_eq_some_iff.1 hk).1
    simp only [arW]
    gi_wp2
    exact hK _ _ (keepsFrom_below _ hb) (.of_below (fun b hb'=>Nat.lt_of_lt_of_le (hBl b hb') hl) hb) ⟨hL.alloc h1w _,(hb.block D hdl).trans hd,(hb.block D2 hdl2).trans hk⟩ ⟨_,Blk.new _ _ _,rfl⟩
   case body=>
    rintro l pre ⟨xa,xn⟩ a' W1 ⟨⟨⟨⟨v,hv,hrow,hnil,ho⟩,hBl1,hF⟩,hAn⟩,hd,hk⟩ ⟨Bp,hp,rfl⟩ hlt
    have cB:=hv.cell
    have p0:=hp.at_ 0
    have p1:=hp.at_ 1
    have hle:=hBl1.size
    obtain ⟨i0,hi,hz0,hz1,hz2⟩:=info_parts infoSj
    have hrl:(es'.map sO++fs'.map sF++pre.map sW).length≤300000:=by
     rw [List.length_append]
     have:(pre.map sW).length=pre.length:=by simp
     omega
    generalize hRR:es'.map sO++fs'.map sF++pre.map sW=RR at*
    gi_wp2_with (first
     |(gi_at_builtin; go_loud (refine wpListIn_append_own_at _ rfl _ _ 168 rfl w.heap.size 171 i0 _ 3 24 Tryz.underlying168 hi hz0 hz1 hz2 rfl (by decide) _ _ _ rfl (hrow.alloc _) ⟨W1.heap.size,0,none⟩ 1 1 (ecl (sW ⟨xa,xn⟩)) rfl rfl (fun j u hj=>(new_at _ _ _ j).trans (by rw [← hj]; simp [ecl,sW])) (by simp [Value.oneCell',ecl,sW]) (by unfold maxLen; omega) (by omega) (by simp; omega) ?_)
       intro v' w3 hown' hgrow _ hat
       obtain ⟨g',cap',rfl⟩:=ownsRow_succ hown'
       obtain ⟨hv1,hl2,hk2,hb2,hoth⟩:=Lsj.push h1w (Nat.le_refl _) hv hrow ho hBl1 hF hown' hgrow hat
       have hc1:=hv1.cell
       have hf1:=hv1.frozen)
     |gi_in)
    have hAl:=hAn.lt
    refine ⟨hk2.from _,⟨fun b hb=>hoth b (Nat.lt_of_lt_of_le (hBl b hb) hF) (fun e=>?_) (fun e=>?_),hk2.size⟩,⟨?_,?_⟩,hk2.same _ _ hd rfl,hk2.same _ _ hk rfl⟩
    ·have:=hBf b hb
     have:=hL2.1.2.1.size
     have:=hL2.2.lt
     omega
    ·have h5:=hBf b hb
     have h6:=hBl b hb
     rcases ho b e.symm with h|h<;>omega
    ·have h3:=hl2
     generalize w3.setCell ⟨w.heap.size,0,none⟩ (.slice (some ⟨g',0,none⟩) (RR.length+1) cap')=V7 at h3 ⊢
     rw [← hRR] at h3
     simpa [sW] using h3
    ·exact (hoth _ hAl (by omega) (row_otherE hrow hAn (by decide))).trans hAn
   case done=>
    rintro D3 ps' W3 hD3 rfl ⟨hL3,hd3,hk3⟩ hK3
    obtain ⟨⟨⟨v,hv,hrow,hnil,ho⟩,hBl3,hF3⟩,hAn⟩:=hL3
    have cB:=hv.cell
    have hle:es'.length=xs.length:=by have h:=HE.out.1; rw [← show es'.map (·.key)=xs from h]; simp
    have hlf:fs'.length=ys.length:=by have h:=HE2.out.1; rw [← show fs'.map (·.key)=ys from h]; simp
    have hlp:=hPf.len
    have hlen:(es'.map sO++fs'.map sF++ps'.map sW).length<20:=by
     rw [List.length_append,List.length_append,List.length_map,List.length_map,List.length_map]
     omega
    have hmem:=hPf.mem
    have hSo:=sj_sort hrow hnil hlen
    have oD:=own_no_def hrow hd3
    have oD2:=own_no_def hrow hk3
    have oD3:=own_no_def hrow hK3
    have oB:v.ownBlock≠some w.heap.size:=fun e=>row_otherE hrow (show Blk 168 W3 w.heap.size #[v] from hv) (by decide) e.symm
    have hge:∀ b,v.ownBlock=some b→w.heap.size≤b:=fun b e=>(hrow.lt b e).1
    have hDl:D<W3.heap.size:=(Array.getElem?_eq_some_iff.1 hd3).1
    have hDl2:D2<W3.heap.size:=(Array.getElem?_eq_some_iff.1 hk3).1
    have hDl3:D3<W3.heap.size:=(Array.getElem?_eq_some_iff.1 hK3).1
    have n12:D≠D2:=by omega
    have n13:D≠D3:=by omega
    have n23:D2≠D3:=by omega
    have hs1:=hL2.1.2.1.size
    gi_wp2
    refine ⟨trivial,(callsIn_any hSo).mono ?_⟩
    rintro e W4 ⟨rfl,ds,hso,hat,hT4⟩
    have hno:∀ {X:Nat},v.ownBlock≠some X→X∉v.ownBlock.toList:=fun {X} h hm=>h (by simpa using hm)
    have cB4:W4.cell? ⟨w.heap.size,0,none⟩=some v:=hT4.cell cB (hno oB)
    have d4:=(hT4.block D hDl (hno oD)).trans hd3
    have e4:=(hT4.block D2 hDl2 (hno oD2)).trans hk3
    have k4:=(hT4.block D3 hDl3 (hno oD3)).trans hK3
    have hds:(ds.map (·.e)).length<20:=by rw [List.length_map,hso.len]; exact hlen
    have hCo:=sj_compact hat hds
    have hw4:=hT4.size
    clear hSo cB
    gi_wp2
    refine ⟨trivial,(callsIn_any hCo).mono ?_⟩
    rintro e W5 ⟨v',rfl,hat5,hT5,hown⟩
    have d5:=(hT5.block D (by omega) (hno oD)).trans d4
    have e5:=(hT5.block D2 (by omega) (hno oD2)).trans e4
    have k5:=(hT5.block D3 (by omega) (hno oD3)).trans k4
    have hB5:Below w.heap.size w W5:=(hBl3.trans (hT4.below (fun i hi=>hge i (by simpa using hi)) hBl3.size)).trans (hT5.below (fun i hi=>hge i (by simpa using hi)) (Nat.le_trans hBl3.size hw4))
    clear hCo
    gi_wp2
    have d6:((W5.putObj D3 (.deferred none)).putObj D2 (.deferred none)).heap[D]?=some (.deferred (some [])):=(World.putObj_heap_other n12).trans ((World.putObj_heap_other n13).trans d5)
    have e6:(W5.putObj D3 (.deferred none)).heap[D2]?=some (.deferred (some [])):=(World.putObj_heap_other n23).trans e5
    refine ⟨by simp,.inl ⟨_,_,rfl,run_takeDeferred k5,by simp,.inl ⟨_,_,rfl,run_takeDeferred e6,by simp,.inl ⟨_,_,rfl,run_takeDeferred d6,?_⟩⟩⟩⟩
    refine ⟨_,results_tmp rfl _ _ _,v',xs,ys,ps',es',fs',ds,rfl,HE.out,HE2.out,hmem,hso,(by rw [hso.len]; exact hlen),((hat5.put (by rw [hown]; exact oD3)).put (by rw [hown]; exact oD2)).put (by rw [hown]; exact oD),fun b e=>hge b (by rw [← hown]; exact e),?_⟩
    exact ((hB5.grown (grownBy_putObj' _ _ _) hB5.size (fun k e=>by cases e; omega)).grown (grownBy_putObj' _ _ _) (by rw [World.putObj_size]; exact hB5.size) (fun k e=>by cases e; omega)).grown (grownBy_putObj' _ _ _) (by rw [World.putObj_size,World.putObj_size]; exact hB5.size) (fun k e=>by cases e; omega)
end Go.Proofs.YthaefdlkpljojaaGreatDoor
namespace Go.Proofs.YthaefdlkpljojaaGreatDoor
open Go.RowKit Go.Maps Rm Fm Sb
def En.pk (e:En):Pk:=⟨e.a,e.n⟩
theorem sm1_pk {x y:En}:Sm1 x y↔En.pk x=En.pk y:=by
 unfold Sm1 En.pk
 constructor
 ·rintro ⟨h1,h2⟩; rw [h1,h2]
 ·intro h; simp at h; exact h
theorem keepE_sorted {f:Nat→En}:∀ {n:Nat},(∀ i j,i<j→j<n→ltP (En.pk (f i)) (En.pk (f j))∨En.pk (f i)=En.pk (f j))→
  ((keepE f n).map En.pk).Pairwise ltP∧(∀ e,e∈keepE f n→∃ i,i<n∧f i=e∧∀ j,j<i→En.pk (f j)≠En.pk e)∧∀ i,i<n→∃ e,e∈keepE f n∧En.pk e=En.pk (f i)
 |0,_=>⟨by simp [keepE],fun e he=>by simp [keepE] at he,fun i hi=>absurd hi (Nat.not_lt_zero _)⟩
 |n+1,hs=>by
  obtain ⟨h1,h2,h3⟩:=keepE_sorted (n:=n) fun i j a b=>hs i j a (by omega)
  rw [keepE_succ]
  by_cases h:n=0∨¬ Sm1 (f n) (f (n - 1))
  ·rw [if_pos h]
   have hlt:∀ i,i<n→ltP (En.pk (f i)) (En.pk (f n)):=fun i hi=>by
    have hne:¬ Sm1 (f n) (f (n - 1)):=by rcases h with h|h; omega; exact h
    rw [sm1_pk] at hne
    have hb:ltP (En.pk (f (n - 1))) (En.pk (f n)):=by
     rcases hs (n - 1) n (by omega) (by omega) with h|h
     ·exact h
     ·exact absurd h.symm hne
    by_cases c:i=n - 1
    ·subst c; exact hb
    ·rcases hs i (n - 1) (by omega) (by omega) with h|h
     ·unfold ltP at*; omega
     ·rw [h]; exact hb
   refine ⟨?_,fun e he=>?_,fun i hi=>?_⟩
   ·rw [List.map_append]
    refine List.pairwise_append.2 ⟨h1,by simp,fun a ha b hb=>?_⟩
    simp at hb
    subst hb
    obtain ⟨e,he,rfl⟩:=List.mem_map.1 ha
    obtain ⟨i,hi,rfl,-⟩:=h2 e he
    exact hlt i hi
   ·rcases List.mem_append.1 he with he|he
    ·obtain ⟨i,hi,e1,e2⟩:=h2 e he
     exact ⟨i,by omega,e1,e2⟩
    ·simp at he
     subst he
     exact ⟨n,by omega,rfl,fun j hj e=>by have:=hlt j hj; rw [e] at this; unfold ltP at this; omega⟩
   ·by_cases c:i=n
    ·subst c; exact ⟨f i,by simp,rfl⟩
    ·obtain ⟨e,he,e1⟩:=h3 i (by omega)
     exact ⟨e,by simp [he],e1⟩
  ·rw [if_neg h,List.append_nil]
   have h0:n≠0∧Sm1 (f n) (f (n - 1)):=by
    refine ⟨fun e=>h (.inl e),?_⟩
    by_cases c:Sm1 (f n) (f (n - 1))
    ·exact c
    ·exact absurd (.inr c) h
   refine ⟨h1,fun e he=>?_,fun i hi=>?_⟩
   ·obtain ⟨i,hi,e1,e2⟩:=h2 e he
    exact ⟨i,by omega,e1,e2⟩
   ·by_cases c:i=n
    ·subst c
     obtain ⟨e,he,e1⟩:=h3 (i - 1) (by omega)
     exact ⟨e,he,e1.trans (sm1_pk.1 h0.2).symm⟩
    ·exact h3 i (by omega)
theorem sorted_keep {A B:List En} {ds:List De} (hA:∀ e∈A,e.on=true) (hB:∀ e∈B,e.on=false) (h:SortOf (A++B) ds):
  ((keepE (fun i=>(ds.map (·.e))[i]!) (ds.map (·.e)).length).map En.pk).Pairwise ltP∧
  ∀ e,e∈keepE (fun i=>(ds.map (·.e))[i]!) (ds.map (·.e)).length↔(∃ x∈A,En.pk x=En.pk e)∧e.on=true∨(¬ ∃ x∈A,En.pk x=En.pk e)∧(∃ x∈B,En.pk x=En.pk e)∧e.on=false:=by
 have hat:∀ i (hi:i<ds.length),(ds.map (·.e))[i]! =ds[i].e:=fun i hi=>by simp [hi]
 have hlen:(ds.map (·.e)).length=ds.length:=by simp
 rw [hlen]
 obtain ⟨k1,k2,k3⟩:=keepE_sorted (f:=fun i=>(ds.map (·.e))[i]!) (n:=ds.length) fun i j a b=>by
  have:=h.srt i j a b
  simp only [hat i (by omega),hat j b]
  unfold Lx at this
  unfold ltP En.pk
  rcases this with h|h
  ·exact .inl (.inl h)
  ·by_cases c:ds[i].e.a=ds[j].e.a∧ds[i].e.n=ds[j].e.n
   ·right; rw [c.1,c.2]
   ·left; simp only; omega
 have hAt:∀ k (hk:k<(A++B).length),((A++B)[k].on=true↔k<A.length)∧((A++B)[k].on=false↔A.length≤k):=fun k hk=>by
  by_cases c:k<A.length
  ·rw [List.getElem_append_left c]
   have:=hA _ (List.getElem_mem c)
   simp [this,c]
  ·rw [List.getElem_append_right (by omega)]
   have:=hB _ (List.getElem_mem (l:=B) (n:=k - A.length) (by simp at hk; omega))
   simp [this]
   omega
 have fwd:∀ e,e∈keepE (fun i=>(ds.map (·.e))[i]!) ds.length→(∃ x∈A,En.pk x=En.pk e)∧e.on=true∨(¬ ∃ x∈A,En.pk x=En.pk e)∧(∃ x∈B,En.pk x=En.pk e)∧e.on=false:=by
  intro e he
  obtain ⟨i,hi,e1,e2⟩:=k2 e he
  simp only [hat i hi] at e1
  obtain ⟨hl,e3⟩:=h.at_ i hi
  rw [e1] at e3
  by_cases c:ds[i].i<A.length
  ·refine .inl ⟨⟨e,?_,rfl⟩,?_⟩
   ·rw [e3,List.getElem_append_left c]; exact List.getElem_mem c
   ·rw [e3]; exact (hAt _ hl).1.2 c
  ·refine .inr ⟨?_,⟨e,?_,rfl⟩,?_⟩
   ·rintro ⟨x,hx,ex⟩
    obtain ⟨k',hk',rfl⟩:=List.mem_iff_getElem.1 hx
    obtain ⟨p,hp,ep⟩:=h.all k' (by simp; omega)
    obtain ⟨hp1,hp2⟩:=h.at_ p hp
    have hpk:ds[p].e=A[k']:=by rw [hp2]; simp only [ep]; exact List.getElem_append_left hk'
    rcases Nat.lt_trichotomy p i with g|g|g
    ·refine e2 p g ?_
     simp only [hat p hp]
     rw [hpk,ex]
    ·subst g; omega
    ·have hx:=h.srt i p g hp
     unfold Lx at hx
     rw [hpk,e1] at hx
     unfold En.pk at ex
     simp at ex
     omega
   ·rw [e3,List.getElem_append_right (by omega)]; exact List.getElem_mem _
   ·rw [e3]; exact (hAt _ hl).2.2 (by omega)
 refine ⟨k1,fun e=>⟨fwd e,fun he=>?_⟩⟩
 have hex:∃ x∈A++B,En.pk x=En.pk e:=by
  rcases he with ⟨⟨x,hx,ex⟩,-⟩|⟨-,⟨x,hx,ex⟩,-⟩
  ·exact ⟨x,by simp [hx],ex⟩
  ·exact ⟨x,by simp [hx],ex⟩
 obtain ⟨x,hx,ex⟩:=hex
 obtain ⟨k',hk',rfl⟩:=List.mem_iff_getElem.1 hx
 obtain ⟨p,hp,ep⟩:=h.all k' hk'
 obtain ⟨hp1,hp2⟩:=h.at_ p hp
 obtain ⟨e',he',ee⟩:=k3 p hp
 simp only [hat p hp] at ee
 have hpk:ds[p].e=(A++B)[k']:=by rw [hp2]; simp only [ep]
 rw [hpk,ex] at ee
 have hon:e'.on=e.on:=by
  rcases fwd e' he' with ⟨hh,h1⟩|⟨hh,-,h1⟩<;>rw [ee] at hh<;>rcases he with ⟨g,h2⟩|⟨g,-,h2⟩
  ·rw [h1,h2]
  ·exact absurd hh g
  ·exact absurd g hh
  ·rw [h1,h2]
 have:e'=e:=by
  cases e'
  cases e
  simp only [En.pk,Pk.mk.injEq] at ee
  simp only at hon
  rw [ee.1,ee.2,hon]
 rw [← this]
 exact he'
end Go.Proofs.YthaefdlkpljojaaGreatDoor
namespace Go.Proofs.YthaefdlkpljojaaGreatDoor
open Go.RowKit Go.Maps Rm Fm Sb
attribute [local go_sem] Oper.semAt_some

end Go.Proofs.YthaefdlkpljojaaGreatDoor
namespace Go.Proofs.YthaefdlkpljojaaGreatDoor
open Go.RowKit Go.Maps Rm

end Go.Proofs.YthaefdlkpljojaaGreatDoor
namespace Go.Proofs.YthaefdlkpljojaaGreatDoor
open Go.RowKit Go.Maps Rm
attribute [local go_sem] Oper.semAt_some


end Go.Proofs.YthaefdlkpljojaaGreatDoor
namespace Go.Proofs.YthaefdlkpljojaaGreatDoor
open Go.RowKit Go.Maps Rm Fm Sb
def Mr.ans (M:Mr) (p:Pk):Prop:=(p.ok∧(M.sm.own p).isSome=true)∨∃ id,Ky.ok ⟨p.a,p.n,id⟩∧(M.sm.floor ⟨p.a,p.n,id⟩).isSome=true
def Mr.ways (M:Mr) (p:Pk):Prop:=∃ fr,Rk.ok ⟨p.a,p.n,fr⟩∧(M.f ⟨p.a,p.n,fr⟩).isSome=true
structure Subj (M:Mr) (rs:List En):Prop where
 asc:(rs.map En.pk).Pairwise ltP
 mem:∀ e,e∈rs↔M.ans (En.pk e)∧e.on=true∨¬ M.ans (En.pk e)∧M.ways (En.pk e)∧e.on=false
theorem Subj.unique {M:Mr} {rs rs':List En} (h:Subj M rs) (h':Subj M rs'):rs=rs':=by
 have nd:∀ l:List En,(l.map En.pk).Pairwise ltP→l.Pairwise fun x y=>ltP (En.pk x) (En.pk y):=fun l hl=>List.pairwise_map.1 hl
 have h1:=nd _ h.asc
 have h2:=nd _ h'.asc
 have hd:∀ l:List En,(l.Pairwise fun x y=>ltP (En.pk x) (En.pk y))→l.Nodup:=fun l hl=>hl.imp fun {a b} hab e=>by subst e; unfold ltP at hab; omega
 exact List.Perm.eq_of_pairwise (fun a b _ _ hab hba=>by unfold ltP at hab hba; omega) h1 h2 ((List.perm_ext_iff_of_nodup (hd _ h1) (hd _ h2)).2 fun e=>(h.mem e).trans (h'.mem e).symm)
theorem Subj.none {M:Mr} {rs:List En} (h:Subj M rs) (ha:∀ p,¬ M.ans p) (hw:∀ p,¬ M.ways p):rs=[]:=
 List.eq_nil_iff_forall_not_mem.2 fun e he=>((h.mem e).1 he).elim (fun x=>ha _ x.1) (fun x=>hw _ x.2.1)
theorem Subj.one {M:Mr} {rs:List En} (h:Subj M rs) {a:Nat} {len:Int} (ha:∀ p,M.ans p↔p=⟨a,len⟩) (hw:∀ p,M.ways p→p=⟨a,len⟩):rs=[⟨a,len,true⟩]:=by
 refine h.unique ⟨by simp,fun e=>?_⟩
 cases e with
 |mk ea en on=>
  simp only [List.mem_singleton,En.pk,En.mk.injEq]
  constructor
  ·rintro ⟨rfl,rfl,rfl⟩
   exact .inl ⟨(ha _).2 rfl,rfl⟩
  ·rintro (⟨h1,h2⟩|⟨h1,h2,h3⟩)
   ·have:=(ha _).1 h1
    simp at this
    exact ⟨this.1,this.2,h2⟩
   ·have:=hw _ h2
    exact absurd ((ha _).2 this) h1
theorem Subj.way {M:Mr} {rs:List En} (h:Subj M rs) {a:Nat} {len:Int} (ha:∀ p,¬ M.ans p) (hw:∀ p,M.ways p↔p=⟨a,len⟩):rs=[⟨a,len,false⟩]:=by
 refine h.unique ⟨by simp,fun e=>?_⟩
 cases e with
 |mk ea en on=>
  simp only [List.mem_singleton,En.pk,En.mk.injEq]
  constructor
  ·rintro ⟨rfl,rfl,rfl⟩
   exact .inr ⟨ha _,(hw _).2 rfl,rfl⟩
  ·rintro (⟨h1,h2⟩|⟨h1,h2,h3⟩)
   ·exact absurd h1 (ha _)
   ·have:=(hw _).1 h2
    simp at this
    exact ⟨this.1,this.2,h3⟩
theorem rr_subj {w:World} {R:Nat} {o fl tb:Option Nat} {j:Jr} {N n:Nat} {M:Mr} (h:Rr w R o fl tb j N n M) (hnn:2*N+n<20):
  Calls Tryz.prog 88 #[.pointer (some ⟨R,0,none⟩)] w fun e w'=>∃ v rs,e= .returned v∧Subj M rs∧rs.length<20∧SjAt w' v rs∧(∀ b,v.ownBlock=some b→w.heap.size≤b)∧Below w.heap.size w w':=by
 refine (rr_subjects h hnn).mono ?_
 rintro e w' ⟨v,xs,ys,ps,es,fs,ds,rfl,⟨hE,-,hx⟩,⟨hF,-,hy⟩,hp,hso,hl20,hat,hown,hb⟩
 have hA:∀ e∈es.map sO++fs.map sF,e.on=true:=fun e he=>by
  rcases List.mem_append.1 he with he|he<;>obtain ⟨x,-,rfl⟩:=List.mem_map.1 he<;>rfl
 have hB:∀ e∈ps.map sW,e.on=false:=fun e he=>by
  obtain ⟨x,-,rfl⟩:=List.mem_map.1 he
  rfl
 obtain ⟨k1,k2⟩:=sorted_keep hA hB hso
 have hans:∀ p:Pk,(∃ x∈es.map sO++fs.map sF,En.pk x=p)↔M.ans p:=fun p=>by
  constructor
  ·rintro ⟨x,hx',rfl⟩
   rcases List.mem_append.1 hx' with h1|h1
   ·obtain ⟨⟨⟨xa,xn⟩,y,hok,hfit,hhas⟩,-,rfl⟩:=List.mem_map.1 h1
    exact .inl ⟨hok,by show (M.sm.own ⟨xa,xn⟩).isSome=true; rw [hhas]; rfl⟩
   ·obtain ⟨⟨⟨xa,xn,xi⟩,y,hok,hfit,hhas⟩,-,rfl⟩:=List.mem_map.1 h1
    exact .inr ⟨xi,hok,by show (M.sm.floor ⟨xa,xn,xi⟩).isSome=true; rw [hhas]; rfl⟩
  ·rintro (h1|⟨id,h1⟩)
   ·have h2:=(hx p).2 h1
    rw [← show es.map (·.key)=xs from hE] at h2
    obtain ⟨x,h3,rfl⟩:=List.mem_map.1 h2
    exact ⟨sO x,List.mem_append_left _ (List.mem_map.2 ⟨x,h3,rfl⟩),rfl⟩
   ·have h2:=(hy ⟨p.a,p.n,id⟩).2 h1
    rw [← show fs.map (·.key)=ys from hF] at h2
    obtain ⟨x,h3,h4⟩:=List.mem_map.1 h2
    refine ⟨sF x,List.mem_append_right _ (List.mem_map.2 ⟨x,h3,rfl⟩),?_⟩
    unfold sF En.pk
    rw [h4]
 have hways:∀ p:Pk,(∃ x∈ps.map sW,En.pk x=p)↔M.ways p:=fun p=>by
  constructor
  ·rintro ⟨x,hx',rfl⟩
   obtain ⟨q,h1,rfl⟩:=List.mem_map.1 hx'
   exact (hp q).1 h1
  ·intro h1
   exact ⟨sW p,List.mem_map.2 ⟨p,(hp p).2 h1,rfl⟩,rfl⟩
 refine ⟨v,_,rfl,⟨k1,fun e=>?_⟩,Nat.lt_of_le_of_lt (keepE_len _ _) (by rw [List.length_map]; exact hl20),hat,hown,hb⟩
 rw [k2 e,hans,hways]
end Go.Proofs.YthaefdlkpljojaaGreatDoor
namespace Go.Proofs.YthaefdlkpljojaaGreatDoor
open Go.RowKit Go.Maps Rm
attribute [local go_sem] Oper.semAt_some


end Go.Proofs.YthaefdlkpljojaaGreatDoor
