import Derived.Test.YthaefdlkpljojaaGreatDoorQ32
import Derived.Test.YthaefdlkpljojaaGreatDoorQ39
import Derived.Test.YthaefdlkpljojaaGreatDoorQ40
import Derived.Deep.DeepCutAuto
import Derived.Deep.CutRange
set_option maxHeartbeats 8000000
namespace Go.Proofs.YthaefdlkpljojaaGreatDoor
open Go.RowKit Go.Maps Rm Fm Sb
attribute [local go_sem] Oper.semAt_some
theorem quiet_run {nn sec q:Nat} (hn1:1≤nn) (hn8:nn≤8) (hs1:4≤sec) (hs2:sec≤512) (hq:q≤nn) {w:World} {A:Option Addr} {n cap:Nat} (h:Sp.Sl w A n cap (Sc.script nn sec (bevs q))) (hn:n≤262144) (ht:Tab w):
  Calls Tryz.prog 10 #[.slice A n cap] w fun e w'=>∃ p n c,e= .returned (.slice p n c)∧Lns w.heap.size (.slice p n c) (List.replicate q okA++(List.range nn).map fun i=>if i<q then upL i else downL i) w'∧Below w.heap.size w w':=by
 obtain ⟨s1,s2,s3⟩:=script_heads (es:=bevs q) (show nn<256 by omega) (show sec<65536 by omega)
 have hh:Sc.headed (Sc.script nn sec (bevs q))=true:=by
  unfold Sc.headed
  rw [s1,s2,Sc.script_length]
  unfold Sc.scripted
  simp
  omega
 have HD0:=Sp.decode_good h hn hh
 rw [s1,s2] at HD0
 have HD:Calls Tryz.prog 17 #[.slice A n cap] w fun x w'=>∃ (A':Option Addr) (c':Nat),x= .returned (.tuple #[.int .i64 (nn:Nat),.int .i64 (sec:Nat),.slice A' q c',.int .i64 ((Sc.script nn sec (bevs q)).length:Nat),.int .i64 0])∧Hid (Sp.El w' A' q c' (bevs q)∧Below w.heap.size w w'):=by
  refine HD0.mono ?_
  rintro x w' ⟨v,l,k,e,rfl,hO,hE,hB⟩
  obtain ⟨rfl,rfl,rfl⟩:=hE.back (fun x hx=>by obtain ⟨i,hi,rfl⟩:=bevs_mem hx; exact bev_right (by omega)) s3 (by rw [bevs_len]; omega)
  obtain ⟨A',c',rfl,hEl⟩:=hO.el (fun x hx=>by obtain ⟨i,hi,rfl⟩:=bevs_mem hx; exact bev_good (by omega))
  rw [bevs_len] at hEl
  refine ⟨A',c',?_,Lib.hid ⟨hEl,hB⟩⟩
  rw [bevs_len]
  rfl
 have hlen:(Sc.script nn sec (bevs q)).length≤1000:=by rw [Sc.script_length,flat_bevs]; omega
 have hcut:cutL ((cameL (List.replicate q 0)++machL (qL q) nn)++errL 0 ((Sc.script nn sec (bevs q)).length:Nat))=List.replicate q okA++(List.range nn).map fun i=>if i<q then upL i else downL i:=by
  rw [cameL_rep,machL_qL]
  unfold errL cutL
  rw [if_pos rfl,List.append_nil,if_neg]
  simp
  omega
 have:=run_any (m:=q) (at_:=((Sc.script nn sec (bevs q)).length:Nat)) (ez:=0) (es:=bevs q) (pl:=cameL (List.replicate q 0)++machL (qL q) nn) (show 0<nn by omega) HD (fun w' A' c' hb hEl=>played_any hEl (by omega) hn1 hn8 hs1 hs2 (ht.held hb) (P:=qP nn sec) (q_start nn sec) (fun N d k zs st os O wx hk hP hB=>q_step hn8 hq N d k zs st os O wx hk hP hB) (zs:=List.replicate q 0) (fe:=fun _=>[]) (ls:=qL q)
  (fun z hz=>by rw [List.eq_of_mem_replicate hz]; decide) (fun d zs' st os hP=>q_end d zs' st os hP) (fun w' g T hF=>lz_find hF hn8 (fun _ _=>rfl))) ht (by decide) (by omega) (by
   rw [cameL_rep,machL_qL]
   simp
   omega)
 rw [hcut] at this
 exact this
set_option maxRecDepth 100000 in
theorem quiet_walk (a b c:Int) (w:World) (ht:Tab w):Calls Tryz.prog 5 #[.int .i64 a,.int .i64 b,.int .i64 c] w fun e w'=>e= .returned (.bool true)∧Below w.heap.size w w':=by
 obtain ⟨x,hx,m1⟩:=mask_low a 7 (by omega)
 obtain ⟨y,hy,m2⟩:=mask_low b 255 (by omega)
 obtain ⟨k,hk,m3⟩:=mask_low c 7 (by omega)
 replace m1:bits .and .i64 a 7=(x:Int):=m1
 replace m2:bits .and .i64 b 255=(y:Int):=m2
 replace m3:bits .and .i64 c 7=(k:Int):=m3
 obtain ⟨nn,hnn⟩:∃ nn:Nat,1+(x:Int)=(nn:Int):=⟨1+x,by omega⟩
 obtain ⟨sec,hsec⟩:∃ s:Nat,4+(y:Int)=(s:Int):=⟨4+y,by omega⟩
 have hn1:1≤nn:=by omega
 have hn8:nn≤8:=by omega
 have hs1:4≤sec:=by omega
 have hs2:sec≤512:=by omega
 have k1:wrap64 (1+(x:Int))=1+(x:Int):=IntWalk.wrap64_in _ (by omega)
 have k2:wrap64 (4+(y:Int))=4+(y:Int):=IntWalk.wrap64_in _ (by omega)
 have HA:=alive_any w
 have HT:=Lib.hid ht
 clear ht
 go_enter Tryz.func5,Tryz.ntmps5
 go_upto_region 6 with (go_at_call 11; refine HA.mono ?_; rintro e w1 ⟨rfl,hb1⟩)
 obtain ⟨mb,hmb,hmq,hmr⟩:∃ mb:Nat,min (k:Int) (nn:Int)=(mb:Int)∧mb≤nn∧∀ i,i<nn→(i<k↔i<mb):=⟨min k nn,by omega,by omega,fun i hi=>by omega⟩
 have K:=Lib.hid (And.intro hmr (And.intro hs1 (And.intro hs2 (next (Below.refl w.heap.size w) hb1))))
 have hk7:k≤7:=by omega
 clear m1 m2 m3 hnn hsec k1 k2 hx hy hk HA hmr hs1 hs2
 go_upto_region 8 with fail
 have S00:=QwR.start w1
 rw [size_new] at S00
 have S0:=Lib.hid S00
 clear S00
 clear hb1
 generalize (w1.alloc (.cells #[] 37)).alloc (.cells #[] 9)=w2 at*
 generalize w1.heap.size=g7 at S0 ⊢
 go_wp2_with fail
 go_loopw [7,8,9] (fun v7 v8 i wr=>∃ (q:Nat) (p7 p8:Option Addr) (c7 c8:Nat),i= .int .i64 (q:Nat)∧v7= .slice p7 q c7∧v8= .slice p8 q c8∧q≤mb∧Hid (QwR w1 (.slice p7 q c7) (.slice p8 q c8) (bevs q) (List.replicate q okA) wr)) (fun _ _ i _=>mb - (intOf i).toNat)
 case atStart=>exact ⟨0,_,_,_,_,rfl,rfl,rfl,Nat.zero_le _,S0⟩
 case round=>
  clear S0
  obtain ⟨q,p7,p8,c7,c8,rfl,rfl,rfl,hq,Y⟩:=hrel
  by_cases hlt:q<mb
  ·have hqz:(q:Int)<(mb:Int):=by omega
   obtain ⟨g',cap',W',hrun,h1⟩:=Y.out.event (bev q) (by omega)
   replace hrun:(Builtin.append_ #[23,23] 23 #[.slice p7 q c7,.slice (some ⟨_,0,none⟩) 1 1]).run Tryz.prog (World.alloc _ (.cells #[.int .i64 0,.int .i64 (q:Nat),.int .i64 0,.int .i64 0,.int .u32 0,.int .i64 0,.string ⟨#[]⟩] 37))=_:=hrun
   obtain ⟨g2,cap2,W2,hrun2,h2⟩:=h1.line okA (by omega)
   rw [← bevs_succ,← List.replicate_succ'] at h2
   have Z:=Lib.hid h2
   clear h1 h2 Y
   unfold okA at hrun2
   go_wp2_with (first|(at_builtin; refine Lib.wpList_append_run _ rfl (.tmp 32) (.tmp 35) 23 23 rfl _ _ rfl rfl _ _ hrun ?_)|(at_builtin; refine Lib.wpList_append_run _ rfl (.tmp 37) (.tmp 38) 24 24 rfl _ _ rfl rfl _ _ hrun2 ?_)|fail)
   go_roundw
   case rel=>exact ⟨q+1,_,_,_,_,by go_num,rfl,rfl,by omega,Z⟩
   case measure=>simp [intOf]; omega
  ·obtain rfl:q=mb:=by omega
   have hqz:¬ ((q:Int)<(q:Int)):=by omega
   have S1:Hid (QwR w1 (.slice p7 q c7) (.slice p8 q c8) (bevs q) (List.replicate q okA++(List.range 0).map fun i=>if i<q then upL i else downL i) wr∧q=q+0):=Lib.hid ⟨by rw [List.range_zero,List.map_nil,List.append_nil]; exact Y.out,rfl⟩
   clear Y hlt hq
   go_wp2_with fail
   go_loopw [8,10] (fun v8 i wr2=>∃ (r:Nat) (p9:Option Addr) (m9 c9:Nat),i= .int .i64 (r:Nat)∧v8= .slice p9 m9 c9∧r≤nn∧Hid (QwR w1 (.slice p7 q c7) (.slice p9 m9 c9) (bevs q) (List.replicate q okA++(List.range r).map fun i=>if i<q then upL i else downL i) wr2∧m9=q+r)) (fun _ i _=>nn - (intOf i).toNat)
   case atStart=>exact ⟨0,_,_,_,rfl,rfl,Nat.zero_le _,S1⟩
   case round=>
    clear S1
    obtain ⟨r,p9,m9,c9,rfl,rfl,hr,Y⟩:=hrel
    by_cases hlt2:r<nn
    ·have hrz:(r:Int)<(nn:Int):=by omega
     have HI:∀ W,Below w1.heap.size w1 W→Calls Tryz.prog 8 #[.int .i64 (r:Nat)] W fun e w'=>e= .returned (.string (nS r))∧Below W.heap.size W w':=fun W hb=>(Tryz.strconv_Itoa r (by omega) (by omega) W ((HT.out.held K.out.2.2.2).held hb)).mono fun _ _ ⟨he,k,os,hw⟩=>⟨he,hw ▸ grow_below W k os⟩
     have HI1:=HI _ Y.out.1.below
     have hnl:(nS r).size≤100:=by
      rw [← size_of]
      have:=nS_len r (by omega) (by omega)
      simp only [nS,List.toList_toArray]
      omega
     have hm9:m9≤1000:=by have:=Y.out.2; omega
     by_cases hrk:r<k
     ·have hrkz:(r:Int)<(k:Int):=by omega
      have E:=Lib.hid (up_word (i:=r) (by omega))
      obtain ⟨N,hN⟩:∃ N,nS r=N:=⟨_,rfl⟩
      rw [hN] at HI1 hnl E
      clear HI hN
      go_wp2_with fail
      refine HI1.mono ?_
      rintro e w5 ⟨rfl,hb5⟩
      obtain ⟨g2,cap2,W2,hrun2,h2⟩:=(Y.out.1.held hb5).line (rtsA++N++upA) hm9
      rw [E.out,List.append_assoc] at h2
      have Z:Hid (QwR w1 (.slice p7 q c7) (.slice (some ⟨g2,0,none⟩) (m9+1) cap2) (bevs q) (List.replicate q okA++(List.range (r+1)).map fun i=>if i<q then upL i else downL i) W2∧m9+1=q+(r+1)):=Lib.hid ⟨by
       rw [List.range_succ,List.map_append,List.map_singleton,if_pos ((K.out.1 r hlt2).1 hrk)]
       exact h2,by have:=Y.out.2; omega⟩
      clear HI1 h2 hb5 Y
      unfold rtsA upA at hrun2
      go_wp2_with (first|(at_builtin; refine Lib.wpList_append_run _ rfl (.tmp 48) (.tmp 53) 24 24 rfl _ _ rfl rfl _ _ hrun2 ?_)|fail)
      go_roundw
      case rel=>exact ⟨r+1,_,_,_,by go_num,rfl,by omega,Z⟩
      case measure=>simp [intOf]; omega
     ·have hrkz:¬ ((r:Int)<(k:Int)):=by omega
      have E:=Lib.hid (dn_word (i:=r) (by omega))
      obtain ⟨N,hN⟩:∃ N,nS r=N:=⟨_,rfl⟩
      rw [hN] at HI1 hnl E
      clear HI hN
      go_wp2_with fail
      refine HI1.mono ?_
      rintro e w5 ⟨rfl,hb5⟩
      obtain ⟨g2,cap2,W2,hrun2,h2⟩:=(Y.out.1.held hb5).line (rtsA++N++dnsA) hm9
      rw [E.out,List.append_assoc] at h2
      have Z:Hid (QwR w1 (.slice p7 q c7) (.slice (some ⟨g2,0,none⟩) (m9+1) cap2) (bevs q) (List.replicate q okA++(List.range (r+1)).map fun i=>if i<q then upL i else downL i) W2∧m9+1=q+(r+1)):=Lib.hid ⟨by
       rw [List.range_succ,List.map_append,List.map_singleton,if_neg (fun h=>hrk ((K.out.1 r hlt2).2 h))]
       exact h2,by have:=Y.out.2; omega⟩
      clear HI1 h2 hb5 Y
      unfold rtsA dnsA at hrun2
      go_wp2_with (first|(at_builtin; refine Lib.wpList_append_run _ rfl (.tmp 55) (.tmp 60) 24 24 rfl _ _ rfl rfl _ _ hrun2 ?_)|fail)
      go_roundw
      case rel=>exact ⟨r+1,_,_,_,by go_num,rfl,by omega,Z⟩
      case measure=>simp [intOf]; omega
    ·obtain rfl:r=nn:=by omega
     have hq8:q≤8:=by omega
     obtain ⟨A',cap',eA,hEl⟩:=Sp.Oe.el Y.out.1.ev (fun x hx=>by obtain ⟨i,hi,rfl⟩:=bevs_mem hx; exact bev_good (by omega))
     rw [bevs_len] at eA hEl
     injection eA with e1 e2 e3
     subst e1 e3
     have HE:=Sp.encode_good (nn:=r) (ss:=sec) hEl (by omega) (by
      have:=K.out.2.1
      have:=K.out.2.2.1
      unfold Sc.scripted
      simp
      omega) (bevs_all hq8) (by rw [flat_bevs]; omega)
     clear hEl e2 hlt2 hr
     go_wp2_with fail
     refine HE.mono ?_
     rintro e w6 ⟨g,cc,ql,rfl,hql,hO,hb6⟩
     have hql2:ql≤262144:=by rw [hql,Sc.script_length,flat_bevs]; omega
     have Y6:=Lib.hid (And.intro (Y.out.1.held hb6) Y.out.2)
     have HR:=quiet_run hn1 hn8 K.out.2.1 K.out.2.2.1 hmq (sl_ob hO (Sc.script_lt _ _ _)) hql2 ((HT.out.held K.out.2.2.2).held Y6.out.1.below)
     clear HE hO hb6 hql Y
     go_wp2_with fail
     refine HR.mono ?_
     rintro e w7 ⟨p10,n10,c10,rfl,hL,hb7⟩
     have hls:=Y6.out.1.ls.held hb7
     obtain ⟨px,cx,ex,-⟩:=Ol.form hL
     injection ex with ex1 ex2 ex3
     obtain ⟨py,cy,ey,-⟩:=Ol.form hls
     injection ey with ey1 ey2 ey3
     obtain rfl:n10=m9:=ex2.trans ey2.symm
     have HLs:=lines_any hL hls ey2.symm (by have:=Y6.out.2; omega)
     have Z:=Lib.hid (next K.out.2.2.2 (Y6.out.1.held hb7).below)
     clear HR hL hls hb7 ex1 ex2 ex3 ey1 ey2 ey3
     go_wp2_with fail
     refine HLs.mono ?_
     rintro e w8 ⟨rfl,hb8⟩
     have Z2:=Lib.hid (next Z.out hb8)
     clear HLs hb8
     go_wp2_with fail
     go_ret
     exact ⟨rfl,Z2.out⟩
end Go.Proofs.YthaefdlkpljojaaGreatDoor
