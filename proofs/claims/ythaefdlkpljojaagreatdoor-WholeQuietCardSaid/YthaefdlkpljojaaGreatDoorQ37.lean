import Derived.Test.YthaefdlkpljojaaGreatDoorQ25
import Derived.Test.YthaefdlkpljojaaGreatDoorQ36
set_option maxHeartbeats 8000000
set_option maxRecDepth 20000
namespace Go.Proofs.YthaefdlkpljojaaGreatDoor.Sp
open Go.RowKit Go.Maps Sc
attribute [local go_sem] Oper.semAt_some
def _root_.Go.Proofs.YthaefdlkpljojaaGreatDoor.Sc.zev:Ev:=⟨0,0,0,0,0,0,[]⟩
def _root_.Go.Proofs.YthaefdlkpljojaaGreatDoor.Sc.fst (b:List Nat):Ev:=if room b then parse b else zev
theorem fst_room {b:List Nat} (h:room b=true):Sc.fst b=parse b:=by unfold Sc.fst; rw [if_pos h]
theorem _root_.Go.Proofs.YthaefdlkpljojaaGreatDoor.Blk.ev_there {w:World} {g:Nat} {t:TypeId} {e:Ev} (h:Blk t w g (ecs e)):w.there g 0 (ecs e).size:=fun j hj=>by
 rw [Nat.zero_add]
 refine ⟨?_,h.free j⟩
 rw [h.at_ j,Array.getElem?_eq_getElem hj]
 rfl
theorem _root_.Go.Proofs.YthaefdlkpljojaaGreatDoor.Blk.ev_there7 {w:World} {g:Nat} {t:TypeId} {e:Ev} (h:Blk t w g (ecs e)):w.there g 0 7:=h.ev_there
theorem wrap64 {x:Nat} (h:x<4294967296):IntKind.i64.wrap (x:Int)=x:=by rw [IntKind.wrap_i64]; omega
theorem results_ev_tmp {fn:Func} {p u:Tmp} (h:fn.results=#[.cell p 37,.tmp u]) {tmps:Array Value} {w:World} {g:Nat} {e:Ev} {v:Value} (hp:tmps.getD p undef= .pointer (some ⟨g,0,none⟩)) (hu:tmps.getD u undef=v)
  (hb:Blk 37 w g (ecs e)):(results fn tmps).run Tryz.prog w= .ok (.tuple #[.agg (ecs e),v]) w:=by
 obtain ⟨d,h1,h2⟩:∃ d,Tryz.prog.underlying 37=some d∧d.isRow=true:=⟨_,rfl,rfl⟩
 have hi:(Tryz.prog.info? 37).map (·.size)=some (ecs e).size:=by show _=some 7; kernel_rfl
 rw [results_cell_tmp h,hp,hu]
 have hl:=run_loadVar_row (P:=Tryz.prog) w g 37 37 _ (0,0) d hb h1 (by cases d<;>first|rfl|cases h2) hi
 simp [asAddr,hl]
set_option maxRecDepth 100000 in
theorem first_short {A:Option Addr} {n cap:Nat} {bs:List Nat} {w:World} (h:Sl w A n cap bs) (hr:room bs=false):
  Calls Tryz.prog 50 #[.slice A n cap] w fun x w'=>x= .returned (.tuple #[.agg (ecs zev),.bool false])∧Below w.heap.size w w':=by
 have hl:=h.bytes.1
 have hmx:=h.bytes.2.1
 have hcap:=h.cap
 have hmx':n≤9223372036854775807:=by unfold maxLen at hmx; omega
 clear hmx
 by_cases h16:n<16
 ·have d1:decide ((n:Int)<16)=true:=decide_eq_true (by omega)
  clear h hr hl
  go_enter Tryz.func50,Tryz.ntmps50
  go_wp2_with fail
  refine bodyPost_ret (v:= .tuple #[.agg (ecs zev),.bool false]) ?_ rfl ⟨rfl,?_⟩
  ·simp [results,Tryz.results50,go_sem]
   rfl
  ·first|exact below_new _ _|exact (below_new _ _).drew
 ·have d1:decide ((n:Int)<16)=false:=decide_eq_false (by omega)
  obtain ⟨b,off,rfl⟩:=h.plain (by omega)
  have c15:w.cell? ⟨b,off+15,none⟩=some (.int .u8 (bs.getD 15 0:Nat)):=h.at_ (k:=15) (by omega)
  have hx:=h.bytes.lt 15
  have hm:n<16+bs.getD 15 0:=by
   unfold room at hr
   rw [hl,decide_eq_true (show 16≤n by omega),Bool.true_and,decide_eq_false_iff_not] at hr
   omega
  generalize bs.getD 15 0=m at*
  have d2:decide ((n:Int)<16+(m:Int))=true:=decide_eq_true (by omega)
  have c15':(w.alloc (.cells #[.int .i64 0,.int .i64 0,.int .i64 0,.int .i64 0,.int .u32 0,.int .i64 0,.string ⟨#[]⟩] 37)).cell? ⟨b,off+15,none⟩=some (.int .u8 (m:Nat)):=held (below_new _ _) c15
  have i15:¬ n≤15:=by omega
  have i16:(15:Int)<(n:Int):=by omega
  clear h hr hl hm h16 c15
  go_enter Tryz.func50,Tryz.ntmps50
  go_upto_region 1 with fail
  have B0:=Blk.new w 37 (ecs zev)
  have hb:=below_new w (.cells (ecs zev) 37)
  unfold ecs at B0 hb
  go_wp2_with fail
  refine bodyPost_ret (v:= .tuple #[.agg (ecs zev),.bool false]) ?_ rfl ⟨rfl,?_⟩
  ·simp [results,Tryz.results50,go_sem]
   rfl
  ·first|exact below_new _ _|exact (below_new _ _).drew
set_option maxRecDepth 100000 in
theorem first_long {A:Option Addr} {n cap:Nat} {bs:List Nat} {w:World} (h:Sl w A n cap bs) (hr:room bs=true):
  Calls Tryz.prog 50 #[.slice A n cap] w fun x w'=>x= .returned (.tuple #[.agg (ecs (parse bs)),.bool (right (parse bs))])∧Below w.heap.size w w':=by
 have hl:=h.bytes.1
 have hmx:=h.bytes.2.1
 have hcap:=h.cap
 have hmx':n≤9223372036854775807:=by unfold maxLen at hmx; omega
 clear hmx
 have hr':=hr
 unfold room at hr
 simp only [hl,Bool.and_eq_true,decide_eq_true_eq] at hr
 obtain ⟨h16,hm⟩:=hr
 have d1:decide ((n:Int)<16)=false:=decide_eq_false (by omega)
 obtain ⟨b,off,rfl⟩:=h.plain (by omega)
 have E:=Lib.hid (show ecs (parse bs)=#[.int .i64 (bs.getD 0 0:Nat),.int .i64 (Sc.val ((bs.drop 1).take 3):Nat),.int .i64 (Sc.val ((bs.drop 4).take 3):Nat),.int .i64 (Sc.val ((bs.drop 7).take 3):Nat),.int .u32 (Sc.val ((bs.drop 10).take 4):Nat),.int .i64 (bs.getD 14 0:Nat),.string ⟨(toU ((bs.drop 16).take (bs.getD 15 0))).toArray⟩] from rfl)
 have hfit:=(parse_fits h.bytes.2.2.1).2
 have hx0:=h.bytes.lt 0
 have hx14:=h.bytes.lt 14
 have hx15:=h.bytes.lt 15
 have l3:∀ o,Sc.val ((bs.drop o).take 3)<16777216:=fun o=>Sc.val_lt 3 _ (by simp; omega) (fun c hc=>h.bytes.2.2.1 c (List.mem_of_mem_drop (List.mem_of_mem_take hc)))
 have hv1:=l3 1
 have hv4:=l3 4
 have hv7:=l3 7
 have c0:w.cell? ⟨b,off,none⟩=some (.int .u8 (bs.getD 0 0:Nat)):=h.at_ (k:=0) (by omega)
 have c14:w.cell? ⟨b,off+14,none⟩=some (.int .u8 (bs.getD 14 0:Nat)):=h.at_ (k:=14) (by omega)
 have c15:w.cell? ⟨b,off+15,none⟩=some (.int .u8 (bs.getD 15 0:Nat)):=h.at_ (k:=15) (by omega)
 obtain ⟨A',c',hA',hbp⟩:∃ (A':Option Addr) (c':Nat),(∀ W:World,(Instr.slice 25 (.slice (some ⟨b,off,none⟩) n cap) (some (.int .i64 16)) (some (.int .i64 (16+(bs.getD 15 0:Nat):Int))) none).run Tryz.prog W= .ok (.slice A' (bs.getD 15 0) c') W)∧∀ W,Sl W (some ⟨b,off,none⟩) n cap bs→BytesAt W A' (bs.getD 15 0) ((bs.drop 16).take (bs.getD 15 0)):=by
  by_cases e:bs.getD 15 0=0
  ·refine ⟨if cap=16 then some ⟨b,off,none⟩ else some ⟨b,off+16,none⟩,cap - 16,fun W=>?_,fun W hW=>?_⟩
   ·rw [e]
    have d1:(16:Int)≤(cap:Int):=by omega
    by_cases e2:cap=16
    ·subst e2; go_simp
    ·rw [if_neg e2]; go_simp
   ·rw [e,List.take_zero]
    exact ⟨rfl,by unfold maxLen; omega,by simp,fun k hk=>by omega⟩
  ·refine ⟨some ⟨b,off+16,none⟩,cap - 16,fun W=>?_,fun W hW=>(hW.part 16 _ (by omega)).bytes⟩
   generalize bs.getD 15 0=m at*
   have d1:(16:Int)≤16+(m:Int):=by omega
   have d2:16+(m:Int)≤(cap:Int):=by omega
   have d3:¬ cap=16:=by omega
   have d4:(16+(m:Int)).toNat - 16=m:=by omega
   go_simp
   try exact d4
 have G1:=fun W (hW:Sl W (some ⟨b,off,none⟩) n cap bs)=>get_part hW 1 3 (by omega) (by omega) (cap - 1)
 have G4:=fun W (hW:Sl W (some ⟨b,off,none⟩) n cap bs)=>get_part hW 4 3 (by omega) (by omega) (cap - 4)
 have G7:=fun W (hW:Sl W (some ⟨b,off,none⟩) n cap bs)=>get_part hW 7 3 (by omega) (by omega) (cap - 7)
 have G10:=fun W (hW:Sl W (some ⟨b,off,none⟩) n cap bs)=>get_part hW 10 4 (by omega) (by omega) (cap - 10)
 have s1:∀ W:World,(Instr.slice 25 (.slice (some ⟨b,off,none⟩) n cap) (some (.int .i64 1)) (some (.int .i64 4)) none).run Tryz.prog W= .ok (.slice (some ⟨b,off+1,none⟩) 3 (cap - 1)) W:=fun W=>cut_both b off n cap 1 4 (by omega) (by omega) W rfl rfl rfl rfl rfl
 have s4:∀ W:World,(Instr.slice 25 (.slice (some ⟨b,off,none⟩) n cap) (some (.int .i64 4)) (some (.int .i64 7)) none).run Tryz.prog W= .ok (.slice (some ⟨b,off+4,none⟩) 3 (cap - 4)) W:=fun W=>cut_both b off n cap 4 7 (by omega) (by omega) W rfl rfl rfl rfl rfl
 have s7:∀ W:World,(Instr.slice 25 (.slice (some ⟨b,off,none⟩) n cap) (some (.int .i64 7)) (some (.int .i64 10)) none).run Tryz.prog W= .ok (.slice (some ⟨b,off+7,none⟩) 3 (cap - 7)) W:=fun W=>cut_both b off n cap 7 10 (by omega) (by omega) W rfl rfl rfl rfl rfl
 have s10:∀ W:World,(Instr.slice 25 (.slice (some ⟨b,off,none⟩) n cap) (some (.int .i64 10)) (some (.int .i64 14)) none).run Tryz.prog W= .ok (.slice (some ⟨b,off+10,none⟩) 4 (cap - 10)) W:=fun W=>cut_both b off n cap 10 14 (by omega) (by omega) W rfl rfl rfl rfl rfl
 generalize hPE:parse bs=PE at*
 obtain ⟨r,hr⟩:∃ r,right PE=r:=⟨_,rfl⟩
 obtain ⟨X,hX⟩:∃ X,X=ecs PE:=⟨_,rfl⟩
 rw [hr,← hX]
 have XR:=Lib.hid (And.intro hr hX)
 clear hr hX
 have hS:=h
 obtain ⟨part,hpart⟩:∃ part,part=(bs.drop 16).take (bs.getD 15 0):=⟨_,rfl⟩
 rw [← hpart] at hbp E
 generalize bs.getD 0 0=x0 at*
 generalize bs.getD 14 0=x14 at*
 generalize Sc.val ((bs.drop 1).take 3)=v1 at*
 generalize Sc.val ((bs.drop 4).take 3)=v4 at*
 generalize Sc.val ((bs.drop 7).take 3)=v7 at*
 generalize Sc.val ((bs.drop 10).take 4)=v10 at*
 generalize bs.getD 15 0=m at*
 generalize cap - 1=c1 at*
 generalize cap - 4=c4 at*
 generalize cap - 7=c7 at*
 generalize cap - 10=c10 at*
 have d2:decide ((n:Int)<16+(m:Int))=false:=decide_eq_false (by omega)
 have i0:(0:Int)<(n:Int):=by omega
 have i14:(14:Int)<(n:Int):=by omega
 have i15:(15:Int)<(n:Int):=by omega
 have B0:=Blk.new w 37 (ecs zev)
 have hb1:=below_new w (.cells (ecs zev) 37)
 have hs1:=size_new w (.cells (ecs zev) 37)
 have hS1:=hS.held hb1
 have k0:=held hb1 c0
 have k14:=held hb1 c14
 have k15:=held hb1 c15
 unfold ecs zev at B0 hb1 hs1 hS1 k0 k14 k15
 clear h hr' hl hm hcap h16 l3 c0 c14 c15 hS hpart
 obtain ⟨G,hG⟩:∃ G,G=(Hid (∀ W,Sl W (some ⟨b,off,none⟩) n cap bs→BytesAt W A' m part)):=⟨_,rfl⟩
 have HBP:=Lib.hid hbp
 clear hbp hG G
 go_enter Tryz.func50,Tryz.ntmps50
 go_upto_region 1 with fail
 generalize w.alloc _=w1 at*
 have Y:=Lib.hid (And.intro B0 (And.intro hb1 (And.intro hs1 hS1)))
 clear B0 hb1 hs1 hS1
 go_upto_region 3 with fail
 go_cut [4] from 5 (fun v u=>∃ g,v= .pointer (some ⟨g,0,none⟩)∧w.heap.size<g∧Blk 37 u g (ecs PE)∧Blk 37 u w.heap.size (ecs zev)∧Below w.heap.size w u)
 case first=>
  have q0:w1.drew.cell? ⟨b,off,none⟩=some (.int .u8 (x0:Nat)):=k0
  have q14:w1.drew.cell? ⟨b,off+14,none⟩=some (.int .u8 (x14:Nat)):=k14
  have q15:w1.drew.cell? ⟨b,off+15,none⟩=some (.int .u8 (m:Nat)):=k15
  have hSd:Sl w1.drew (some ⟨b,off,none⟩) n cap bs:=⟨Y.out.2.2.2.bytes,Y.out.2.2.2.cap,Y.out.2.2.2.plain⟩
  have hBd:=below_new w1.drew (.cells (ecs zev) 37)
  have hSa:=hSd.held hBd
  have a0:=held hBd q0
  have a14:=held hBd q14
  have a15:=held hBd q15
  unfold ecs zev at hBd hSa a0 a14 a15
  have P1:=Lib.hid (And.intro hSd hSa)
  have P2:=Lib.hid (And.intro (And.intro q0 (And.intro q14 (And.intro q15 (HBP.out _ hSd)))) (And.intro a0 (And.intro a14 (And.intro a15 (HBP.out _ hSa)))))
  have X1:=G1 _ hSd
  have X4:=G4 _ hSd
  have X7:=G7 _ hSd
  have X10:=G10 _ hSd
  have U1:=G1 _ hSa
  have U4:=G4 _ hSa
  have U7:=G7 _ hSa
  have U10:=G10 _ hSa
  have hbE:=below_new w1 (.cells #[.int .i64 (x0:Nat),.int .i64 (v1:Nat),.int .i64 (v4:Nat),.int .i64 (v7:Nat),.int .u32 (v10:Nat),.int .i64 (x14:Nat),.string ⟨(toU part).toArray⟩] 37)
  have P3:=Lib.hid (And.intro (show (w1.alloc (.cells #[.int .i64 (x0:Nat),.int .i64 (v1:Nat),.int .i64 (v4:Nat),.int .i64 (v7:Nat),.int .u32 (v10:Nat),.int .i64 (x14:Nat),.string ⟨(toU part).toArray⟩] 37)).drew.cell? ⟨b,off,none⟩=some (.int .u8 (x0:Nat)) from held hbE k0) (And.intro (show (w1.alloc (.cells #[.int .i64 (x0:Nat),.int .i64 (v1:Nat),.int .i64 (v4:Nat),.int .i64 (v7:Nat),.int .u32 (v10:Nat),.int .i64 (x14:Nat),.string ⟨(toU part).toArray⟩] 37)).drew.cell? ⟨b,off+14,none⟩=some (.int .u8 (x14:Nat)) from held hbE k14) (And.intro (show (w1.alloc (.cells #[.int .i64 (x0:Nat),.int .i64 (v1:Nat),.int .i64 (v4:Nat),.int .i64 (v7:Nat),.int .u32 (v10:Nat),.int .i64 (x14:Nat),.string ⟨(toU part).toArray⟩] 37)).drew.cell? ⟨b,off+15,none⟩=some (.int .u8 (m:Nat)) from held hbE k15) (show BytesAt (w1.alloc (.cells #[.int .i64 (x0:Nat),.int .i64 (v1:Nat),.int .i64 (v4:Nat),.int .i64 (v7:Nat),.int .u32 (v10:Nat),.int .i64 (x14:Nat),.string ⟨(toU part).toArray⟩] 37)).drew A' m part from (let t:=HBP.out _ (Y.out.2.2.2.held hbE); ⟨t.1,t.2.1,t.2.2.1,t.2.2.2⟩)))))
  have hR1:Blk 37 (w1.alloc (.cells #[.int .i64 (x0:Nat),.int .i64 (v1:Nat),.int .i64 (v4:Nat),.int .i64 (v7:Nat),.int .u32 (v10:Nat),.int .i64 (x14:Nat),.string ⟨(toU part).toArray⟩] 37)) w1.heap.size (ecs PE):=by
   have t:=Blk.new w1 37 #[.int .i64 (x0:Nat),.int .i64 (v1:Nat),.int .i64 (v4:Nat),.int .i64 (v7:Nat),.int .u32 (v10:Nat),.int .i64 (x14:Nat),.string ⟨(toU part).toArray⟩]
   rw [E.out]
   exact t
  have hR2:=Y.out.1.more (.cells #[.int .i64 (x0:Nat),.int .i64 (v1:Nat),.int .i64 (v4:Nat),.int .i64 (v7:Nat),.int .u32 (v10:Nat),.int .i64 (x14:Nat),.string ⟨(toU part).toArray⟩] 37)
  have hR3:=(next Y.out.2.1 hbE).drew
  have R:=Lib.hid (And.intro (show w.heap.size<w1.heap.size by rw [Y.out.2.2.1]; omega) (And.intro hR1.drew (And.intro hR2.drew hR3)))
  clear hbE hR1 hR2 hR3
  clear k0 k14 k15 hSd hSa hBd q0 q14 q15 a0 a14 a15 G1 G4 G7 G10 HBP
  have cv:Hid (∀ (u:World),BytesAt u A' m part→(convert 25 9 (.slice A' m c')).run Tryz.prog u= .ok (.string ⟨(toU part).toArray⟩) u):=Lib.hid (fun u hu=>conv_str hu)
  refine wp_region_held_drew (S:=fun u=>(u.cell? ⟨b,off,none⟩=some (.int .u8 (x0:Nat))∧u.cell? ⟨b,off+14,none⟩=some (.int .u8 (x14:Nat))∧u.cell? ⟨b,off+15,none⟩=some (.int .u8 (m:Nat))∧BytesAt u A' m part)) (by kernel_rfl) P2.out.1 (fun hHeld=>?_)
  refine take_list (i:=0) (v:= .slice (some ⟨b,off,none⟩) n cap) rfl (by kernel_rfl) (by kernel_rfl) (by kernel_rfl) (fun _ _ _ h=>h) (.inl ⟨rfl,?_⟩) hHeld ?_
  ·(intro w hSw; go_simp)
  go_frame
  refine take_list (i:=1) (v:= .pointer (some ⟨b,off,none⟩)) rfl (by kernel_rfl) (by kernel_rfl) (by kernel_rfl) (fun _ _ _ h=>h) (.inl ⟨rfl,?_⟩) hHeld ?_
  ·(intro w hSw; go_simp; intro e0; omega)
  go_frame
  refine take_list (i:=2) (v:= .int .u8 (x0:Nat)) rfl (by kernel_rfl) (by kernel_rfl) (by kernel_rfl) (fun _ _ _ h=>h) (.inl ⟨rfl,?_⟩) hHeld ?_
  ·(intro w hSw; go_simp)
  go_frame
  refine take_list (i:=3) (v:= .int .i64 (x0:Nat)) rfl (by kernel_rfl) (by kernel_rfl) (by kernel_rfl) (fun _ _ _ h=>h) (.inl ⟨rfl,?_⟩) hHeld ?_
  ·(intro w hSw; go_simp; try exact wrap64 (by omega))
  go_frame
  refine take_list (i:=4) (v:= .slice (some ⟨b,off,none⟩) n cap) rfl (by kernel_rfl) (by kernel_rfl) (by kernel_rfl) (fun _ _ _ h=>h) (.inl ⟨rfl,?_⟩) hHeld ?_
  ·(intro w hSw; go_simp)
  go_frame
  refine take_list (i:=5) (v:= .slice (some ⟨b,off+1,none⟩) 3 c1) rfl (by kernel_rfl) (by kernel_rfl) (by kernel_rfl) (fun _ _ _ h=>h) (.inl ⟨rfl,?_⟩) hHeld ?_
  ·(intro w hSw; go_simp)
  go_frame
  refine take_list (i:=8) (v:= .slice (some ⟨b,off,none⟩) n cap) rfl (by kernel_rfl) (by kernel_rfl) (by kernel_rfl) (fun _ _ _ h=>h) (.inl ⟨rfl,?_⟩) hHeld ?_
  ·(intro w hSw; go_simp)
  go_frame
  refine take_list (i:=9) (v:= .slice (some ⟨b,off+4,none⟩) 3 c4) rfl (by kernel_rfl) (by kernel_rfl) (by kernel_rfl) (fun _ _ _ h=>h) (.inl ⟨rfl,?_⟩) hHeld ?_
  ·(intro w hSw; go_simp)
  go_frame
  refine take_list (i:=12) (v:= .slice (some ⟨b,off,none⟩) n cap) rfl (by kernel_rfl) (by kernel_rfl) (by kernel_rfl) (fun _ _ _ h=>h) (.inl ⟨rfl,?_⟩) hHeld ?_
  ·(intro w hSw; go_simp)
  go_frame
  refine take_list (i:=13) (v:= .slice (some ⟨b,off+7,none⟩) 3 c7) rfl (by kernel_rfl) (by kernel_rfl) (by kernel_rfl) (fun _ _ _ h=>h) (.inl ⟨rfl,?_⟩) hHeld ?_
  ·(intro w hSw; go_simp)
  go_frame
  refine take_list (i:=16) (v:= .slice (some ⟨b,off,none⟩) n cap) rfl (by kernel_rfl) (by kernel_rfl) (by kernel_rfl) (fun _ _ _ h=>h) (.inl ⟨rfl,?_⟩) hHeld ?_
  ·(intro w hSw; go_simp)
  go_frame
  refine take_list (i:=17) (v:= .slice (some ⟨b,off+10,none⟩) 4 c10) rfl (by kernel_rfl) (by kernel_rfl) (by kernel_rfl) (fun _ _ _ h=>h) (.inl ⟨rfl,?_⟩) hHeld ?_
  ·(intro w hSw; go_simp)
  go_frame
  refine take_list (i:=19) (v:= .slice (some ⟨b,off,none⟩) n cap) rfl (by kernel_rfl) (by kernel_rfl) (by kernel_rfl) (fun _ _ _ h=>h) (.inl ⟨rfl,?_⟩) hHeld ?_
  ·(intro w hSw; go_simp)
  go_frame
  refine take_list (i:=20) (v:= .pointer (some ⟨b,off+14,none⟩)) rfl (by kernel_rfl) (by kernel_rfl) (by kernel_rfl) (fun _ _ _ h=>h) (.inl ⟨rfl,?_⟩) hHeld ?_
  ·(intro w hSw; go_simp)
  go_frame
  refine take_list (i:=21) (v:= .int .u8 (x14:Nat)) rfl (by kernel_rfl) (by kernel_rfl) (by kernel_rfl) (fun _ _ _ h=>h) (.inl ⟨rfl,?_⟩) hHeld ?_
  ·(intro w hSw; go_simp)
  go_frame
  refine take_list (i:=22) (v:= .int .i64 (x14:Nat)) rfl (by kernel_rfl) (by kernel_rfl) (by kernel_rfl) (fun _ _ _ h=>h) (.inl ⟨rfl,?_⟩) hHeld ?_
  ·(intro w hSw; go_simp; try exact wrap64 (by omega))
  go_frame
  refine take_list (i:=24) (v:= .slice (some ⟨b,off,none⟩) n cap) rfl (by kernel_rfl) (by kernel_rfl) (by kernel_rfl) (fun _ _ _ h=>h) (.inl ⟨rfl,?_⟩) hHeld ?_
  ·(intro w hSw; go_simp)
  go_frame
  refine take_list (i:=25) (v:= .slice (some ⟨b,off,none⟩) n cap) rfl (by kernel_rfl) (by kernel_rfl) (by kernel_rfl) (fun _ _ _ h=>h) (.inl ⟨rfl,?_⟩) hHeld ?_
  ·(intro w hSw; go_simp)
  go_frame
  refine take_list (i:=26) (v:= .pointer (some ⟨b,off+15,none⟩)) rfl (by kernel_rfl) (by kernel_rfl) (by kernel_rfl) (fun _ _ _ h=>h) (.inl ⟨rfl,?_⟩) hHeld ?_
  ·(intro w hSw; go_simp)
  go_frame
  refine take_list (i:=27) (v:= .int .u8 (m:Nat)) rfl (by kernel_rfl) (by kernel_rfl) (by kernel_rfl) (fun _ _ _ h=>h) (.inl ⟨rfl,?_⟩) hHeld ?_
  ·(intro w hSw; go_simp)
  go_frame
  refine take_list (i:=28) (v:= .int .i64 (m:Nat)) rfl (by kernel_rfl) (by kernel_rfl) (by kernel_rfl) (fun _ _ _ h=>h) (.inl ⟨rfl,?_⟩) hHeld ?_
  ·(intro w hSw; go_simp; try exact wrap64 (by omega))
  go_frame
  refine take_list (i:=29) (v:= .int .i64 (16+(m:Int))) rfl (by kernel_rfl) (by kernel_rfl) (by kernel_rfl) (fun _ _ _ h=>h) (.inl ⟨rfl,?_⟩) hHeld ?_
  ·(intro w hSw; go_simp; try exact wrap64b (by omega))
  go_frame
  refine take_list (i:=30) (v:= .slice A' m c') rfl (by kernel_rfl) (by kernel_rfl) (by kernel_rfl) (fun _ _ _ h=>h) (.inl ⟨rfl,?_⟩) hHeld ?_
  ·(intro w hSw; go_simp)
  go_frame
  refine take_list (i:=31) (v:= .string ⟨(toU part).toArray⟩) rfl (by kernel_rfl) (by kernel_rfl) (by kernel_rfl) (fun _ _ _ h=>h) (.inl ⟨rfl,?_⟩) hHeld ?_
  ·(intro w hSw; have hcv:=cv.out w hSw.2.2.2; go_simp)
  go_frame
  clear s1 s4 s7 s10 hA'
  refine ready_two (i:=6) (i':=33) rfl rfl (by kernel_rfl) (fun K hK=>?_) (fun K hK=>?_)
  ·go_simp
   refine X1.mono ?_
   rintro e u ⟨rfl,rfl⟩
   refine hK.out _ _ P2.out.1 (fun hHeld=>?_)
   clear hK K
   try go_frame
   refine take_list (i:=7) (v:= .int .i64 (v1:Nat)) rfl (by kernel_rfl) (by kernel_rfl) (by kernel_rfl) (fun _ _ _ h=>h) (.inl ⟨rfl,?_⟩) hHeld ?_
   ·(intro w hSw; go_simp; try exact wrap64 (by omega))
   go_frame
   refine ready_two (i:=10) (i':=33) rfl rfl (by kernel_rfl) (fun K hK=>?_) (fun K hK=>?_)
   ·go_simp
    refine X4.mono ?_
    rintro e u ⟨rfl,rfl⟩
    refine hK.out _ _ P2.out.1 (fun hHeld=>?_)
    clear hK K
    try go_frame
    refine take_list (i:=11) (v:= .int .i64 (v4:Nat)) rfl (by kernel_rfl) (by kernel_rfl) (by kernel_rfl) (fun _ _ _ h=>h) (.inl ⟨rfl,?_⟩) hHeld ?_
    ·(intro w hSw; go_simp; try exact wrap64 (by omega))
    go_frame
    refine ready_two (i:=14) (i':=33) rfl rfl (by kernel_rfl) (fun K hK=>?_) (fun K hK=>?_)
    ·go_simp
     refine X7.mono ?_
     rintro e u ⟨rfl,rfl⟩
     refine hK.out _ _ P2.out.1 (fun hHeld=>?_)
     clear hK K
     try go_frame
     refine take_list (i:=15) (v:= .int .i64 (v7:Nat)) rfl (by kernel_rfl) (by kernel_rfl) (by kernel_rfl) (fun _ _ _ h=>h) (.inl ⟨rfl,?_⟩) hHeld ?_
     ·(intro w hSw; go_simp; try exact wrap64 (by omega))
     go_frame
     refine ready_two (i:=18) (i':=33) rfl rfl (by kernel_rfl) (fun K hK=>?_) (fun K hK=>?_)
     ·go_simp
      refine X10.mono ?_
      rintro e u ⟨rfl,rfl⟩
      refine hK.out _ _ P2.out.1 (fun hHeld=>?_)
      clear hK K
      try go_frame
      refine take_list (i:=23) (v:= .agg #[.int .u32 (v10:Nat),.int .i64 (x14:Nat)]) rfl (by kernel_rfl) (by kernel_rfl) (by kernel_rfl) (fun _ _ _ h=>h) (.inl ⟨rfl,?_⟩) hHeld ?_
      ·(intro w hSw; go_simp)
      go_frame
      refine take_list (i:=32) (v:= .agg #[.int .i64 (x0:Nat),.int .i64 (v1:Nat),.int .i64 (v4:Nat),.int .i64 (v7:Nat),.int .u32 (v10:Nat),.int .i64 (x14:Nat),.string ⟨(toU part).toArray⟩]) rfl (by kernel_rfl) (by kernel_rfl) (by kernel_rfl) (fun _ _ _ h=>h) (.inl ⟨rfl,?_⟩) hHeld ?_
      ·(intro w hSw; go_simp)
      go_frame
      refine ready_list (i:=33) rfl (by kernel_rfl) (fun K hK=>?_)
      go_simp
      refine hK.out _ _ P2.out.2 (fun hHeld=>?_)
      clear hK K
      try go_frame
      refine ready_list (i:=34) rfl (by kernel_rfl) (fun K hK=>?_)
      go_simp
      refine hK.out _ _ P3.out (fun hHeld=>?_)
      clear hK K
      refine wpAnyH_done (by kernel_rfl) ?_ _
      try go_frame
      go_wp2_with fail
      go_meet
      case rel=>exact ⟨_,rfl,R.out.1,R.out.2.1,R.out.2.2.1,R.out.2.2.2⟩
     ·go_simp
      refine hK.out _ _ P2.out.2 (fun hHeld=>?_)
      clear hK K
      try go_frame
      refine ready_list (i:=18) rfl (by kernel_rfl) (fun K hK=>?_)
      go_simp
      refine U10.mono ?_
      rintro e u ⟨rfl,rfl⟩
      refine hK.out _ _ P2.out.2 (fun hHeld=>?_)
      clear hK K
      try go_frame
      refine take_list (i:=23) (v:= .agg #[.int .u32 (v10:Nat),.int .i64 (x14:Nat)]) rfl (by kernel_rfl) (by kernel_rfl) (by kernel_rfl) (fun _ _ _ h=>h) (.inl ⟨rfl,?_⟩) hHeld ?_
      ·(intro w hSw; go_simp)
      go_frame
      refine take_list (i:=32) (v:= .agg #[.int .i64 (x0:Nat),.int .i64 (v1:Nat),.int .i64 (v4:Nat),.int .i64 (v7:Nat),.int .u32 (v10:Nat),.int .i64 (x14:Nat),.string ⟨(toU part).toArray⟩]) rfl (by kernel_rfl) (by kernel_rfl) (by kernel_rfl) (fun _ _ _ h=>h) (.inl ⟨rfl,?_⟩) hHeld ?_
      ·(intro w hSw; go_simp)
      go_frame
      refine ready_list (i:=34) rfl (by kernel_rfl) (fun K hK=>?_)
      go_simp
      refine hK.out _ _ P3.out (fun hHeld=>?_)
      clear hK K
      refine wpAnyH_done (by kernel_rfl) ?_ _
      try go_frame
      go_wp2_with fail
      go_meet
      case rel=>exact ⟨_,rfl,R.out.1,R.out.2.1,R.out.2.2.1,R.out.2.2.2⟩
    ·go_simp
     refine hK.out _ _ P2.out.2 (fun hHeld=>?_)
     clear hK K
     try go_frame
     refine ready_list (i:=14) rfl (by kernel_rfl) (fun K hK=>?_)
     go_simp
     refine U7.mono ?_
     rintro e u ⟨rfl,rfl⟩
     refine hK.out _ _ P2.out.2 (fun hHeld=>?_)
     clear hK K
     try go_frame
     refine take_list (i:=15) (v:= .int .i64 (v7:Nat)) rfl (by kernel_rfl) (by kernel_rfl) (by kernel_rfl) (fun _ _ _ h=>h) (.inl ⟨rfl,?_⟩) hHeld ?_
     ·(intro w hSw; go_simp; try exact wrap64 (by omega))
     go_frame
     refine ready_list (i:=18) rfl (by kernel_rfl) (fun K hK=>?_)
     go_simp
     refine U10.mono ?_
     rintro e u ⟨rfl,rfl⟩
     refine hK.out _ _ P2.out.2 (fun hHeld=>?_)
     clear hK K
     try go_frame
     refine take_list (i:=23) (v:= .agg #[.int .u32 (v10:Nat),.int .i64 (x14:Nat)]) rfl (by kernel_rfl) (by kernel_rfl) (by kernel_rfl) (fun _ _ _ h=>h) (.inl ⟨rfl,?_⟩) hHeld ?_
     ·(intro w hSw; go_simp)
     go_frame
     refine take_list (i:=32) (v:= .agg #[.int .i64 (x0:Nat),.int .i64 (v1:Nat),.int .i64 (v4:Nat),.int .i64 (v7:Nat),.int .u32 (v10:Nat),.int .i64 (x14:Nat),.string ⟨(toU part).toArray⟩]) rfl (by kernel_rfl) (by kernel_rfl) (by kernel_rfl) (fun _ _ _ h=>h) (.inl ⟨rfl,?_⟩) hHeld ?_
     ·(intro w hSw; go_simp)
     go_frame
     refine ready_list (i:=34) rfl (by kernel_rfl) (fun K hK=>?_)
     go_simp
     refine hK.out _ _ P3.out (fun hHeld=>?_)
     clear hK K
     refine wpAnyH_done (by kernel_rfl) ?_ _
     try go_frame
     go_wp2_with fail
     go_meet
     case rel=>exact ⟨_,rfl,R.out.1,R.out.2.1,R.out.2.2.1,R.out.2.2.2⟩
   ·go_simp
    refine hK.out _ _ P2.out.2 (fun hHeld=>?_)
    clear hK K
    try go_frame
    refine ready_list (i:=10) rfl (by kernel_rfl) (fun K hK=>?_)
    go_simp
    refine U4.mono ?_
    rintro e u ⟨rfl,rfl⟩
    refine hK.out _ _ P2.out.2 (fun hHeld=>?_)
    clear hK K
    try go_frame
    refine take_list (i:=11) (v:= .int .i64 (v4:Nat)) rfl (by kernel_rfl) (by kernel_rfl) (by kernel_rfl) (fun _ _ _ h=>h) (.inl ⟨rfl,?_⟩) hHeld ?_
    ·(intro w hSw; go_simp; try exact wrap64 (by omega))
    go_frame
    refine ready_list (i:=14) rfl (by kernel_rfl) (fun K hK=>?_)
    go_simp
    refine U7.mono ?_
    rintro e u ⟨rfl,rfl⟩
    refine hK.out _ _ P2.out.2 (fun hHeld=>?_)
    clear hK K
    try go_frame
    refine take_list (i:=15) (v:= .int .i64 (v7:Nat)) rfl (by kernel_rfl) (by kernel_rfl) (by kernel_rfl) (fun _ _ _ h=>h) (.inl ⟨rfl,?_⟩) hHeld ?_
    ·(intro w hSw; go_simp; try exact wrap64 (by omega))
    go_frame
    refine ready_list (i:=18) rfl (by kernel_rfl) (fun K hK=>?_)
    go_simp
    refine U10.mono ?_
    rintro e u ⟨rfl,rfl⟩
    refine hK.out _ _ P2.out.2 (fun hHeld=>?_)
    clear hK K
    try go_frame
    refine take_list (i:=23) (v:= .agg #[.int .u32 (v10:Nat),.int .i64 (x14:Nat)]) rfl (by kernel_rfl) (by kernel_rfl) (by kernel_rfl) (fun _ _ _ h=>h) (.inl ⟨rfl,?_⟩) hHeld ?_
    ·(intro w hSw; go_simp)
    go_frame
    refine take_list (i:=32) (v:= .agg #[.int .i64 (x0:Nat),.int .i64 (v1:Nat),.int .i64 (v4:Nat),.int .i64 (v7:Nat),.int .u32 (v10:Nat),.int .i64 (x14:Nat),.string ⟨(toU part).toArray⟩]) rfl (by kernel_rfl) (by kernel_rfl) (by kernel_rfl) (fun _ _ _ h=>h) (.inl ⟨rfl,?_⟩) hHeld ?_
    ·(intro w hSw; go_simp)
    go_frame
    refine ready_list (i:=34) rfl (by kernel_rfl) (fun K hK=>?_)
    go_simp
    refine hK.out _ _ P3.out (fun hHeld=>?_)
    clear hK K
    refine wpAnyH_done (by kernel_rfl) ?_ _
    try go_frame
    go_wp2_with fail
    go_meet
    case rel=>exact ⟨_,rfl,R.out.1,R.out.2.1,R.out.2.2.1,R.out.2.2.2⟩
  ·go_simp
   refine hK.out _ _ P2.out.2 (fun hHeld=>?_)
   clear hK K
   try go_frame
   refine ready_list (i:=6) rfl (by kernel_rfl) (fun K hK=>?_)
   go_simp
   refine U1.mono ?_
   rintro e u ⟨rfl,rfl⟩
   refine hK.out _ _ P2.out.2 (fun hHeld=>?_)
   clear hK K
   try go_frame
   refine take_list (i:=7) (v:= .int .i64 (v1:Nat)) rfl (by kernel_rfl) (by kernel_rfl) (by kernel_rfl) (fun _ _ _ h=>h) (.inl ⟨rfl,?_⟩) hHeld ?_
   ·(intro w hSw; go_simp; try exact wrap64 (by omega))
   go_frame
   refine ready_list (i:=10) rfl (by kernel_rfl) (fun K hK=>?_)
   go_simp
   refine U4.mono ?_
   rintro e u ⟨rfl,rfl⟩
   refine hK.out _ _ P2.out.2 (fun hHeld=>?_)
   clear hK K
   try go_frame
   refine take_list (i:=11) (v:= .int .i64 (v4:Nat)) rfl (by kernel_rfl) (by kernel_rfl) (by kernel_rfl) (fun _ _ _ h=>h) (.inl ⟨rfl,?_⟩) hHeld ?_
   ·(intro w hSw; go_simp; try exact wrap64 (by omega))
   go_frame
   refine ready_list (i:=14) rfl (by kernel_rfl) (fun K hK=>?_)
   go_simp
   refine U7.mono ?_
   rintro e u ⟨rfl,rfl⟩
   refine hK.out _ _ P2.out.2 (fun hHeld=>?_)
   clear hK K
   try go_frame
   refine take_list (i:=15) (v:= .int .i64 (v7:Nat)) rfl (by kernel_rfl) (by kernel_rfl) (by kernel_rfl) (fun _ _ _ h=>h) (.inl ⟨rfl,?_⟩) hHeld ?_
   ·(intro w hSw; go_simp; try exact wrap64 (by omega))
   go_frame
   refine ready_list (i:=18) rfl (by kernel_rfl) (fun K hK=>?_)
   go_simp
   refine U10.mono ?_
   rintro e u ⟨rfl,rfl⟩
   refine hK.out _ _ P2.out.2 (fun hHeld=>?_)
   clear hK K
   try go_frame
   refine take_list (i:=23) (v:= .agg #[.int .u32 (v10:Nat),.int .i64 (x14:Nat)]) rfl (by kernel_rfl) (by kernel_rfl) (by kernel_rfl) (fun _ _ _ h=>h) (.inl ⟨rfl,?_⟩) hHeld ?_
   ·(intro w hSw; go_simp)
   go_frame
   refine take_list (i:=32) (v:= .agg #[.int .i64 (x0:Nat),.int .i64 (v1:Nat),.int .i64 (v4:Nat),.int .i64 (v7:Nat),.int .u32 (v10:Nat),.int .i64 (x14:Nat),.string ⟨(toU part).toArray⟩]) rfl (by kernel_rfl) (by kernel_rfl) (by kernel_rfl) (fun _ _ _ h=>h) (.inl ⟨rfl,?_⟩) hHeld ?_
   ·(intro w hSw; go_simp)
   go_frame
   refine ready_list (i:=34) rfl (by kernel_rfl) (fun K hK=>?_)
   go_simp
   refine hK.out _ _ P3.out (fun hHeld=>?_)
   clear hK K
   refine wpAnyH_done (by kernel_rfl) ?_ _
   try go_frame
   go_wp2_with fail
   go_meet
   case rel=>exact ⟨_,rfl,R.out.1,R.out.2.1,R.out.2.2.1,R.out.2.2.2⟩
 case rest=>
  clear Y E HBP G1 G4 G7 G10 s1 s4 s7 s10 hA' k0 k14 k15
  obtain ⟨g,rfl,hlt,hg,hz,hb⟩:=hcut
  have HR:∀ u:World,Calls Tryz.prog 44 #[.agg (ecs PE)] u fun x w'=>x= .returned (.bool r)∧Below u.heap.size u w':=fun u=>eright_eq hfit XR.out.1 u
  have HE:Hid (∀ u,Blk 37 u g (ecs PE)→u.cell? ⟨g,0,none⟩=some (.int .i64 PE.kind)∧u.cell? ⟨g,1,none⟩=some (.int .i64 PE.i)∧u.cell? ⟨g,2,none⟩=some (.int .i64 PE.k)∧u.cell? ⟨g,3,none⟩=some (.int .i64 PE.n)∧u.cell? ⟨g,4,none⟩=some (.int .u32 (PE.a:Nat))∧u.cell? ⟨g,5,none⟩=some (.int .i64 PE.len)∧u.cell? ⟨g,6,none⟩=some (.string ⟨PE.p.toArray⟩)):=Lib.hid (fun u h=>⟨h.at_ 0,h.at_ 1,h.at_ 2,h.at_ 3,h.at_ 4,h.at_ 5,h.at_ 6⟩)
  have hX2:X=#[.int .i64 PE.kind,.int .i64 PE.i,.int .i64 PE.k,.int .i64 PE.n,.int .u32 (PE.a:Nat),.int .i64 PE.len,.string ⟨PE.p.toArray⟩]:=XR.out.2
  rw [← XR.out.2,hX2] at HR
  have XH:=Lib.hid XR.out.2
  have XH2:=Lib.hid hX2
  clear hX2 XR
  go_upto_region 4 with fail
  have p0:=HE.out _ hg.drew
  have Z:=Lib.hid (And.intro hlt (And.intro hg (And.intro hz hb)))
  clear hg hz hb hlt hfit hPE
  generalize PE.kind=y0 at*
  generalize PE.i=y1 at*
  generalize PE.k=y2 at*
  generalize PE.n=y3 at*
  generalize PE.a=y4 at*
  generalize PE.len=y5 at*
  generalize (⟨PE.p.toArray⟩:ByteArray)=y6 at*
  refine wp_region_held_drew (S:=fun u=>(u.cell? ⟨g,0,none⟩=some (.int .i64 y0)∧u.cell? ⟨g,1,none⟩=some (.int .i64 y1)∧u.cell? ⟨g,2,none⟩=some (.int .i64 y2)∧u.cell? ⟨g,3,none⟩=some (.int .i64 y3)∧u.cell? ⟨g,4,none⟩=some (.int .u32 (y4:Nat))∧u.cell? ⟨g,5,none⟩=some (.int .i64 y5)∧u.cell? ⟨g,6,none⟩=some (.string y6))) (by kernel_rfl) p0 (fun hHeld=>?_)
  refine take_list (i:=0) (v:= .agg #[.int .i64 y0,.int .i64 y1,.int .i64 y2,.int .i64 y3,.int .u32 (y4:Nat),.int .i64 y5,.string y6]) rfl (by kernel_rfl) (by kernel_rfl) (by kernel_rfl) (fun _ _ _ h=>h) (.inl ⟨rfl,?_⟩) hHeld ?_
  ·(intro w hSw; go_simp)
  go_frame
  refine take_list (i:=1) (v:= .agg #[.int .i64 y0,.int .i64 y1,.int .i64 y2,.int .i64 y3,.int .u32 (y4:Nat),.int .i64 y5,.string y6]) rfl (by kernel_rfl) (by kernel_rfl) (by kernel_rfl) (fun _ _ _ h=>h) (.inl ⟨rfl,?_⟩) hHeld ?_
  ·(intro w hSw; go_simp)
  go_frame
  refine ready_list (i:=2) rfl (by kernel_rfl) (fun K hK=>?_)
  go_simp
  refine (HR _).mono ?_
  rintro e w5 ⟨rfl,hb5⟩
  have hg5:=(show Blk 37 wc.drew g _ from Z.out.2.1.drew).held hb5
  have hz5:=(show Blk 37 wc.drew w.heap.size _ from Z.out.2.2.1.drew).held hb5
  have hbb:=next Z.out.2.2.2.drew hb5
  refine hK.out _ _ (HE.out _ hg5) (fun hHeld=>?_)
  clear hK K p0
  try go_frame
  refine ready_list (i:=3) rfl (by kernel_rfl) (fun K hK=>?_)
  rw [if_pos (by rfl)]
  refine wp_store_mid _ _ _ rfl _ _ #[.int .i64 y0,.int .i64 y1,.int .i64 y2,.int .i64 y3,.int .u32 (y4:Nat),.int .i64 y5,.string y6] rfl rfl hz5.ev_there7 (by show _=some 7; kernel_rfl) (by simp [Value.oneCell']) ?_
  have hT6:Turn [w.heap.size] w5 (w5.setCells w.heap.size 0 [.int .i64 y0,.int .i64 y1,.int .i64 y2,.int .i64 y3,.int .u32 (y4:Nat),.int .i64 y5,.string y6]):=Turn.setCells w5 (by simp) _ _
  have hg6:=hg5.turn hT6 (by simp; have:=Z.out.1; omega)
  have hz6:Blk 37 (w5.setCells w.heap.size 0 [.int .i64 y0,.int .i64 y1,.int .i64 y2,.int .i64 y3,.int .u32 (y4:Nat),.int .i64 y5,.string y6]) w.heap.size X:=by
   have:=hz5.setCells [.int .i64 y0,.int .i64 y1,.int .i64 y2,.int .i64 y3,.int .u32 (y4:Nat),.int .i64 y5,.string y6] 0
   rw [XH2.out]
   exact this
  have hb6:=hbb.trans (hT6.below (B:=w.heap.size) (by simp) hbb.size)
  have p6:=HE.out _ hg6
  refine hK.out _ _ p6 (fun hHeld=>?_)
  clear hK K
  try go_frame
  have F:=Lib.hid (And.intro hz6 hb6)
  clear hg5 hz5 hbb hT6 hg6 hz6 hb6 HR HE hb5
  refine ready_list (i:=4) rfl (by kernel_rfl) (fun K hK=>?_)
  go_simp
  refine hK.out _ _ p6 (fun hHeld=>?_)
  clear hK K hHeld p6
  refine wpAnyH_done (by kernel_rfl) ?_ _
  try go_frame
  go_wp2_with fail
  refine bodyPost_ret (v:= .tuple #[.agg X,.bool r]) ?_ rfl ⟨rfl,F.out.2⟩
  rw [XH.out]
  exact results_ev_tmp rfl rfl rfl (by rw [← XH.out]; exact F.out.1)
theorem first_any {A:Option Addr} {n cap:Nat} {bs:List Nat} {w:World} (h:Sl w A n cap bs):
  Calls Tryz.prog 50 #[.slice A n cap] w fun x w'=>x= .returned (.tuple #[.agg (ecs (Sc.fst bs)),.bool (first bs)])∧Below w.heap.size w w':=by
 unfold Sc.fst first
 cases hr:room bs
 ·exact first_short h hr
 ·exact first_long h hr
end Go.Proofs.YthaefdlkpljojaaGreatDoor.Sp
set_option maxRecDepth 20000
namespace Go.Proofs.YthaefdlkpljojaaGreatDoor.Sp
open Go.RowKit Go.Maps Sc
structure EvR (w:World) (bs:List Nat) (n:Nat) (v:Value) (l:List Ev) (k:Nat) (W:World):Prop where
 own:Oe w.heap.size v l W
 below:Below w.heap.size w W
 right:∀ x∈l,Sc.right x=true∧x.a<4294967296
 few:l.length≤8192
 at_:k=3+(flat l).length
 le:k≤n
 parts:bs.drop 3=flat l++bs.drop k
theorem EvR.evs {w:World} {bs:List Nat} {n:Nat} {v:Value} {l:List Ev} {k:Nat} {W:World} (R:EvR w bs n v l k W) (hl:bs.length=n) {e:Nat} (h:(e=0∧k=bs.length)∨(e=6∧k<bs.length∧first (bs.drop k)=false)∨(e=7∧k<bs.length∧l.length=8192∧first (bs.drop k)=true)):Evs bs l k e:=
 ⟨R.right,R.few,R.at_,by rw [hl]; exact R.le,R.parts,h⟩
theorem EvR.next {w:World} {bs:List Nat} {n:Nat} {v v':Value} {l:List Ev} {k:Nat} {W W':World} (R:EvR w bs n v l k W) (hl:bs.length=n) (hb:∀ c∈bs,c<256) (hk:k<n) (hf:first (bs.drop k)=true) (hfew:l.length<8192)
  (ho:Oe w.heap.size v' (l++[parse (bs.drop k)]) W') (hbe:Below w.heap.size w W'):EvR w bs n v' (l++[parse (bs.drop k)]) (k+(16+(parse (bs.drop k)).p.length)) W':=by
 unfold first at hf
 rw [Bool.and_eq_true] at hf
 obtain ⟨hr,hright⟩:=hf
 have hbd:∀ c∈bs.drop k,c<256:=fun c hc=>hb c (List.mem_of_mem_drop hc)
 have hp:=parse_p hr
 have hpb:=parse_bytes hbd hr
 have hroom:=hr
 unfold room at hroom
 simp only [Bool.and_eq_true,decide_eq_true_eq,List.length_drop] at hroom
 have hfl:(flat (l++[parse (bs.drop k)])).length=(flat l).length+(16+(parse (bs.drop k)).p.length):=by rw [flat_snoc,List.length_append,ebytes_length]
 refine ⟨ho,hbe,fun x hx=>?_,by simp; omega,by rw [hfl,R.at_]; omega,by rw [hp]; omega,?_⟩
 ·rcases List.mem_append.1 hx with h|h
  ·exact R.right x h
  ·rw [List.mem_singleton] at h
   subst h
   exact ⟨hright,(parse_fits hbd).2⟩
 ·rw [R.parts,flat_snoc,List.append_assoc]
  congr 1
  rw [List.drop_drop] at hpb
  exact hpb
set_option maxRecDepth 100000 in
theorem events_any {A:Option Addr} {n cap:Nat} {bs:List Nat} {w:World} (h:Sl w A n cap bs) (h3:3≤n) (hn:n≤262144):
  Calls Tryz.prog 32 #[.slice A n cap] w fun x w'=>∃ v l k e,x= .returned (.tuple #[v,.int .i64 (k:Nat),.int .i64 (e:Nat)])∧Oe w.heap.size v l w'∧Evs bs l k e∧Below w.heap.size w w':=by
 have hl:=h.bytes.1
 have hcap:=h.cap
 have hb:=h.bytes.2.2.1
 obtain ⟨b,off,rfl⟩:=h.plain (by omega)
 have H:=Lib.hid (And.intro h (And.intro hl hb))
 clear h hl hb
 go_enter Tryz.func32,Tryz.ntmps32
 go_wp2_with fail
 go_loopw [5,6] (fun v a wr=>∃ (l:List Ev) (k q c:Nat) (p:Option Addr),v= .slice p q c∧Hid (q=l.length)∧a= .int .i64 (k:Nat)∧k≤n∧Hid (EvR w bs n (.slice p q c) l k wr)) (fun _ a _=>n - (intOf a).toNat)
 case atStart=>exact ⟨[],3,0,0,none,rfl,Lib.hid rfl,rfl,h3,Lib.hid ⟨Ol.nil _ _,.refl _ _,by simp,by simp,by simp [flat_nil],h3,by simp [flat_nil]⟩⟩
 case round=>
  obtain ⟨l,k,q,c,p,rfl,hq,rfl,hkn,R⟩:=hrel
  by_cases hlt:k<n
  ·have d1:decide ((k:Int)<(n:Int))=true:=decide_eq_true (by omega)
   have sl:∀ W:World,(Instr.slice 25 (.slice (some ⟨b,off,none⟩) n cap) (some (.int .i64 (k:Int))) none none).run Tryz.prog W= .ok (.slice (some ⟨b,off+k,none⟩) (n - k) (cap - k)) W:=fun W=>cut_low _ n cap k (by omega) hcap W rfl (by rw [if_neg (by omega)]; exact (congrArg some (Addr.add_mid ..)).symm) rfl rfl
   have HF0:=first_any ((H.out.1.held (R.out.below)).rest k (by omega))
   obtain ⟨E,hE⟩:∃ E,Sc.fst (bs.drop k)=E:=⟨_,rfl⟩
   obtain ⟨f,hf⟩:∃ f,first (bs.drop k)=f:=⟨_,rfl⟩
   rw [hE,hf] at HF0
   have HF:Calls Tryz.prog 50 #[.slice (some ⟨b,off+k,none⟩) (n - k) (cap - k)] wr fun x w'=>x= .returned (.tuple #[.agg #[.int .i64 E.kind,.int .i64 E.i,.int .i64 E.k,.int .i64 E.n,.int .u32 (E.a:Nat),.int .i64 E.len,.string ⟨E.p.toArray⟩],.bool f])∧Below wr.heap.size wr w':=HF0
   have EH:=Lib.hid (And.intro hE hf)
   clear HF0 hE hf
   obtain ⟨m,hm⟩:∃ m,m=n - k:=⟨_,rfl⟩
   obtain ⟨cm,hcm⟩:∃ cm,cm=cap - k:=⟨_,rfl⟩
   rw [← hm,← hcm] at sl HF
   clear hm hcm
   obtain ⟨s,hs⟩:∃ s:ByteArray,s=⟨E.p.toArray⟩:=⟨_,rfl⟩
   rw [← hs] at HF
   have hsz:s.size=E.p.length:=by rw [hs]; exact str_size _
   obtain ⟨L,hL⟩:∃ L,L=E.p.length:=⟨_,rfl⟩
   rw [← hL] at hsz
   obtain ⟨Q,hQ⟩:∃ Q:List Value,Q=[.int .i64 E.kind,.int .i64 E.i,.int .i64 E.k,.int .i64 E.n,.int .u32 (E.a:Nat),.int .i64 E.len,.string s]:=⟨_,rfl⟩
   have hQ2:ecl E=Q:=by rw [hQ,hs]; rfl
   have QH:=Lib.hid (And.intro hQ2 (And.intro hL hQ))
   clear hQ2 hs hL hQ
   generalize E.kind=y0 at*
   generalize E.i=y1 at*
   generalize E.k=y2 at*
   generalize E.n=y3 at*
   generalize E.a=y4 at*
   generalize E.len=y5 at*
   go_upto_region 5 with (go_at_call 50; refine HF.mono ?_; rintro e w5 ⟨rfl,hb5⟩)
   have hbx:=next hb5 (below_new w5 (.cells #[.int .i64 y0,.int .i64 y1,.int .i64 y2,.int .i64 y3,.int .u32 (y4:Nat),.int .i64 y5,.string s] 37))
   have BX:=Blk.new w5 37 #[.int .i64 y0,.int .i64 y1,.int .i64 y2,.int .i64 y3,.int .u32 (y4:Nat),.int .i64 y5,.string s]
   have hsx:=hb5.size
   generalize w5.alloc (.cells #[.int .i64 y0,.int .i64 y1,.int .i64 y2,.int .i64 y3,.int .u32 (y4:Nat),.int .i64 y5,.string s] 37)=w6 at*
   generalize w5.heap.size=bx at*
   clear sl HF hb5
   have hbw:=R.out.below.trans (hbx.mono R.out.below.size)
   have ho6:=R.out.own.held hbx
   cases f with
   |false=>
    have Z:=Lib.hid (And.intro ho6 hbw)
    clear ho6 hbw hbx BX hsx
    go_wp2_with fail
    go_ret3
    exact ⟨_,l,k,6,rfl,Z.out.1,R.out.evs H.out.2.1 (.inr (.inl ⟨rfl,by rw [H.out.2.1]; exact hlt,EH.out.2⟩)),Z.out.2⟩
   |true=>
    cases hq8:((q:Int)==8192) with
    |true=>
     have Z:=Lib.hid (And.intro ho6 hbw)
     clear ho6 hbw hbx BX hsx
     have e8:q=8192:=by have:=beq_iff_eq.1 hq8; omega
     have e8:=Lib.hid e8
     go_wp2_with fail
     go_ret3
     exact ⟨_,l,k,7,rfl,Z.out.1,R.out.evs H.out.2.1 (.inr (.inr ⟨rfl,by rw [H.out.2.1]; exact hlt,by rw [← hq.out,e8.out],EH.out.2⟩)),Z.out.2⟩
    |false=>
     have e8:q≠8192:=fun e=>by subst e; simp at hq8
     have hfew:l.length<8192:=by have:=R.out.few; have:=hq.out; omega
     obtain ⟨g',cap',w7,hrun,hO7,hT7,hat⟩:=ho6.push1 elemE hbw.size E (by omega) 23
     have hrun2:(Builtin.append_ #[23,23] 23 #[.slice p q c,.slice (some ⟨w6.heap.size,0,none⟩) 1 1]).run Tryz.prog (w6.alloc (.cells #[.int .i64 y0,.int .i64 y1,.int .i64 y2,.int .i64 y3,.int .u32 (y4:Nat),.int .i64 y5,.string s] 37))= .ok (.slice (some ⟨g',0,none⟩) (q+1) cap') w7:=by
      have t:=hrun
      rw [← hq.out,QH.out.1,QH.out.2.2] at t
      exact t
     rw [← hq.out] at hO7
     have hk:E=parse (bs.drop k):=by
      have h1:=EH.out.2
      unfold first at h1
      rw [Bool.and_eq_true] at h1
      rw [← EH.out.1,fst_room h1.1]
     have hB7:=own_below ho6 hbw hbw.size hT7
     have hob:bx∉(Value.slice p q c).ownBlock.toList:=fun hm=>by
      have h1:(Value.slice p q c).ownBlock=some bx:=by simpa using hm
      have:=(R.out.own.lt h1).1
      omega
     have BX7:=BX.turn hT7 hob
     have c6:w7.cell? ⟨bx,5+1,none⟩=some (.string s):=BX7.at_ 6
     rw [hk] at hO7
     have R7:=R.out.next H.out.2.1 H.out.2.2 hlt EH.out.2 hfew hO7 hB7
     have hL:L=(parse (bs.drop k)).p.length:=by rw [← hk]; exact QH.out.2.1
     rw [← hL] at R7
     have R7:=Lib.hid R7
     have LH:=Lib.hid (And.intro hk hq.out)
     have hle:=R7.out.le
     have x0:w6.cell? ⟨bx,0,none⟩=some (.int .i64 y0):=BX.at_ 0
     have x1:w6.cell? ⟨bx,1,none⟩=some (.int .i64 y1):=BX.at_ 1
     have x2:w6.cell? ⟨bx,2,none⟩=some (.int .i64 y2):=BX.at_ 2
     have x3:w6.cell? ⟨bx,3,none⟩=some (.int .i64 y3):=BX.at_ 3
     have x4:w6.cell? ⟨bx,4,none⟩=some (.int .u32 (y4:Nat)):=BX.at_ 4
     have x5:w6.cell? ⟨bx,5,none⟩=some (.int .i64 y5):=BX.at_ 5
     have x6:w6.cell? ⟨bx,6,none⟩=some (.string s):=BX.at_ 6
     clear hrun hO7 hT7 hat hk hB7 hob BX7 hL hbx BX hsx hbw ho6 QH EH R hq e8 hfew
     go_wp2_with (first|(at_builtin; refine Lib.wpList_append_run _ rfl (.tmp 29) (.tmp 31) 23 23 rfl _ _ rfl rfl _ _ hrun2 ?_)|fail)
     go_roundw
     case rel=>exact ⟨_,k+(16+L),q+1,cap',some ⟨g',0,none⟩,rfl,Lib.hid (by simp [LH.out.2]),by go_num,hle,R7⟩
     case measure=>simp [intOf]; omega
  ·obtain rfl:k=n:=by omega
   have d1:decide ((k:Int)<(k:Int))=false:=decide_eq_false (by omega)
   go_wp2_with fail
   go_ret3
   exact ⟨_,l,k,0,rfl,R.out.own,R.out.evs H.out.2.1 (.inl ⟨rfl,H.out.2.1.symm⟩),R.out.below⟩
end Go.Proofs.YthaefdlkpljojaaGreatDoor.Sp
