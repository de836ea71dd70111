import Derived.Test.YtbepbkidkjblgaaGreatB22
import Derived.Test.YtbepbkidkjblgaaGreatB23
import Derived.Deep.DeepCutAuto
import Derived.Lib.AppendZeros
set_option maxHeartbeats 8000000
set_option maxRecDepth 100000
namespace Go.Proofs.YtbepbkidkjblgaaGreat.Sp
open _root_.Go.Proofs.Tryz (prog)
section
open Go.RowKit Go.Maps Sc
theorem by7 (e:Ev) (ha:e.a<4294967296) (w:World):
  Calls prog 18 #[.agg (ecs e)] w fun x w'=>x= .returned (.bool (right e))/\Below w.heap.size w w':=by
 have hs:(⟨e.p.toArray⟩:ByteArray).size=e.p.length:=ba0 e.p;have e7:decide (((⟨e.p.toArray⟩:ByteArray).size:Int)<=240)=decide (e.p.length<=240):=by rw [hs,decide_eq_decide]; omega
 have e8:((((⟨e.p.toArray⟩:ByteArray).size:Int) % 6)==0)=decide (e.p.length % 6=0):=by rw [hs,Bool.eq_iff_iff,beq_iff_eq,decide_eq_true_eq]; omega
 unfold right
 cases h0:decide (0<=e.kind)
 ·exact ce8 e _ rfl (.inl h0) w
 cases h1:decide (e.kind<=10)
 ·exact ce8 e _ rfl (.inr ⟨h0,h1⟩) w
 cases h2:bare e
 ·exact da7 e _ rfl h0 h1 h2 w
 cases h3:small e.i
 ·exact bl1 e _ rfl h0 h1 h2 (.inl h3) w
 cases h4:small e.k
 ·exact bl1 e _ rfl h0 h1 h2 (.inr ⟨h3,.inl h4⟩) w
 cases h5:small e.n
 ·exact bl1 e _ rfl h0 h1 h2 (.inr ⟨h3,.inr ⟨h4,h5⟩⟩) w
 cases h6:Am.right e.a e.len
 ·exact bl0 e _ rfl h0 h1 h2 h3 h4 h5 ha _ (.inl ⟨h6,rfl⟩) w
 cases h7:decide (e.p.length<=240)
 ·exact bl0 e _ rfl h0 h1 h2 h3 h4 h5 ha _ (.inr ⟨h6,.inl ⟨e7.trans h7,rfl⟩⟩) w
 ·exact bl0 e _ rfl h0 h1 h2 h3 h4 h5 ha _ (.inr ⟨h6,.inr ⟨e7.trans h7,e8⟩⟩) w
theorem eright_eq {e:Ev} {r:Bool} (ha:e.a<4294967296) (h:right e=r) (w:World):Calls prog 18 #[.agg (ecs e)] w fun x w'=>x= .returned (.bool r)/\Below w.heap.size w w':=h ▸ by7 e ha w
end
end Go.Proofs.YtbepbkidkjblgaaGreat.Sp
namespace Go.Proofs.YtbepbkidkjblgaaGreat.Sp
open _root_.Go.Proofs.Tryz (prog)
open Go.RowKit Go.Maps Sc
theorem Ob.of_blk {W:World} {B g:Nat} {bs:List Nat} (h:Blk 5 W g (cls bs)) (hB:B<=g) (hl:bs.length<=5000) {n:Nat} (hn:n=bs.length):Ob B (.slice (some ⟨g,0,none⟩) n n) bs W:=by
 subst hn;exact ⟨by rw [ae8]; simp,.inr ⟨g,bs.length,cls bs,rfl,hB,h,Nat.le_refl _,aa5 hl,by simp [cls],by rw [ae8]; simp [cls,List.take_of_length_le]⟩⟩
theorem bn5 (A:Option Addr) (n cap k:Nat) (hk:k<=n) (hcap:n<=cap) (w:World) {z:Int} (hz:z=k) {A':Option Addr} (hA:A'=if cap=k then A else A.map (·.add k)) {m c:Nat} (hm:m=n - k) (hc:c=cap - k):
  (Instr.slice 22 (.slice A n cap) (some (.int .i64 z)) none none).run prog w= .ok (.slice A' m c) w:=by
 subst hA hm hc;have d1:(k:Int)<=(n:Int):=by omega
 subst hz;by_cases e:cap=k
 ·rw [if_pos e]; subst e; go_simp
 ·rw [if_neg e]; go_simp
theorem al5 (b off n cap k l:Nat) (hk:k<l) (hl:l<=cap) (w:World) {z y:Int} (hz:z=k) (hy:y=l) {o' m c:Nat} (ho:o'=off+k) (hm:m=l - k) (hc:c=cap - k):
  (Instr.slice 22 (.slice (some ⟨b,off,none⟩) n cap) (some (.int .i64 z)) (some (.int .i64 y)) none).run prog w= .ok (.slice (some ⟨b,o',none⟩) m c) w:=by
 subst hm hc ho;have d1:(k:Int)<=(l:Int):=by omega
 have d2:(l:Int)<=(cap:Int):=by omega
 have d3:¬ cap=k:=by omega
 subst hz hy;go_simp
theorem wrap64b {m:Nat} (h:m<256):IntKind.i64.wrap (16+(m:Int))=16+m:=by rw [IntKind.wrap_i64]; omega
end Go.Proofs.YtbepbkidkjblgaaGreat.Sp
set_option maxRecDepth 20000
namespace Go.Proofs.YtbepbkidkjblgaaGreat.Sp
open _root_.Go.Proofs.Tryz (prog)
section
open Go.RowKit Go.Maps Sc
attribute [local go_sem] Oper.semAt_some
variable {w:World}{cap g n:Nat}{t:TypeId}{e:Ev}{A:Option Addr}{bs:List Nat}
def _root_.Go.Proofs.YtbepbkidkjblgaaGreat.Sc.zev:Ev:=⟨0,0,0,0,0,0,[]⟩
def _root_.Go.Proofs.YtbepbkidkjblgaaGreat.Sc.fst (b:List Nat):Ev:=if room b then parse b else zev
theorem cu5 {b:List Nat} (h:room b=true):Sc.fst b=parse b:=by unfold Sc.fst; rw [if_pos h]
theorem _root_.Go.Proofs.YtbepbkidkjblgaaGreat.Blk.ev_there (h:Blk t w g (ecs e)):w.there g 0 (ecs e).size:=fun j hj=>by
 rw [Nat.zero_add];refine ⟨?_,h.free j⟩;rw [h.at_ j,Array.getElem?_eq_getElem hj];rfl
theorem _root_.Go.Proofs.YtbepbkidkjblgaaGreat.Blk.ev_there7 (h:Blk t w g (ecs e)):w.there g 0 7:=h.ev_there
theorem wrap64 {x:Nat} (h:x<4294967296):IntKind.i64.wrap (x:Int)=x:=by rw [IntKind.wrap_i64]; omega
theorem ax4 {fn:Func} {p u:Tmp} (h:fn.results=#[.cell p 44,.tmp u]) {tmps:Array Value} {w:World} {g:Nat} {e:Ev} {v:Value} (hp:tmps.getD p undef= .pointer (some ⟨g,0,none⟩)) (hu:tmps.getD u undef=v)
  (hb:Blk 44 w g (ecs e)):(results fn tmps).run prog w= .ok (.tuple #[.agg (ecs e),v]) w:=by
 obtain ⟨d,h1,h2⟩:∃ d,prog.underlying 44=some d/\d.isRow=true:=⟨_,rfl,rfl⟩;have hi:(prog.info? 44).map (·.size)=some (ecs e).size:=by show _=some 7; kernel_rfl
 rw [results_cell_tmp h,hp,hu];have hl:=run_loadVar_row (P:=prog) w g 44 44 _ (0,0) d hb h1 (by cases d<;>first|rfl|cases h2) hi;simp [asAddr,hl]
theorem bn1 (h:Sl w A n cap bs) (hr:room bs=false):
  Calls prog 31 #[.slice A n cap] w fun x w'=>x= .returned (.tuple #[.agg (ecs zev),.bool false])/\Below w.heap.size w w':=by
 have hl:=h.bytes.1;have hmx:=h.bytes.2.1;have hcap:=h.cap;have hmx':n<=9223372036854775807:=by unfold maxLen at hmx; omega
 clear hmx;by_cases h16:n<16
 ·have d1:decide ((n:Int)<16)=true:=decide_eq_true (by omega)
  clear h hr hl;go_enter Tryz.func31,Tryz.ntmps31;go_wp2_with fail;refine bodyPost_ret (v:= .tuple #[.agg (ecs zev),.bool false]) ?_ rfl ⟨rfl,?_⟩
  ·simp [results,Tryz.results31,go_sem]
   rfl
  ·first|exact aa0 _ _|exact (aa0 _ _).drew
 ·have d1:decide ((n:Int)<16)=false:=decide_eq_false (by omega)
  obtain ⟨b,off,rfl⟩:=h.plain (by omega);have c15:w.cell? ⟨b,off+15,none⟩=some (.int .u8 (bs.getD 15 0:Nat)):=h.at_ (k:=15) (by omega);have hx:=h.bytes.lt 15;have hm:n<16+bs.getD 15 0:=by
   unfold room at hr;rw [hl,decide_eq_true (show 16<=n by omega),Bool.true_and,decide_eq_false_iff_not] at hr;omega
  generalize bs.getD 15 0=m at*;have d2:decide ((n:Int)<16+(m:Int))=true:=decide_eq_true (by omega);have c15':(w.alloc (.cells #[.int .i64 0,.int .i64 0,.int .i64 0,.int .i64 0,.int .u32 0,.int .i64 0,.string ⟨#[]⟩] 44)).cell? ⟨b,off+15,none⟩=some (.int .u8 (m:Nat)):=held (aa0 _ _) c15;have i15:¬ n<=15:=by omega
  have i16:(15:Int)<(n:Int):=by omega
  clear h hr hl hm h16 c15;go_enter Tryz.func31,Tryz.ntmps31;go_upto_region 1 with fail;have B0:=Blk.new w 44 (ecs zev);have hb:=aa0 w (.cells (ecs zev) 44);unfold ecs at B0 hb;go_wp2_with fail;refine bodyPost_ret (v:= .tuple #[.agg (ecs zev),.bool false]) ?_ rfl ⟨rfl,?_⟩
  ·simp [results,Tryz.results31,go_sem]
   rfl
  ·first|exact aa0 _ _|exact (aa0 _ _).drew
theorem by4 (h:Sl w A n cap bs) (hr:room bs=true):
  Calls prog 31 #[.slice A n cap] w fun x w'=>x= .returned (.tuple #[.agg (ecs (parse bs)),.bool (right (parse bs))])/\Below w.heap.size w w':=by
 have hl:=h.bytes.1;have hmx:=h.bytes.2.1;have hcap:=h.cap;have hmx':n<=9223372036854775807:=by unfold maxLen at hmx; omega
 clear hmx;have hr':=hr;unfold room at hr;simp only [hl,Bool.and_eq_true,decide_eq_true_eq] at hr;obtain ⟨h16,hm⟩:=hr;have d1:decide ((n:Int)<16)=false:=decide_eq_false (by omega);obtain ⟨b,off,rfl⟩:=h.plain (by omega);have E:=Lib.hid (show ecs (parse bs)=#[.int .i64 (bs.getD 0 0:Nat),.int .i64 (Sc.val ((bs.drop 1).take 3):Nat),.int .i64 (Sc.val ((bs.drop 4).take 3):Nat),.int .i64 (Sc.val ((bs.drop 7).take 3):Nat),.int .u32 (Sc.val ((bs.drop 10).take 4):Nat),.int .i64 (bs.getD 14 0:Nat),.string ⟨(toU ((bs.drop 16).take (bs.getD 15 0))).toArray⟩] from rfl);have hfit:=(ak5 h.bytes.2.2.1).2;have hx0:=h.bytes.lt 0;have hx14:=h.bytes.lt 14;have hx15:=h.bytes.lt 15;have l3:∀ o,Sc.val ((bs.drop o).take 3)<16777216:=fun o=>Sc.val_lt 3 _ (by simp; omega) (fun c hc=>h.bytes.2.2.1 c (List.mem_of_mem_drop (List.mem_of_mem_take hc)))
 have hv1:=l3 1;have hv4:=l3 4;have hv7:=l3 7;have c0:w.cell? ⟨b,off,none⟩=some (.int .u8 (bs.getD 0 0:Nat)):=h.at_ (k:=0) (by omega);have c14:w.cell? ⟨b,off+14,none⟩=some (.int .u8 (bs.getD 14 0:Nat)):=h.at_ (k:=14) (by omega);have c15:w.cell? ⟨b,off+15,none⟩=some (.int .u8 (bs.getD 15 0:Nat)):=h.at_ (k:=15) (by omega);obtain ⟨A',c',hA',hbp⟩:∃ (A':Option Addr) (c':Nat),(∀ W:World,(Instr.slice 22 (.slice (some ⟨b,off,none⟩) n cap) (some (.int .i64 16)) (some (.int .i64 (16+(bs.getD 15 0:Nat):Int))) none).run prog W= .ok (.slice A' (bs.getD 15 0) c') W)/\∀ W,Sl W (some ⟨b,off,none⟩) n cap bs->BytesAt W A' (bs.getD 15 0) ((bs.drop 16).take (bs.getD 15 0)):=by
  by_cases e:bs.getD 15 0=0
  ·refine ⟨if cap=16 then some ⟨b,off,none⟩ else some ⟨b,off+16,none⟩,cap - 16,fun W=>?_,fun W hW=>?_⟩
   ·rw [e]
    have d1:(16:Int)<=(cap:Int):=by omega
    by_cases e2:cap=16
    ·subst e2; go_simp
    ·rw [if_neg e2]; go_simp
   ·rw [e,List.take_zero]
    exact ⟨rfl,by unfold maxLen; omega,by simp,fun k hk=>by omega⟩
  ·refine ⟨some ⟨b,off+16,none⟩,cap - 16,fun W=>?_,fun W hW=>(hW.part 16 _ (by omega)).bytes⟩
   generalize bs.getD 15 0=m at*;have d1:(16:Int)<=16+(m:Int):=by omega
   have d2:16+(m:Int)<=(cap:Int):=by omega
   have d3:¬ cap=16:=by omega
   have d4:(16+(m:Int)).toNat - 16=m:=by omega
   go_simp;try exact d4
 have G1:=fun W (hW:Sl W (some ⟨b,off,none⟩) n cap bs)=>ae1 hW 1 3 (by omega) (by omega) (cap - 1)
 have G4:=fun W (hW:Sl W (some ⟨b,off,none⟩) n cap bs)=>ae1 hW 4 3 (by omega) (by omega) (cap - 4)
 have G7:=fun W (hW:Sl W (some ⟨b,off,none⟩) n cap bs)=>ae1 hW 7 3 (by omega) (by omega) (cap - 7)
 have G10:=fun W (hW:Sl W (some ⟨b,off,none⟩) n cap bs)=>ae1 hW 10 4 (by omega) (by omega) (cap - 10)
 have s1:∀ W:World,(Instr.slice 22 (.slice (some ⟨b,off,none⟩) n cap) (some (.int .i64 1)) (some (.int .i64 4)) none).run prog W= .ok (.slice (some ⟨b,off+1,none⟩) 3 (cap - 1)) W:=fun W=>al5 b off n cap 1 4 (by omega) (by omega) W rfl rfl rfl rfl rfl
 have s4:∀ W:World,(Instr.slice 22 (.slice (some ⟨b,off,none⟩) n cap) (some (.int .i64 4)) (some (.int .i64 7)) none).run prog W= .ok (.slice (some ⟨b,off+4,none⟩) 3 (cap - 4)) W:=fun W=>al5 b off n cap 4 7 (by omega) (by omega) W rfl rfl rfl rfl rfl
 have s7:∀ W:World,(Instr.slice 22 (.slice (some ⟨b,off,none⟩) n cap) (some (.int .i64 7)) (some (.int .i64 10)) none).run prog W= .ok (.slice (some ⟨b,off+7,none⟩) 3 (cap - 7)) W:=fun W=>al5 b off n cap 7 10 (by omega) (by omega) W rfl rfl rfl rfl rfl
 have s10:∀ W:World,(Instr.slice 22 (.slice (some ⟨b,off,none⟩) n cap) (some (.int .i64 10)) (some (.int .i64 14)) none).run prog W= .ok (.slice (some ⟨b,off+10,none⟩) 4 (cap - 10)) W:=fun W=>al5 b off n cap 10 14 (by omega) (by omega) W rfl rfl rfl rfl rfl
 generalize hPE:parse bs=PE at*;obtain ⟨r,hr⟩:∃ r,right PE=r:=⟨_,rfl⟩;obtain ⟨X,hX⟩:∃ X,X=ecs PE:=⟨_,rfl⟩;rw [hr,<- hX];have XR:=H2 hr hX;clear hr hX;have hS:=h;obtain ⟨part,hpart⟩:∃ part,part=(bs.drop 16).take (bs.getD 15 0):=⟨_,rfl⟩;rw [<- hpart] at hbp E;generalize bs.getD 0 0=x0 at*;generalize bs.getD 14 0=x14 at*;generalize Sc.val ((bs.drop 1).take 3)=v1 at*;generalize Sc.val ((bs.drop 4).take 3)=v4 at*;generalize Sc.val ((bs.drop 7).take 3)=v7 at*;generalize Sc.val ((bs.drop 10).take 4)=v10 at*;generalize bs.getD 15 0=m at*;generalize cap - 1=c1 at*;generalize cap - 4=c4 at*;generalize cap - 7=c7 at*;generalize cap - 10=c10 at*;have d2:decide ((n:Int)<16+(m:Int))=false:=decide_eq_false (by omega);have i0:(0:Int)<(n:Int):=by omega
 have i14:(14:Int)<(n:Int):=by omega
 have i15:(15:Int)<(n:Int):=by omega
 have B0:=Blk.new w 44 (ecs zev);have hb1:=aa0 w (.cells (ecs zev) 44);have hs1:=aa1 w (.cells (ecs zev) 44);have hS1:=hS.held hb1;have k0:=held hb1 c0;have k14:=held hb1 c14;have k15:=held hb1 c15;unfold ecs zev at B0 hb1 hs1 hS1 k0 k14 k15;clear h hr' hl hm hcap h16 l3 c0 c14 c15 hS hpart;obtain ⟨G,hG⟩:∃ G,G=(Hid (∀ W,Sl W (some ⟨b,off,none⟩) n cap bs->BytesAt W A' m part)):=⟨_,rfl⟩;have HBP:=Lib.hid hbp;clear hbp hG G;go_enter Tryz.func31,Tryz.ntmps31;go_upto_region 1 with fail;generalize w.alloc _=w1 at*;have Y:=H4 B0 hb1 hs1 hS1;clear B0 hb1 hs1 hS1;go_upto_region 3 with fail;go_cut [4] from 5 (fun v u=>∃ g,v= .pointer (some ⟨g,0,none⟩)/\w.heap.size<g/\Blk 44 u g (ecs PE)/\Blk 44 u w.heap.size (ecs zev)/\Below w.heap.size w u)
 case first=>
  have q0:w1.drew.cell? ⟨b,off,none⟩=some (.int .u8 (x0:Nat)):=k0;have q14:w1.drew.cell? ⟨b,off+14,none⟩=some (.int .u8 (x14:Nat)):=k14;have q15:w1.drew.cell? ⟨b,off+15,none⟩=some (.int .u8 (m:Nat)):=k15;have hSd:Sl w1.drew (some ⟨b,off,none⟩) n cap bs:=⟨Y.out.2.2.2.bytes,Y.out.2.2.2.cap,Y.out.2.2.2.plain⟩;have hBd:=aa0 w1.drew (.cells (ecs zev) 44);have hSa:=hSd.held hBd;have a0:=held hBd q0;have a14:=held hBd q14;have a15:=held hBd q15;unfold ecs zev at hBd hSa a0 a14 a15;have P1:=H2 hSd hSa;have P2:=H5 (And.intro q0 (And.intro q14 (And.intro q15 (HBP.out _ hSd)))) a0 a14 a15 (HBP.out _ hSa);have X1:=G1 _ hSd;have X4:=G4 _ hSd;have X7:=G7 _ hSd;have X10:=G10 _ hSd;have U1:=G1 _ hSa;have U4:=G4 _ hSa;have U7:=G7 _ hSa;have U10:=G10 _ hSa;have hbE:=aa0 w1 (.cells #[.int .i64 (x0:Nat),.int .i64 (v1:Nat),.int .i64 (v4:Nat),.int .i64 (v7:Nat),.int .u32 (v10:Nat),.int .i64 (x14:Nat),.string ⟨(toU part).toArray⟩] 44);have P3:=Lib.hid (And.intro (show (w1.alloc (.cells #[.int .i64 (x0:Nat),.int .i64 (v1:Nat),.int .i64 (v4:Nat),.int .i64 (v7:Nat),.int .u32 (v10:Nat),.int .i64 (x14:Nat),.string ⟨(toU part).toArray⟩] 44)).drew.cell? ⟨b,off,none⟩=some (.int .u8 (x0:Nat)) from held hbE k0) (And.intro (show (w1.alloc (.cells #[.int .i64 (x0:Nat),.int .i64 (v1:Nat),.int .i64 (v4:Nat),.int .i64 (v7:Nat),.int .u32 (v10:Nat),.int .i64 (x14:Nat),.string ⟨(toU part).toArray⟩] 44)).drew.cell? ⟨b,off+14,none⟩=some (.int .u8 (x14:Nat)) from held hbE k14) (And.intro (show (w1.alloc (.cells #[.int .i64 (x0:Nat),.int .i64 (v1:Nat),.int .i64 (v4:Nat),.int .i64 (v7:Nat),.int .u32 (v10:Nat),.int .i64 (x14:Nat),.string ⟨(toU part).toArray⟩] 44)).drew.cell? ⟨b,off+15,none⟩=some (.int .u8 (m:Nat)) from held hbE k15) (show BytesAt (w1.alloc (.cells #[.int .i64 (x0:Nat),.int .i64 (v1:Nat),.int .i64 (v4:Nat),.int .i64 (v7:Nat),.int .u32 (v10:Nat),.int .i64 (x14:Nat),.string ⟨(toU part).toArray⟩] 44)).drew A' m part from (let t:=HBP.out _ (Y.out.2.2.2.held hbE); ⟨t.1,t.2.1,t.2.2.1,t.2.2.2⟩)))));have hR1:Blk 44 (w1.alloc (.cells #[.int .i64 (x0:Nat),.int .i64 (v1:Nat),.int .i64 (v4:Nat),.int .i64 (v7:Nat),.int .u32 (v10:Nat),.int .i64 (x14:Nat),.string ⟨(toU part).toArray⟩] 44)) w1.heap.size (ecs PE):=by
   have t:=Blk.new w1 44 #[.int .i64 (x0:Nat),.int .i64 (v1:Nat),.int .i64 (v4:Nat),.int .i64 (v7:Nat),.int .u32 (v10:Nat),.int .i64 (x14:Nat),.string ⟨(toU part).toArray⟩];rw [E.out];exact t
  have hR2:=Y.out.1.more (.cells #[.int .i64 (x0:Nat),.int .i64 (v1:Nat),.int .i64 (v4:Nat),.int .i64 (v7:Nat),.int .u32 (v10:Nat),.int .i64 (x14:Nat),.string ⟨(toU part).toArray⟩] 44);have hR3:=(next Y.out.2.1 hbE).drew;have R:=Lib.hid (And.intro (show w.heap.size<w1.heap.size by rw [Y.out.2.2.1]; omega) (And.intro hR1.drew (And.intro hR2.drew hR3)));clear hbE hR1 hR2 hR3;clear k0 k14 k15 hSd hSa hBd q0 q14 q15 a0 a14 a15 G1 G4 G7 G10 HBP;have cv:Hid (∀ (u:World),BytesAt u A' m part->(convert 22 9 (.slice A' m c')).run prog u= .ok (.string ⟨(toU part).toArray⟩) u):=Lib.hid (fun u hu=>as5 hu);refine wp_region_held_drew (S:=fun u=>(u.cell? ⟨b,off,none⟩=some (.int .u8 (x0:Nat))/\u.cell? ⟨b,off+14,none⟩=some (.int .u8 (x14:Nat))/\u.cell? ⟨b,off+15,none⟩=some (.int .u8 (m:Nat))/\BytesAt u A' m part)) (by kernel_rfl) P2.out.1 (fun hHeld=>?_);refine tk 0 (.slice (some ⟨b,off,none⟩) n cap) rfl hHeld ?_;go_frame;refine aa6 (i:=1) (v:= .pointer (some ⟨b,off,none⟩)) rfl (by kernel_rfl) (by kernel_rfl) (by kernel_rfl) (fun _ _ _ h=>h) (.inl ⟨rfl,?_⟩) hHeld ?_
  ·(intro w hSw; go_simp; intro e0; omega)
  go_frame;refine tk 2 (.int .u8 (x0:Nat)) rfl hHeld ?_;go_frame;refine aa6 (i:=3) (v:= .int .i64 (x0:Nat)) rfl (by kernel_rfl) (by kernel_rfl) (by kernel_rfl) (fun _ _ _ h=>h) (.inl ⟨rfl,?_⟩) hHeld ?_
  ·(intro w hSw; go_simp; try exact wrap64 (by omega))
  go_frame;refine tk 4 (.slice (some ⟨b,off,none⟩) n cap) rfl hHeld ?_;go_frame;refine tk 5 (.slice (some ⟨b,off+1,none⟩) 3 c1) rfl hHeld ?_;go_frame;refine tk 8 (.slice (some ⟨b,off,none⟩) n cap) rfl hHeld ?_;go_frame;refine tk 9 (.slice (some ⟨b,off+4,none⟩) 3 c4) rfl hHeld ?_;go_frame;refine tk 12 (.slice (some ⟨b,off,none⟩) n cap) rfl hHeld ?_;go_frame;refine tk 13 (.slice (some ⟨b,off+7,none⟩) 3 c7) rfl hHeld ?_;go_frame;refine tk 16 (.slice (some ⟨b,off,none⟩) n cap) rfl hHeld ?_;go_frame;refine tk 17 (.slice (some ⟨b,off+10,none⟩) 4 c10) rfl hHeld ?_;go_frame;refine tk 19 (.slice (some ⟨b,off,none⟩) n cap) rfl hHeld ?_;go_frame;refine tk 20 (.pointer (some ⟨b,off+14,none⟩)) rfl hHeld ?_;go_frame;refine tk 21 (.int .u8 (x14:Nat)) rfl hHeld ?_;go_frame;refine aa6 (i:=22) (v:= .int .i64 (x14:Nat)) rfl (by kernel_rfl) (by kernel_rfl) (by kernel_rfl) (fun _ _ _ h=>h) (.inl ⟨rfl,?_⟩) hHeld ?_
  ·(intro w hSw; go_simp; try exact wrap64 (by omega))
  go_frame;refine tk 24 (.slice (some ⟨b,off,none⟩) n cap) rfl hHeld ?_;go_frame;refine tk 25 (.slice (some ⟨b,off,none⟩) n cap) rfl hHeld ?_;go_frame;refine tk 26 (.pointer (some ⟨b,off+15,none⟩)) rfl hHeld ?_;go_frame;refine tk 27 (.int .u8 (m:Nat)) rfl hHeld ?_;go_frame;refine aa6 (i:=28) (v:= .int .i64 (m:Nat)) rfl (by kernel_rfl) (by kernel_rfl) (by kernel_rfl) (fun _ _ _ h=>h) (.inl ⟨rfl,?_⟩) hHeld ?_
  ·(intro w hSw; go_simp; try exact wrap64 (by omega))
  go_frame;refine aa6 (i:=29) (v:= .int .i64 (16+(m:Int))) rfl (by kernel_rfl) (by kernel_rfl) (by kernel_rfl) (fun _ _ _ h=>h) (.inl ⟨rfl,?_⟩) hHeld ?_
  ·(intro w hSw; go_simp; try exact wrap64b (by omega))
  go_frame;refine tk 30 (.slice A' m c') rfl hHeld ?_;go_frame;refine aa6 (i:=31) (v:= .string ⟨(toU part).toArray⟩) rfl (by kernel_rfl) (by kernel_rfl) (by kernel_rfl) (fun _ _ _ h=>h) (.inl ⟨rfl,?_⟩) hHeld ?_
  ·(intro w hSw; have hcv:=cv.out w hSw.2.2.2; go_simp)
  go_frame;clear s1 s4 s7 s10 hA';refine ad8 (i:=6) (i':=33) rfl rfl (by kernel_rfl) (fun K hK=>?_) (fun K hK=>?_)
  ·go_simp
   refine X1.mono ?_;rintro e u ⟨rfl,rfl⟩;refine hK.out _ _ P2.out.1 (fun hHeld=>?_);clear hK K;try go_frame
   refine aa6 (i:=7) (v:= .int .i64 (v1:Nat)) rfl (by kernel_rfl) (by kernel_rfl) (by kernel_rfl) (fun _ _ _ h=>h) (.inl ⟨rfl,?_⟩) hHeld ?_
   ·(intro w hSw; go_simp; try exact wrap64 (by omega))
   go_frame;refine ad8 (i:=10) (i':=33) rfl rfl (by kernel_rfl) (fun K hK=>?_) (fun K hK=>?_)
   ·go_simp
    refine X4.mono ?_;rintro e u ⟨rfl,rfl⟩;refine hK.out _ _ P2.out.1 (fun hHeld=>?_);clear hK K;try go_frame
    refine aa6 (i:=11) (v:= .int .i64 (v4:Nat)) rfl (by kernel_rfl) (by kernel_rfl) (by kernel_rfl) (fun _ _ _ h=>h) (.inl ⟨rfl,?_⟩) hHeld ?_
    ·(intro w hSw; go_simp; try exact wrap64 (by omega))
    go_frame;refine ad8 (i:=14) (i':=33) rfl rfl (by kernel_rfl) (fun K hK=>?_) (fun K hK=>?_)
    ·go_simp
     refine X7.mono ?_;rintro e u ⟨rfl,rfl⟩;refine hK.out _ _ P2.out.1 (fun hHeld=>?_);clear hK K;try go_frame
     refine aa6 (i:=15) (v:= .int .i64 (v7:Nat)) rfl (by kernel_rfl) (by kernel_rfl) (by kernel_rfl) (fun _ _ _ h=>h) (.inl ⟨rfl,?_⟩) hHeld ?_
     ·(intro w hSw; go_simp; try exact wrap64 (by omega))
     go_frame;refine ad8 (i:=18) (i':=33) rfl rfl (by kernel_rfl) (fun K hK=>?_) (fun K hK=>?_)
     ·go_simp
      refine X10.mono ?_;rintro e u ⟨rfl,rfl⟩;refine hK.out _ _ P2.out.1 (fun hHeld=>?_);clear hK K;try go_frame
      refine tk 23 (.agg #[.int .u32 (v10:Nat),.int .i64 (x14:Nat)]) rfl hHeld ?_;go_frame;refine tk 32 (.agg #[.int .i64 (x0:Nat),.int .i64 (v1:Nat),.int .i64 (v4:Nat),.int .i64 (v7:Nat),.int .u32 (v10:Nat),.int .i64 (x14:Nat),.string ⟨(toU part).toArray⟩]) rfl hHeld ?_;go_frame;refine rl 33 rfl fun K hK=>?_
      go_simp;refine hK.out _ _ P2.out.2 (fun hHeld=>?_);clear hK K;try go_frame
      refine rl 34 rfl fun K hK=>?_
      go_simp;refine hK.out _ _ P3.out (fun hHeld=>?_);clear hK K;refine wpAnyH_done (by kernel_rfl) ?_ _;try go_frame
      go_wp2_with fail;go_meet
      case rel=>exact ⟨_,rfl,R.out.1,R.out.2.1,R.out.2.2.1,R.out.2.2.2⟩
     ·go_simp
      refine hK.out _ _ P2.out.2 (fun hHeld=>?_);clear hK K;try go_frame
      refine rl 18 rfl fun K hK=>?_
      go_simp;refine U10.mono ?_;rintro e u ⟨rfl,rfl⟩;refine hK.out _ _ P2.out.2 (fun hHeld=>?_);clear hK K;try go_frame
      refine tk 23 (.agg #[.int .u32 (v10:Nat),.int .i64 (x14:Nat)]) rfl hHeld ?_;go_frame;refine tk 32 (.agg #[.int .i64 (x0:Nat),.int .i64 (v1:Nat),.int .i64 (v4:Nat),.int .i64 (v7:Nat),.int .u32 (v10:Nat),.int .i64 (x14:Nat),.string ⟨(toU part).toArray⟩]) rfl hHeld ?_;go_frame;refine rl 34 rfl fun K hK=>?_
      go_simp;refine hK.out _ _ P3.out (fun hHeld=>?_);clear hK K;refine wpAnyH_done (by kernel_rfl) ?_ _;try go_frame
      go_wp2_with fail;go_meet
      case rel=>exact ⟨_,rfl,R.out.1,R.out.2.1,R.out.2.2.1,R.out.2.2.2⟩
    ·go_simp
     refine hK.out _ _ P2.out.2 (fun hHeld=>?_);clear hK K;try go_frame
     refine rl 14 rfl fun K hK=>?_
     go_simp;refine U7.mono ?_;rintro e u ⟨rfl,rfl⟩;refine hK.out _ _ P2.out.2 (fun hHeld=>?_);clear hK K;try go_frame
     refine aa6 (i:=15) (v:= .int .i64 (v7:Nat)) rfl (by kernel_rfl) (by kernel_rfl) (by kernel_rfl) (fun _ _ _ h=>h) (.inl ⟨rfl,?_⟩) hHeld ?_
     ·(intro w hSw; go_simp; try exact wrap64 (by omega))
     go_frame;refine rl 18 rfl fun K hK=>?_
     go_simp;refine U10.mono ?_;rintro e u ⟨rfl,rfl⟩;refine hK.out _ _ P2.out.2 (fun hHeld=>?_);clear hK K;try go_frame
     refine tk 23 (.agg #[.int .u32 (v10:Nat),.int .i64 (x14:Nat)]) rfl hHeld ?_;go_frame;refine tk 32 (.agg #[.int .i64 (x0:Nat),.int .i64 (v1:Nat),.int .i64 (v4:Nat),.int .i64 (v7:Nat),.int .u32 (v10:Nat),.int .i64 (x14:Nat),.string ⟨(toU part).toArray⟩]) rfl hHeld ?_;go_frame;refine rl 34 rfl fun K hK=>?_
     go_simp;refine hK.out _ _ P3.out (fun hHeld=>?_);clear hK K;refine wpAnyH_done (by kernel_rfl) ?_ _;try go_frame
     go_wp2_with fail;go_meet
     case rel=>exact ⟨_,rfl,R.out.1,R.out.2.1,R.out.2.2.1,R.out.2.2.2⟩
   ·go_simp
    refine hK.out _ _ P2.out.2 (fun hHeld=>?_);clear hK K;try go_frame
    refine rl 10 rfl fun K hK=>?_
    go_simp;refine U4.mono ?_;rintro e u ⟨rfl,rfl⟩;refine hK.out _ _ P2.out.2 (fun hHeld=>?_);clear hK K;try go_frame
    refine aa6 (i:=11) (v:= .int .i64 (v4:Nat)) rfl (by kernel_rfl) (by kernel_rfl) (by kernel_rfl) (fun _ _ _ h=>h) (.inl ⟨rfl,?_⟩) hHeld ?_
    ·(intro w hSw; go_simp; try exact wrap64 (by omega))
    go_frame;refine rl 14 rfl fun K hK=>?_
    go_simp;refine U7.mono ?_;rintro e u ⟨rfl,rfl⟩;refine hK.out _ _ P2.out.2 (fun hHeld=>?_);clear hK K;try go_frame
    refine aa6 (i:=15) (v:= .int .i64 (v7:Nat)) rfl (by kernel_rfl) (by kernel_rfl) (by kernel_rfl) (fun _ _ _ h=>h) (.inl ⟨rfl,?_⟩) hHeld ?_
    ·(intro w hSw; go_simp; try exact wrap64 (by omega))
    go_frame;refine rl 18 rfl fun K hK=>?_
    go_simp;refine U10.mono ?_;rintro e u ⟨rfl,rfl⟩;refine hK.out _ _ P2.out.2 (fun hHeld=>?_);clear hK K;try go_frame
    refine tk 23 (.agg #[.int .u32 (v10:Nat),.int .i64 (x14:Nat)]) rfl hHeld ?_;go_frame;refine tk 32 (.agg #[.int .i64 (x0:Nat),.int .i64 (v1:Nat),.int .i64 (v4:Nat),.int .i64 (v7:Nat),.int .u32 (v10:Nat),.int .i64 (x14:Nat),.string ⟨(toU part).toArray⟩]) rfl hHeld ?_;go_frame;refine rl 34 rfl fun K hK=>?_
    go_simp;refine hK.out _ _ P3.out (fun hHeld=>?_);clear hK K;refine wpAnyH_done (by kernel_rfl) ?_ _;try go_frame
    go_wp2_with fail;go_meet
    case rel=>exact ⟨_,rfl,R.out.1,R.out.2.1,R.out.2.2.1,R.out.2.2.2⟩
  ·go_simp
   refine hK.out _ _ P2.out.2 (fun hHeld=>?_);clear hK K;try go_frame
   refine rl 6 rfl fun K hK=>?_
   go_simp;refine U1.mono ?_;rintro e u ⟨rfl,rfl⟩;refine hK.out _ _ P2.out.2 (fun hHeld=>?_);clear hK K;try go_frame
   refine aa6 (i:=7) (v:= .int .i64 (v1:Nat)) rfl (by kernel_rfl) (by kernel_rfl) (by kernel_rfl) (fun _ _ _ h=>h) (.inl ⟨rfl,?_⟩) hHeld ?_
   ·(intro w hSw; go_simp; try exact wrap64 (by omega))
   go_frame;refine rl 10 rfl fun K hK=>?_
   go_simp;refine U4.mono ?_;rintro e u ⟨rfl,rfl⟩;refine hK.out _ _ P2.out.2 (fun hHeld=>?_);clear hK K;try go_frame
   refine aa6 (i:=11) (v:= .int .i64 (v4:Nat)) rfl (by kernel_rfl) (by kernel_rfl) (by kernel_rfl) (fun _ _ _ h=>h) (.inl ⟨rfl,?_⟩) hHeld ?_
   ·(intro w hSw; go_simp; try exact wrap64 (by omega))
   go_frame;refine rl 14 rfl fun K hK=>?_
   go_simp;refine U7.mono ?_;rintro e u ⟨rfl,rfl⟩;refine hK.out _ _ P2.out.2 (fun hHeld=>?_);clear hK K;try go_frame
   refine aa6 (i:=15) (v:= .int .i64 (v7:Nat)) rfl (by kernel_rfl) (by kernel_rfl) (by kernel_rfl) (fun _ _ _ h=>h) (.inl ⟨rfl,?_⟩) hHeld ?_
   ·(intro w hSw; go_simp; try exact wrap64 (by omega))
   go_frame;refine rl 18 rfl fun K hK=>?_
   go_simp;refine U10.mono ?_;rintro e u ⟨rfl,rfl⟩;refine hK.out _ _ P2.out.2 (fun hHeld=>?_);clear hK K;try go_frame
   refine tk 23 (.agg #[.int .u32 (v10:Nat),.int .i64 (x14:Nat)]) rfl hHeld ?_;go_frame;refine tk 32 (.agg #[.int .i64 (x0:Nat),.int .i64 (v1:Nat),.int .i64 (v4:Nat),.int .i64 (v7:Nat),.int .u32 (v10:Nat),.int .i64 (x14:Nat),.string ⟨(toU part).toArray⟩]) rfl hHeld ?_;go_frame;refine rl 34 rfl fun K hK=>?_
   go_simp;refine hK.out _ _ P3.out (fun hHeld=>?_);clear hK K;refine wpAnyH_done (by kernel_rfl) ?_ _;try go_frame
   go_wp2_with fail;go_meet
   case rel=>exact ⟨_,rfl,R.out.1,R.out.2.1,R.out.2.2.1,R.out.2.2.2⟩
 case rest=>
  clear Y E HBP G1 G4 G7 G10 s1 s4 s7 s10 hA' k0 k14 k15;obtain ⟨g,rfl,hlt,hg,hz,hb⟩:=hcut;have HR:∀ u:World,Calls prog 18 #[.agg (ecs PE)] u fun x w'=>x= .returned (.bool r)/\Below u.heap.size u w':=fun u=>eright_eq hfit XR.out.1 u
  have HE:Hid (∀ u,Blk 44 u g (ecs PE)->u.cell? ⟨g,0,none⟩=some (.int .i64 PE.kind)/\u.cell? ⟨g,1,none⟩=some (.int .i64 PE.i)/\u.cell? ⟨g,2,none⟩=some (.int .i64 PE.k)/\u.cell? ⟨g,3,none⟩=some (.int .i64 PE.n)/\u.cell? ⟨g,4,none⟩=some (.int .u32 (PE.a:Nat))/\u.cell? ⟨g,5,none⟩=some (.int .i64 PE.len)/\u.cell? ⟨g,6,none⟩=some (.string ⟨PE.p.toArray⟩)):=Lib.hid (fun u h=>⟨h.at_ 0,h.at_ 1,h.at_ 2,h.at_ 3,h.at_ 4,h.at_ 5,h.at_ 6⟩);have hX2:X=#[.int .i64 PE.kind,.int .i64 PE.i,.int .i64 PE.k,.int .i64 PE.n,.int .u32 (PE.a:Nat),.int .i64 PE.len,.string ⟨PE.p.toArray⟩]:=XR.out.2;rw [<- XR.out.2,hX2] at HR;have XH:=Lib.hid XR.out.2;have XH2:=Lib.hid hX2;clear hX2 XR;go_upto_region 4 with fail;have p0:=HE.out _ hg.drew;have Z:=H4 hlt hg hz hb;clear hg hz hb hlt hfit hPE;generalize PE.kind=y0 at*;generalize PE.i=y1 at*;generalize PE.k=y2 at*;generalize PE.n=y3 at*;generalize PE.a=y4 at*;generalize PE.len=y5 at*;generalize (⟨PE.p.toArray⟩:ByteArray)=y6 at*;refine wp_region_held_drew (S:=fun u=>(u.cell? ⟨g,0,none⟩=some (.int .i64 y0)/\u.cell? ⟨g,1,none⟩=some (.int .i64 y1)/\u.cell? ⟨g,2,none⟩=some (.int .i64 y2)/\u.cell? ⟨g,3,none⟩=some (.int .i64 y3)/\u.cell? ⟨g,4,none⟩=some (.int .u32 (y4:Nat))/\u.cell? ⟨g,5,none⟩=some (.int .i64 y5)/\u.cell? ⟨g,6,none⟩=some (.string y6))) (by kernel_rfl) p0 (fun hHeld=>?_);refine tk 0 (.agg #[.int .i64 y0,.int .i64 y1,.int .i64 y2,.int .i64 y3,.int .u32 (y4:Nat),.int .i64 y5,.string y6]) rfl hHeld ?_;go_frame;refine tk 1 (.agg #[.int .i64 y0,.int .i64 y1,.int .i64 y2,.int .i64 y3,.int .u32 (y4:Nat),.int .i64 y5,.string y6]) rfl hHeld ?_;go_frame;refine rl 2 rfl fun K hK=>?_
  go_simp;refine (HR _).mono ?_;rintro e w5 ⟨rfl,hb5⟩;have hg5:=(show Blk 44 wc.drew g _ from Z.out.2.1.drew).held hb5;have hz5:=(show Blk 44 wc.drew w.heap.size _ from Z.out.2.2.1.drew).held hb5;have hbb:=next Z.out.2.2.2.drew hb5;refine hK.out _ _ (HE.out _ hg5) (fun hHeld=>?_);clear hK K p0;try go_frame
  refine rl 3 rfl fun K hK=>?_
  rw [if_pos (by rfl)];refine wp_store_mid _ _ _ rfl _ _ #[.int .i64 y0,.int .i64 y1,.int .i64 y2,.int .i64 y3,.int .u32 (y4:Nat),.int .i64 y5,.string y6] rfl rfl hz5.ev_there7 (by show _=some 7; kernel_rfl) (by simp [Value.oneCell']) ?_;have hT6:Turn [w.heap.size] w5 (w5.setCells w.heap.size 0 [.int .i64 y0,.int .i64 y1,.int .i64 y2,.int .i64 y3,.int .u32 (y4:Nat),.int .i64 y5,.string y6]):=Turn.setCells w5 (by simp) _ _;have hg6:=hg5.turn hT6 (by simp; have:=Z.out.1; omega);have hz6:Blk 44 (w5.setCells w.heap.size 0 [.int .i64 y0,.int .i64 y1,.int .i64 y2,.int .i64 y3,.int .u32 (y4:Nat),.int .i64 y5,.string y6]) w.heap.size X:=by
   have:=hz5.setCells [.int .i64 y0,.int .i64 y1,.int .i64 y2,.int .i64 y3,.int .u32 (y4:Nat),.int .i64 y5,.string y6] 0;rw [XH2.out];exact this
  have hb6:=hbb.trans (hT6.below (B:=w.heap.size) (by simp) hbb.size);have p6:=HE.out _ hg6;refine hK.out _ _ p6 (fun hHeld=>?_);clear hK K;try go_frame
  have F:=H2 hz6 hb6;clear hg5 hz5 hbb hT6 hg6 hz6 hb6 HR HE hb5;refine rl 4 rfl fun K hK=>?_
  go_simp;refine hK.out _ _ p6 (fun hHeld=>?_);clear hK K hHeld p6;refine wpAnyH_done (by kernel_rfl) ?_ _;try go_frame
  go_wp2_with fail;refine bodyPost_ret (v:= .tuple #[.agg X,.bool r]) ?_ rfl ⟨rfl,F.out.2⟩;rw [XH.out];exact ax4 rfl rfl rfl (by rw [<- XH.out]; exact F.out.1)
theorem ck5 (h:Sl w A n cap bs):
  Calls prog 31 #[.slice A n cap] w fun x w'=>x= .returned (.tuple #[.agg (ecs (Sc.fst bs)),.bool (first bs)])/\Below w.heap.size w w':=by
 unfold Sc.fst first
 cases hr:room bs
 ·exact bn1 h hr
 ·exact by4 h hr
end
end Go.Proofs.YtbepbkidkjblgaaGreat.Sp
