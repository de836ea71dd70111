import Derived.Test.YtafkfnodcemefaaGreatB03
import Derived.Deep.CutBlock
import Derived.Deep.Slices
set_option maxHeartbeats 8000000
set_option maxRecDepth 100000
namespace Go.Proofs.YtafkfnodcemefaaGreat.Cr
open _root_.Go.Proofs.Tryz (prog)
section
open Go.RowKit
section
variable {P:Program} {Q:Exit->Act->World->Prop} {md:Region.Mode} {S:World->Prop}
theorem aq4 {α:Type} {l rest:List α} {i:Nat} {o:α} (h:l.drop i=o::rest):l.toArray[i]?=some o:=by
 have e:(l.drop i)[0]?=some o:=by rw [h]; rfl
 rw [List.getElem?_drop] at e;simpa using e
theorem aa6 {l rest:List Oper} {i:Nat} {oi:Oper} {v:Value} {fuel:Nat} {listed:Array Bool} {a:Act} {w:World} (hi:l.drop i=oi::rest)
  (hs:Region.noSelect l.toArray=true) (hf:Region.free md l.toArray listed i=true) (hr:(Region.ready md l.toArray listed).contains i=true)
  (hQ:∀ c a w,Q (.panic c) (a.put oi.dst v) w->Q (.panic c) a w) (hy:YieldsIf P l.toArray S oi v a) (hS:S w)
  (h:wpAnyH P md l.toArray Q S fuel (listed.setIfInBounds i true) (a.put oi.dst v) w):wpAnyH P md l.toArray Q S (fuel+1) listed a w:=
 wpAnyH_take (aq4 hi) hs hf hr hQ hy hS h
end
def flipB (b:UInt8) (m:Nat):UInt8:=UInt8.ofNat (b.toNat ^^^ (128 / 2 ^ m))
def flipS (s:List UInt8) (bit:Nat):List UInt8:=s.set (bit / 8) (flipB (s.getD (bit / 8) 0) (bit % 8))
def spoil (s:List UInt8) (first turn:Nat):Nat->List UInt8
 |0=>s
 |k+1=>if first+k<384/\turn / 2 ^ k % 2=1 then flipS (spoil s first turn k) (first+k) else spoil s first turn k
theorem dk5 (s:List UInt8) (bit:Nat):(flipS s bit).length=s.length:=by simp [flipS]
theorem bf5 (s:List UInt8) (first turn:Nat):∀ k,(spoil s first turn k).length=s.length
 |0=>rfl
 |k+1=>by unfold spoil; split<;>simp [dk5,bf5 s first turn k]
theorem dl2 (b:UInt8) (m:Nat):(flipB b m).toNat=b.toNat ^^^ (128 / 2 ^ m):=by
 unfold flipB;rw [UInt8.toNat_ofNat'];apply Nat.mod_eq_of_lt;have h1:b.toNat<2 ^ 8:=b.toNat_lt;have h2:128 / 2 ^ m<2 ^ 8:=Nat.lt_of_le_of_lt (Nat.div_le_self _ _) G;exact Nat.xor_lt_two_pow h1 h2
def firstOf (a:Int):Nat:=(a % 18446744073709551616 % 384).toNat
theorem dn2 (a:Int):firstOf a<384:=by unfold firstOf; omega
theorem ds6 (s:List UInt8) (j:Nat) (b:UInt8):(sec s).toArray.setIfInBounds j (Yy (b.toNat:Int))=(sec (s.set j b)).toArray:=by simp [sec]
theorem sec_at {s:List UInt8} {j:Nat} (hj:j<s.length):(sec s).toArray[j]?=some (Yy ((s.getD j 0).toNat:Int)):=by
 simp [sec,hj]
theorem bit32 (t k:Nat) (ht:t<4294967296):(bits .and .u32 ((t:Int) / 2 ^ k) 1==1)=decide (t / 2 ^ k % 2=1):=by
 have h1:t / 2 ^ k<4294967296:=Nat.lt_of_le_of_lt (Nat.div_le_self _ _) ht;rw [show ((t:Int) / 2 ^ k)=((t / 2 ^ k:Nat):Int) from by simp [Int.natCast_ediv],show (1:Int)=((1:Nat):Int) from rfl,u32_and_nat _ 1 h1 G,nat_mask1];rw [Bool.eq_iff_iff]; simp only [beq_iff_eq,decide_eq_true_eq]; omega
theorem dt6 (s:List UInt8) (j m:Nat):bits .xor .u8 (((s.getD j 0).toNat:Nat):Int) (128 / 2 ^ m)=((flipB (s.getD j 0) m).toNat:Int):=by
 rw [show ((128:Int) / 2 ^ m)=((128 / 2 ^ m:Nat):Int) from by simp [Int.natCast_ediv],u8_xor_nat _ _ (s.getD j 0).toNat_lt (Nat.lt_of_le_of_lt (Nat.div_le_self _ _) G),dl2]
theorem dn4 {s:List UInt8} {F t k:Nat} (h:F+k<384) (hb:t / 2 ^ k % 2=1):spoil s F t (k+1)=flipS (spoil s F t k) (F+k):=by rw [spoil,if_pos ⟨h,hb⟩]
theorem dl6 {s:List UInt8} {F t k:Nat} (h:¬ (F+k<384/\t / 2 ^ k % 2=1)):spoil s F t (k+1)=spoil s F t k:=by rw [spoil,if_neg h]
theorem dq7 (a:Int):(IntKind.u64.wrap a).tmod 384=(firstOf a:Int):=by
 have h:IntKind.u64.wrap a=a % 18446744073709551616:=by simp [IntKind.wrap,IntKind.bits,IntKind.signed]
 rw [h,Int.tmod_eq_emod_of_nonneg G];unfold firstOf;omega
theorem dm5 (w:World) (s:List UInt8) (hs:s.length=48) (a:Int) (t:Nat) (ht:t<4294967296):
  Kc 153 #[.agg (sec s).toArray,I a,U (t:Int)] w (Rr0 w (.agg (sec (spoil s (firstOf a) t 32)).toArray)):=by
 go_enter Tryz.func153,Tryz.ntmps153;go_wp2_with fail;rw [dq7];have hF:=dn2 a;generalize hF0:firstOf a=F at*;have HF:=Zq hF0;clear hF0;generalize IntKind.u64.wrap a=A;have hX1:=Blk.new w 218 (sec s).toArray;have hb1:=aa0 w (.cells (sec s).toArray 218);have hs1:=aa1 w (.cells (sec s).toArray 218);generalize w.alloc _=w1 at*;have hX2:=Blk.new w1 218 z48;have hX3:=hX1.more (.cells z48 218);have hb2:=next hb1 (aa0 w1 (.cells z48 218));have K:=H3 hX3 (hs1 ▸ hX2) hb2;clear hX1 hX2 hX3 hb1 hb2 hs1;dsimp only [z48] at K;generalize w1.alloc _=w2 at*;go_loopw [13] (fun i u=>∃ k:Nat,k<=32/\i= Zz k/\(Blk 218 u w.heap.size (sec (spoil s F t k)).toArray/\Blk 218 u (w.heap.size+1) z48/\Bw w u)) (fun i _=>32 - (intOf i).toNat)
 case atStart=>exact ⟨0,G,rfl,K.out⟩
 case round=>
  clear K;obtain ⟨k,hk,rfl,hX,hY,hb⟩:=hrel;have Z:=H3 hX hY hb;clear hX hY hb;by_cases hlt:k<32
  ·by_cases hc:F+k<384
   ·have d1:=dT ((F:Int)+k<384)
    have hl:(spoil s F t k).length=48:=by rw [bf5,hs]
    have c0:wr.cell? (Y w.heap.size ((F+k) / 8))=some (Yy (((spoil s F t k).getD ((F+k) / 8) 0).toNat:Int)):=(Z.out.1.at_ _).trans (sec_at G);have f0:wr.frozen? (Y w.heap.size ((F+k) / 8))=false:=Z.out.1.free _
    cases hbit:(bits .and .u32 ((t:Int) / 2 ^ k) 1==1)
    ·have E:Hid (spoil s F t (k+1)=spoil s F t k):=Zq (dl6 (fun h=>by rw [bit32 t k ht] at hbit; simp [h.2] at hbit))
     go_wp2_with fail;go_roundw
     case rel=>exact ⟨k+1,G,by go_num,by rw [E.out]; exact Z.out⟩
     case measure=>simp [intOf]; omega
    ·have E:Hid (spoil s F t (k+1)=flipS (spoil s F t k) (F+k)):=Zq (dn4 hc (by rw [bit32 t k ht] at hbit; simpa using hbit))
     go_wp2_with fail;go_roundw
     case rel=>
      obtain ⟨hX,hY,hb⟩:=Z.out;have e1:=dt6 (spoil s F t k) ((F+k) / 8) ((F+k) % 8);rw [List.getD_eq_getElem?_getD] at e1;have hX2:=hX.store ((F+k) / 8) (Yy ((flipB ((spoil s F t k).getD ((F+k) / 8) 0) ((F+k) % 8)).toNat:Int));rw [ds6] at hX2;refine ⟨k+1,G,by go_num,?_⟩;rw [E.out,e1];exact ⟨hX2,hY.away sn _,hb.setCell sn _⟩
     case measure=>simp [intOf]; omega
   ·have d1:=df ((F:Int)+k<384)
    have E:Hid (spoil s F t (k+1)=spoil s F t k):=Zq (dl6 (fun h=>hc h.1));go_wp2_with fail;go_roundw
    case rel=>exact ⟨k+1,G,by go_num,by rw [E.out]; exact Z.out⟩
    case measure=>simp [intOf]; omega
  ·obtain rfl:k=32:=G
   have hl:(spoil s F t 32).length=48:=by rw [bf5,hs]
   generalize hsp:spoil s F t 32=s' at*;have HS:=Zq hsp;clear hsp;go_wp2_with (first
    |(refine wpList_load_mid (P:=prog) rfl 218 (.tmp 3) rfl _ _ rfl (sec s') _ (Z.out.1.range_all) ai6 rfl (secInfo hl) ?_)
    |(refine wpList_store_mid (P:=prog) rfl 218 (.tmp 6) (.tmp 38) rfl _ 0 (sec s').toArray rfl rfl (Z.out.2.1.there_z48 hl) (secInfo' hl) (all_oneCell_toArray (ai7 _)) ?_))
   go_frame;obtain ⟨hX,hY,hb⟩:=Z.out;have hY2:=hY.stored hl;refine bodyPost_ret (v:= .agg (sec s').toArray) (results_cell_row (p:=6) X _ _ (w.heap.size+1) 218 _ (0,0) _ rfl hY2 ai6 rfl (by simpa using secInfo hl)) rfl ⟨?_,?_⟩
   ·obtain rfl:=HF.out
    rw [HS.out]
   ·exact hb.trans ((Turn.setCells (L:=[w.heap.size+1]) wr sn 0 _).below sn hb.size)
def picked (how at_:Int) (turn:Nat) (was written:List UInt8):List UInt8:=if how=0 then was else if how=1 then written else spoil written (firstOf at_) turn 32
theorem bs2 {how at_:Int} {turn:Nat} {was written:List UInt8} (h1:was.length=48) (h2:written.length=48):(picked how at_ turn was written).length=48:=by
 unfold picked;split
 ·exact h1
 ·split
  ·exact h2
  ·rw [bf5,h2]
def OfBlks (w u:World) (how at_:Int) (t:Nat) (s s':List UInt8):Prop:=
 Blk 176 u w.heap.size #[I how,I at_,U (t:Int)]/\Blk 218 u (w.heap.size+1) (sec s).toArray/\Blk 218 u (w.heap.size+2) (sec s').toArray/\Blk 218 u (w.heap.size+3) z48/\Bw w u
theorem dl0 (w:World) (how at_:Int) (t:Nat) (s s':List UInt8):OfBlks w ((((w.alloc (.cells #[I how,I at_,U (t:Int)] 176)).alloc (.cells (sec s).toArray 218)).alloc (.cells (sec s').toArray 218)).alloc (.cells z48 218)) how at_ t s s':=by
 obtain ⟨hb1,hX1⟩:=nw w 176 #[I how,I at_,U (t:Int)];have hs1:=aa1 w (.cells #[I how,I at_,U (t:Int)] 176);generalize w.alloc _=w1 at*;have hX2:=Blk.new w1 218 (sec s).toArray;have hs2:=aa1 w1 (.cells (sec s).toArray 218);replace hX1:=hX1.more (.cells (sec s).toArray 218);have hb2:=next hb1 (aa0 w1 (.cells (sec s).toArray 218));generalize w1.alloc _=w2 at*;have hX3:=Blk.new w2 218 (sec s').toArray;have hs3:=aa1 w2 (.cells (sec s').toArray 218);replace hX1:=hX1.more (.cells (sec s').toArray 218);replace hX2:=hX2.more (.cells (sec s').toArray 218);have hb3:=next hb2 (aa0 w2 (.cells (sec s').toArray 218));generalize w2.alloc _=w3 at*;have hX4:=Blk.new w3 218 z48;rw [show w3.heap.size=w.heap.size+3 by omega] at hX4;rw [show w2.heap.size=w.heap.size+2 by omega] at hX3;rw [show w1.heap.size=w.heap.size+1 by omega] at hX2;exact ⟨hX1.more _,hX2.more _,hX3.more _,hX4,next hb3 (aa0 w3 _)⟩
theorem cx3 (w:World) (how at_:Int) (t:Nat) (ht:t<4294967296) (s s':List UInt8) (hs:s.length=48) (hs':s'.length=48):
  Kc 123 #[.agg #[I how,I at_,U (t:Int)],.agg (sec s).toArray,.agg (sec s').toArray] w (Rr0 w (.agg (sec (picked how at_ t s s')).toArray)):=by
 have hl:=bs2 (how:=how) (at_:=at_) (turn:=t) hs hs';by_cases h0:how=0
 ·have E:Hid (picked how at_ t s s'=s):=Zq (by simp [picked,h0])
  have d0:(how==0)=true:=by simp [h0]
  clear h0;go_enter Tryz.func123,Tryz.ntmps123;go_upto_region 1 with (fail);have Z:=Zq (dl0 w how at_ t s s');dsimp only [z48] at Z;generalize World.alloc _ (.cells _ 218)=u at*;have p0:u.cell? (Y w.heap.size 0)=some (I how):=Z.out.1.at_ 0;go_wp2_with (first
   |(refine wpList_load_mid (P:=prog) rfl 218 (.tmp 4) rfl _ _ rfl (sec s) _ (Z.out.2.1.range_all) ai6 rfl (secInfo hs) ?_)
   |(refine wpList_store_mid (P:=prog) rfl 218 (.tmp 6) (.tmp 11) rfl _ 0 (sec s).toArray rfl rfl (Z.out.2.2.2.1.there_z48 hs) (secInfo' hs) (all_oneCell_toArray (ai7 _)) ?_))
  go_frame;obtain ⟨hP,hX,hY,hR,hb⟩:=Z.out;have hR2:=hR.stored hs;refine bodyPost_ret (v:= .agg (sec s).toArray) (results_cell_row (p:=6) X _ _ (w.heap.size+3) 218 _ (0,0) _ rfl hR2 ai6 rfl (by simpa using secInfo hs)) rfl ⟨by rw [E.out],?_⟩;exact hb.trans ((Turn.setCells (L:=[w.heap.size+3]) u sn 0 _).below sn hb.size)
 by_cases h1:how=1
 ·have E:Hid (picked how at_ t s s'=s'):=Zq (by simp [picked,h1])
  have d0:(how==0)=false:=by simp [h0]
  have d1:(how==1)=true:=by simp [h1]
  clear h0 h1;go_enter Tryz.func123,Tryz.ntmps123;go_upto_region 1 with (fail);have Z:=Zq (dl0 w how at_ t s s');dsimp only [z48] at Z;generalize World.alloc _ (.cells _ 218)=u at*;have p0:u.cell? (Y w.heap.size 0)=some (I how):=Z.out.1.at_ 0;go_wp2_with (first
   |(refine wpList_load_mid (P:=prog) rfl 218 (.tmp 5) rfl _ _ rfl (sec s') _ (Z.out.2.2.1.range_all) ai6 rfl (secInfo hs') ?_)
   |(refine wpList_store_mid (P:=prog) rfl 218 (.tmp 6) (.tmp 14) rfl _ 0 (sec s').toArray rfl rfl (Z.out.2.2.2.1.there_z48 hs') (secInfo' hs') (all_oneCell_toArray (ai7 _)) ?_))
  go_frame;obtain ⟨hP,hX,hY,hR,hb⟩:=Z.out;have hR2:=hR.stored hs';refine bodyPost_ret (v:= .agg (sec s').toArray) (results_cell_row (p:=6) X _ _ (w.heap.size+3) 218 _ (0,0) _ rfl hR2 ai6 rfl (by simpa using secInfo hs')) rfl ⟨by rw [E.out],?_⟩;exact hb.trans ((Turn.setCells (L:=[w.heap.size+3]) u sn 0 _).below sn hb.size)
 ·have E:Hid (picked how at_ t s s'=spoil s' (firstOf at_) t 32):=Zq (by simp [picked,h0,h1])
  have hsl:(spoil s' (firstOf at_) t 32).length=48:=by rw [bf5,hs']
  have d0:(how==0)=false:=by simp [h0]
  have d1:(how==1)=false:=by simp [h1]
  clear h0 h1;go_enter Tryz.func123,Tryz.ntmps123;go_upto_region 1 with (fail);have Z:=Zq (dl0 w how at_ t s s');dsimp only [z48] at Z;generalize World.alloc _ (.cells _ 218)=u at*;have p0:u.cell? (Y w.heap.size 0)=some (I how):=Z.out.1.at_ 0;have p1:u.cell? (Y w.heap.size 1)=some (I at_):=Z.out.1.at_ 1;have p2:u.cell? (Y w.heap.size 2)=some (U (t:Int)):=Z.out.1.at_ 2;go_wp2_with (first
   |(refine wpList_load_mid (P:=prog) rfl 218 (.tmp 5) rfl _ _ rfl (sec s') _ (Z.out.2.2.1.range_all) ai6 rfl (secInfo hs') ?_)
   |(go_at_call 153; (refine (dm5 _ s' hs' at_ t ht).mono ?_); rintro e u2 ⟨rfl,hb2⟩; have Z2:=Zq hb2; clear hb2)
   |(refine wpList_store_mid (P:=prog) rfl 218 (.tmp 6) (.tmp 20) rfl _ 0 (sec (spoil s' (firstOf at_) t 32)).toArray rfl rfl ((Z.out.2.2.2.1.held Z2.out).there_z48 hsl) (secInfo' hsl) (all_oneCell_toArray (ai7 _)) ?_))
  go_frame;obtain ⟨hP,hX,hY,hR,hb⟩:=Z.out;have hR2:=(hR.held Z2.out).stored hsl;refine bodyPost_ret (v:= .agg (sec (spoil s' (firstOf at_) t 32)).toArray) (results_cell_row (p:=6) X _ _ (w.heap.size+3) 218 _ (0,0) _ rfl hR2 ai6 rfl (by simpa using secInfo hsl)) rfl ⟨by rw [E.out],?_⟩;exact (next hb Z2.out).trans ((Turn.setCells (L:=[w.heap.size+3]) u2 sn 0 _).below sn (next hb Z2.out).size)
abbrev Pk:=Int×Int×Nat
def PicksAt (u:World) (A:Option Addr) (ps:List Pk):Prop:=
 ∀ j p,ps[j]?=some p->p.2.2<4294967296/\∃ ad,A=some ad/\u.cell? (ad.add (j*3))=some (I p.1)/\u.cell? (ad.add (j*3+1))=some (I p.2.1)/\u.cell? (ad.add (j*3+2))=some (U (p.2.2:Int))
def unsafeBelow (wn:Int->Option (List UInt8)):Nat->Nat
 |0=>0
 |i+1=>unsafeBelow wn i+(if (wn i).isSome then 1 else 0)
def crashed (safe:Nat->List UInt8) (wn:Int->Option (List UInt8)) (ps:List Pk) (i:Nat):List UInt8:=
 match wn i with
 |none=>safe i
 |some s=>match ps[unsafeBelow wn i]? with
  |none=>safe i
  |some p=>picked p.1 p.2.1 p.2.2 (safe i) s
def crashing (safe:Nat->List UInt8) (wn:Int->Option (List UInt8)) (ps:List Pk) (k i:Nat):List UInt8:=if i<k then crashed safe wn ps i else safe i
theorem PicksAt.turn {u u':World} {A:Option Addr} {ps:List Pk} {L:List Nat} (h:PicksAt u A ps) (t:Turn L u u') (hA:∀ ad,A=some ad->ad.block∉L):PicksAt u' A ps:=by
 intro j p hp;obtain ⟨h1,ad,e,c0,c1,c2⟩:=h j p hp;exact ⟨h1,ad,e,t.cell c0 (by rw [add_block]; exact hA ad e),t.cell c1 (by rw [add_block]; exact hA ad e),t.cell c2 (by rw [add_block]; exact hA ad e)⟩
theorem PicksAt.held {u u':World} {A:Option Addr} {ps:List Pk} (h:PicksAt u A ps) (hb:Below u.heap.size u u'):PicksAt u' A ps:=by
 intro j p hp;obtain ⟨h1,ad,e,c0,c1,c2⟩:=h j p hp;exact ⟨h1,ad,e,Go.Proofs.YtafkfnodcemefaaGreat.held hb c0,Go.Proofs.YtafkfnodcemefaaGreat.held hb c1,Go.Proofs.YtafkfnodcemefaaGreat.held hb c2⟩
theorem PicksAt.tail {u:World} {ad:Addr} {p:Pk} {ps:List Pk} (h:PicksAt u (some ad) (p::ps)):PicksAt u (some (ad.add 3)) ps:=by
 intro j q hq;obtain ⟨h1,ad',e,c0,c1,c2⟩:=h (j+1) q (by simpa using hq)
 cases e;refine ⟨h1,_,rfl,?_,?_,?_⟩
 ·rw [Deep.add_add,show 3+j*3=(j+1)*3 by omega]; exact c0
 ·rw [Deep.add_add,show 3+(j*3+1)=(j+1)*3+1 by omega]; exact c1
 ·rw [Deep.add_add,show 3+(j*3+2)=(j+1)*3+2 by omega]; exact c2
theorem PicksAt.nil {u:World} {A:Option Addr}:PicksAt u A []:=fun j p hp=>by simp at hp
theorem dn5 (u:World) (ad:Addr) {m cap:Nat} {A2:Option Addr} (h1:1<=m) (h3:A2=(if cap=1 then some ad else some (ad.add 3))):
  (Instr.slice 137 (.slice (some ad) m cap) (some (I 1)) none none).run prog u= .ok (.slice A2 (m - 1) (cap - 1)) u:=by
 have hu:prog.underlying 137=some (.slice 176):=X
 have hz:(sizeOf 176).run prog u= .ok 3 u:=X
 have hb:(Instr.sliceBound (I 1) m .sliceB).run prog u= .ok 1 u:=run_sliceBound u .i64 1 m .sliceB G G;subst h3;simp only [Instr.slice,Sem.run_bind,run_underlying hu,Result.andThen_ok,Instr.sliceBounds,Sem.run_pure];simp [hb]
theorem dm3 {u:World} {ad:Addr} {cap:Nat} {rest:List Pk} (h:PicksAt u (some (ad.add 3)) rest) (hl:rest.length<=cap - 1):PicksAt u (if cap=1 then some ad else some (ad.add 3)) rest:=by
 by_cases hc:cap=1
 ·obtain rfl:rest=[]:=List.eq_nil_of_length_eq_zero G
  exact PicksAt.nil
 ·rw [if_neg hc]; exact h
theorem dq9 {A2:Option Addr} {ad:Addr} {cap:Nat} {L:List Nat} (h:A2=if cap=1 then some ad else some (ad.add 3)) (had:ad.block∉L):∀ a,A2=some a->a.block∉L:=by
 intro a ha;rw [h] at ha;by_cases hc:cap=1
 ·rw [if_pos hc] at ha; cases ha; exact had
 ·rw [if_neg hc] at ha; cases ha; rw [add_block]; exact had
theorem _root_.Go.Proofs.YtafkfnodcemefaaGreat.Blk.three {w:World} {g:Nat} {t:TypeId} {a b c:Value} (h:Blk t w g #[a,b,c]) (x y z:Value):Blk t (((w.setCell (Y g 0) x).setCell (Y g 1) y).setCell (Y g 2) z).drew g #[x,y,z]:=
 (((h.store 0 x).store 1 y).store 2 z).drew
theorem dj6 {safe:Nat->List UInt8} {wn:Int->Option (List UInt8)} {ps:List Pk} {k:Nat} (h:wn k=none):crashing safe wn ps (k+1)=crashing safe wn ps k:=by
 funext i;unfold crashing;by_cases h1:i<k
 ·rw [if_pos h1,if_pos G]
 ·by_cases h2:i=k
  ·subst h2; rw [if_pos G,if_neg G]; unfold crashed; rw [h]
  ·rw [if_neg G,if_neg G]
theorem cs5 {safe:Nat->List UInt8} {wn:Int->Option (List UInt8)} {ps:List Pk} {k:Nat}:crashing safe wn ps (k+1)=fun j=>if j=k then crashed safe wn ps k else crashing safe wn ps k j:=by
 funext i;unfold crashing;by_cases h2:i=k
 ·subst h2; rw [if_pos G,if_pos rfl]
 ·rw [if_neg h2]
  by_cases h1:i<k
  ·rw [if_pos h1,if_pos G]
  ·rw [if_neg G,if_neg G]
theorem cj6 {safe:Nat->List UInt8} {wn:Int->Option (List UInt8)} {ps:List Pk} {k:Nat}:crashing safe wn ps k k=safe k:=by unfold crashing; rw [if_neg G]
theorem cu3 {wn:Int->Option (List UInt8)} {k:Nat} (h:wn k=none):unsafeBelow wn (k+1)=unsafeBelow wn k:=by rw [unsafeBelow,h]; rfl
theorem bg6 {wn:Int->Option (List UInt8)} {k:Nat} {s:List UInt8} (h:wn k=some s):unsafeBelow wn (k+1)=unsafeBelow wn k+1:=by rw [unsafeBelow,h]; rfl
section
variable {w:World} {d S M n:Nat} {safe:Nat->List UInt8} {wn:Int->Option (List UInt8)} {well:Int}
def CrashRel (w:World) (d S M n:Nat) (safe:Nat->List UInt8) (wn:Int->Option (List UInt8)) (well:Int) (ps:List Pk) (cap:Nat) (v i:Value) (u:World):Prop:=
 ∃ (k:Nat) (A:Option Addr) (cap':Nat),k<=n/\i= I k/\v= .slice A (ps.length - unsafeBelow wn k) cap'/\ps.length - unsafeBelow wn k<=cap'/\cap'<=cap/\PicksAt u A (ps.drop (unsafeBelow wn k))/\(ps=[]\/∀ ad,A=some ad->ad.block∉[d,S,M])/\
  Dk u d S M n (crashing safe wn ps k) wn well/\Turn [d,S,M] w u
theorem crash_any (h:Dk w d S M n safe wn well) (A:Option Addr) (ps:List Pk) (cap:Nat) (hps:PicksAt w A ps) (hA:ps=[]\/∀ ad,A=some ad->ad.block∉[d,S,M]) (hl:ps.length<=cap) (hc:cap<=9223372036854775807):
  Kc 96 #[Pt d,.slice A ps.length cap] w fun e w'=>e= .returned (.tuple #[])/\Dk w' d S M n (crashed safe wn ps) (fun _=>none) (-1)/\Turn [d,S,M] w w':=by
 have n2:=h.n2;have K:=Zq (show CrashRel w d S M n safe wn well ps cap (.slice A ps.length cap) (I 0) w from ⟨0,A,cap,G,rfl,rfl,by simpa [unsafeBelow] using hl,Nat.le_refl _,hps,hA,by
  have e:crashing safe wn ps 0=safe:=by funext i; simp [crashing]
  rw [e]; exact h,Turn.refl _ _⟩)
 have H:=Zq h;clear h hps hA;go_enter Tryz.func96,Tryz.ntmps96;go_wp2_with fail;refine (an2 H.out).mono ?_;rintro e w' ⟨rfl,rfl⟩;go_wp2_with fail;go_loopw [1,10] (fun v i u=>CrashRel w d S M n safe wn well ps cap v i u) (fun _ i _=>n - (intOf i).toNat)
 case atStart=>exact K.out
 case round=>
  clear K H;obtain ⟨k,A',cap',hk,rfl,rfl,hl',hc',hP,hA,hD,hT⟩:=hrel;have cM:wr.cell? (Aa d 1)=some (.map (some M)):=hD.head.at_ 1;have c0:wr.cell? (Aa d 0)=Xp S n n:=hD.head.at_ 0;have hlt0:=hD.head.lt;by_cases hkn:k<n
  ·have hl:=hD.map.look_ok (t:=149) (e:=218) kr kr (as7 wr) (i:=(k:Int)) (ci6 G G)
   cases hw:wn k with
   |none=>
    simp only [hw,Option.map_none,Option.getD_none,Option.isSome_none,cb1] at hl;have hl0:(List.replicate 48 (0:UInt8)).length=48:=sn;generalize List.replicate 48 (0:UInt8)=s0 at*;have Z:=H7 hl' hc' hP hA hD hT hw;clear hl' hc' hP hA hD hT hw;go_wp2_with (first
     |(refine wpList_store_mid (P:=prog) rfl 218 (.tmp 5) (.tmp 20) rfl _ 0 (sec s0).toArray rfl rfl (aj9 _ _ hl0) (secInfo' hl0) (all_oneCell_toArray (ai7 s0)) ?_
       obtain ⟨hN,hX,-⟩:=ak6 wr 218 hl0;dsimp only [z48] at hN hX;rw [List.toList_toArray];generalize (World.setCells (wr.alloc _) wr.heap.size 0 (sec s0))=w2 at*;have X:=H2 hN hX;clear hN hX))
    go_roundw
    case rel=>
     obtain ⟨hl',hc',hP,hA,hD,hT,hw⟩:=Z.out;have hN:=X.out.1;refine ⟨k+1,A',cap',G,by go_num,by rw [cu3 hw],by rw [cu3 hw]; exact hl',hc',by rw [cu3 hw]; exact hP.held hN,hA,by rw [dj6 hw]; exact hD.held hN,hT.and_below hN⟩
    case measure=>simp [intOf]; omega
   |some s=>
    have hs:=(hD.wlen _ _ hw).2.2;have hsk:=hD.len k hkn;rw [cj6] at hsk;simp only [hw,Option.map_some,Option.getD_some,Option.isSome_some] at hl;by_cases hb:unsafeBelow wn k<ps.length
    ·obtain ⟨⟨how,at_,turn⟩,hp⟩:∃ p,ps[unsafeBelow wn k]?=some p:=⟨_,List.getElem?_eq_getElem hb⟩
     have E:Hid (crashed safe wn ps k=picked how at_ turn (safe k) s):=Zq (by unfold crashed; rw [hw,hp]);have hrest:ps.drop (unsafeBelow wn k)=(how,at_,turn)::ps.drop (unsafeBelow wn k+1):=by
      rw [List.drop_eq_getElem_cons hb];congr 1;rw [List.getElem?_eq_getElem hb] at hp;exact Option.some.inj hp
     rw [hrest] at hP;obtain ⟨ht,ad,rfl,p0,p1,p2⟩:=hP 0 _ rfl;simp only [Nat.zero_mul,Nat.zero_add] at p0 p1 p2;have hPt:=hP.tail;have had:=hA.resolve_left (fun e=>by rw [e] at hb; simp at hb) ad rfl;have Z:=H7 hl' hc' hPt hA hD hT hw;have m1:ps.length - unsafeBelow wn k<=cap':=hl';have m2:1<=ps.length - unsafeBelow wn k:=G
     have m3:cap'<=9223372036854775807:=G
     have m4:ps.length - unsafeBelow wn k - 1=ps.length - (unsafeBelow wn k+1):=G
     have PP:=H3 p0 p1 p2;clear hl' hc' hP hA hD hT hw hp hrest p0 p1 p2 hPt;generalize ps.length - unsafeBelow wn k=m at*;have M4:=Zq m4;clear m4;obtain ⟨A2,hA2⟩:∃ A2,A2=(if cap'=1 then some ad else some (ad.add 3)):=⟨_,rfl⟩;have hrunS:=fun u=>dn5 u ad m2 hA2
     have HA2:=Zq hA2;clear hA2;go_wp2_with (first
      |(refine wpList_store_mid (P:=prog) rfl 218 (.tmp 5) (.tmp 20) rfl _ 0 (sec s).toArray rfl rfl (aj9 _ _ hs) (secInfo' hs) (all_oneCell_toArray (ai7 s)) ?_
        obtain ⟨hN,hX,-⟩:=ak6 wr 218 hs;dsimp only [z48] at hN hX;rw [List.toList_toArray];generalize (World.setCells (wr.alloc _) wr.heap.size 0 (sec s))=w2 at*;have X:=H2 hN hX;clear hN hX))
     obtain ⟨hN3,hB3⟩:=nw w2 176 #[I 0,I 0,U 0];generalize w2.alloc _=w3 at*;obtain ⟨p0,p1,p2⟩:=PP.out;replace p0:=held hN3 (held X.out.1 p0);replace p1:=held hN3 (held X.out.1 p1);replace p2:=held hN3 (held X.out.1 p2);have gne:ad.block≠w2.heap.size:=by
      have h1:=aw8 (PP.out.1);rw [add_block] at h1;have h2:=X.out.1.size;omega
     have Y:=H2 hN3 hB3;have B4:=hB3.three (I how) (I at_) (U turn);have T4:Turn [w2.heap.size] w3.drew (((w3.setCell (Aa w2.heap.size 0) (I how)).setCell (Aa w2.heap.size 1) (I at_)).setCell (Aa w2.heap.size 2) (U turn)).drew:=
      ((Turn.setCell _ sn _).trans (Turn.setCell _ sn _)).trans (Turn.setCell _ sn _)
     refine wp_region_held_drew (S:=fun w'=>w'.cell? ad=some (I how)/\w'.cell? (ad.add 1)=some (I at_)/\w'.cell? (ad.add 2)=some (U turn)) kr ⟨p0,p1,p2⟩ (fun hHeld=>?_);have e1:∀ f,ad.add (f+1)=⟨ad.block,ad.off+(f+1),none⟩:=fun f=>by unfold Addr.add; simp
     refine tk 0 (.slice (some ad) m cap') rfl hHeld ?_;go_frame;refine tk 1 (.pointer (some ad)) rfl hHeld ?_;go_frame;refine aa6 (i:=2) (v:= .agg #[I how,I at_,U turn]) rfl kr kr kr (fun _ _ _ h=>h) (.inl ⟨rfl,?_⟩) hHeld ?_
     ·(intro w hSw; rw [e1 0,e1 1] at hSw; go_simp)
     go_frame;refine tk 3 (.slice (some ad) m cap') rfl hHeld ?_;go_frame;refine tk 4 (.slice A2 (m - 1) (cap' - 1)) rfl hHeld ?_;go_frame;have g0:w3.cell? (Aa w2.heap.size 0)=some (I 0):=hB3.at_ 0;have g1:w3.cell? (Aa w2.heap.size 1)=some (I 0):=hB3.at_ 1;have g2:w3.cell? (Aa w2.heap.size 2)=some (U 0):=hB3.at_ 2;have f0:=hB3.free 0;have f1:=hB3.free 1;have f2:=hB3.free 2;refine rl 5 rfl fun K hK=>?_
     go_simp;refine hK.out _ _ ⟨T4.cell p0 (by simpa using gne),T4.cell p1 (by rw [add_block]; simpa using gne),T4.cell p2 (by rw [add_block]; simpa using gne)⟩ (fun hHeld=>?_);clear hK K;refine tk 6 (.slice A2 (m - 1) (cap' - 1)) rfl hHeld ?_;go_frame;refine wpAnyH_done kr ?_ _;have hN4:Below w2.heap.size w2 (((w3.setCell (Aa w2.heap.size 0) (I how)).setCell (Aa w2.heap.size 1) (I at_)).setCell (Aa w2.heap.size 2) (U turn)).drew:=hN3.drew.trans (T4.below sn hN3.size);clear hHeld hN3 hB3 p0 p1 p2 g0 g1 g2 f0 f1 f2 Y T4 e1 hrunS;generalize (((w3.setCell (Aa w2.heap.size 0) (I how)).setCell (Aa w2.heap.size 1) (I at_)).setCell (Aa w2.heap.size 2) (U turn)).drew=w4 at*;go_wp2_with fail;have hNN:=next (X.out.1) hN4;have hD3:=Z.out.2.2.2.2.1.held hNN;have hX3:=X.out.2.held hN4;have hXl:=bs2 (how:=how) (at_:=at_) (turn:=turn) hsk hs;have q0:w4.cell? (Aa d 0)=Xp S n n:=hD3.head.at_ 0;have q1:w4.cell? (Aa w2.heap.size 0)=some (I how):=B4.at_ 0;have q2:w4.cell? (Aa w2.heap.size 1)=some (I at_):=B4.at_ 1;have q3:w4.cell? (Aa w2.heap.size 2)=some (U turn):=B4.at_ 2;have q4:w4.drew.rangeAt wr.heap.size 0 (sec s):=hX3.range_all;have q5:w4.drew.there S (k*48) (sec (picked how at_ turn (safe k) s)).length:=by rw [aa8,hXl]; exact hD3.there hkn
     have q6:w4.drew.rangeAt S (k*48) (sec (safe k)):=by
      have h:=hD3.range hkn;rw [cj6] at h;exact h
     have hu:=ai6;have hi:=secInfo hs;have hi2:=secInfo hsk;have hi3:=secInfo hXl;have ho:=ai7 (picked how at_ turn (safe k) s);have Y:=H4 hNN hD3 hX3 B4;clear hNN hD3 hX3 B4 hN4 cM c0;refine wp_region_held_drew (S:=fun w'=>w'.cell? (Aa d 0)=Xp S n n/\w'.cell? (Aa w2.heap.size 0)=some (I how)/\w'.cell? (Aa w2.heap.size 1)=some (I at_)/\w'.cell? (Aa w2.heap.size 2)=some (U turn)/\w'.rangeAt wr.heap.size 0 (sec s)) kr ⟨q0,q1,q2,q3,q4⟩ (fun hHeld=>?_);refine aa6 (i:=0) (v:= Pt d) rfl kr kr kr (fun _ _ _ h=>h) (.inl ⟨rfl,?_⟩) hHeld ?_
     ·(intro w hSw; (try dsimp only at hSw); go_simp)
     go_frame;refine aa6 (i:=1) (v:= Pt d) rfl kr kr kr (fun _ _ _ h=>h) (.inl ⟨rfl,?_⟩) hHeld ?_
     ·(intro w hSw; (try dsimp only at hSw); go_simp)
     go_frame;refine aa6 (i:=2) (v:= Pt d) rfl kr kr kr (fun _ _ _ h=>h) (.inl ⟨rfl,?_⟩) hHeld ?_
     ·(intro w hSw; (try dsimp only at hSw); go_simp)
     go_frame;refine aa6 (i:=3) (v:= Lt S n n) rfl kr kr kr (fun _ _ _ h=>h) (.inl ⟨rfl,?_⟩) hHeld ?_
     ·(intro w hSw; (try dsimp only at hSw); go_simp)
     go_frame;refine aa6 (i:=4) (v:= I k) rfl kr kr kr (fun _ _ _ h=>h) (.inl ⟨rfl,?_⟩) hHeld ?_
     ·(intro w hSw; (try dsimp only at hSw); go_simp)
     go_frame;refine aa6 (i:=5) (v:= .agg #[I how,I at_,U turn]) rfl kr kr kr (fun _ _ _ h=>h) (.inl ⟨rfl,?_⟩) hHeld ?_
     ·(intro w hSw; (try dsimp only at hSw); go_simp)
     go_frame;refine aa6 (i:=6) (v:= Pt d) rfl kr kr kr (fun _ _ _ h=>h) (.inl ⟨rfl,?_⟩) hHeld ?_
     ·(intro w hSw; (try dsimp only at hSw); go_simp)
     go_frame;refine aa6 (i:=7) (v:= Pt d) rfl kr kr kr (fun _ _ _ h=>h) (.inl ⟨rfl,?_⟩) hHeld ?_
     ·(intro w hSw; (try dsimp only at hSw); go_simp)
     go_frame;refine aa6 (i:=8) (v:= Pt d) rfl kr kr kr (fun _ _ _ h=>h) (.inl ⟨rfl,?_⟩) hHeld ?_
     ·(intro w hSw; (try dsimp only at hSw); go_simp)
     go_frame;refine aa6 (i:=9) (v:= Lt S n n) rfl kr kr kr (fun _ _ _ h=>h) (.inl ⟨rfl,?_⟩) hHeld ?_
     ·(intro w hSw; (try dsimp only at hSw); go_simp)
     go_frame;refine aa6 (i:=10) (v:= I k) rfl kr kr kr (fun _ _ _ h=>h) (.inl ⟨rfl,?_⟩) hHeld ?_
     ·(intro w hSw; (try dsimp only at hSw); go_simp)
     go_frame;refine aa6 (i:=11) (v:= Qt S (k*48)) rfl kr kr kr (fun _ _ _ h=>h) (.inl ⟨rfl,?_⟩) hHeld ?_
     ·(intro w hSw; (try dsimp only at hSw); go_simp)
     go_frame;refine aa6 (i:=13) (v:= .agg (sec s).toArray) rfl kr kr kr (fun _ _ _ h=>h) (yieldsIf_load_mid rfl _ _ rfl _ _ rfl (sec s) _ (fun _ h=>h.2.2.2.2) ai6 rfl (secInfo hs)) hHeld ?_;go_frame;refine rl 12 rfl fun K hK=>?_
     rw [if_pos (by rfl)];refine wp_load_mid _ _ rfl _ _ rfl (sec (safe k)) _ q6 ai6 rfl (secInfo hsk) ?_;go_frame;refine hK.out _ _ hHeld (fun hHeld=>?_);clear hK K;refine rl 14 rfl fun K hK=>?_
     go_simp;refine (cx3 _ how at_ turn ht (safe k) s hsk hs).mono ?_;rintro e w5 ⟨rfl,hb5⟩;have hD5:=(show Dk w4.drew d S M n _ wn well from Y.out.2.1.drew).held hb5;have hX5:=(show Blk _ w4.drew _ _ from Y.out.2.2.1).held hb5;have hB5:=(show Blk _ w4.drew _ _ from Y.out.2.2.2).held hb5;have hD6:=hD5.row hkn hXl;have hT6:Turn [S] w5 (w5.setCells S (k*48) (sec (picked how at_ turn (safe k) s))):=Turn.setCells w5 sn _ _;have hB6:=hB5.turn hT6 (by have:=Z.out.2.2.2.2.1.ltS; have:=X.out.1.size; simp; omega);have hX6:=hX5.turn hT6 (by have:=Z.out.2.2.2.2.1.ltS; simp; omega);refine hK.out _ _ ⟨hD5.head.at_ 0,hB5.at_ 0,hB5.at_ 1,hB5.at_ 2,hX5.range_all⟩ (fun hHeld=>?_);clear hK K;refine aa6 (i:=15) (v:= Qt S (k*48)) rfl kr kr kr (fun _ _ _ h=>h) (.inl ⟨rfl,?_⟩) hHeld ?_
     ·(intro w hSw; (try dsimp only at hSw); go_simp)
     go_frame;refine rl 16 rfl fun K hK=>?_
     rw [if_pos (by rfl)];refine wp_store_mid _ _ _ rfl _ _ (sec (picked how at_ turn (safe k) s)).toArray rfl rfl (by rw [List.size_toArray,aa8,hXl]; exact hD5.there hkn) (secInfo' hXl) (all_oneCell_toArray (ai7 _)) ?_;rw [List.toList_toArray];refine hK.out _ _ ⟨hD6.head.at_ 0,hB6.at_ 0,hB6.at_ 1,hB6.at_ 2,hX6.range_all⟩ (fun hHeld=>?_);clear hK K;refine wpAnyH_done kr ?_ _;go_frame;have V:=H3 hb5 hD6 hT6;clear hD5 hX5 hB5 hD6 hT6 hB6 hX6 hHeld hb5;go_wp2_with fail;go_roundw
     case rel=>
      obtain ⟨hl',hc',hP,hA,hD,hT,hw⟩:=Z.out;obtain ⟨hb5,hD6,hT6⟩:=V.out;have A2x:=HA2.out;have hl2:(ps.drop (unsafeBelow wn k+1)).length<=cap' - 1:=by
       rw [List.length_drop];have:=M4.out;omega
      have hTall2:Turn [d,S,M] wr (w5.setCells S (k*48) (sec (picked how at_ turn (safe k) s))):=(((Turn.of_below _ Y.out.1).drew).and_below hb5).trans (hT6.mono sn);have hTall:Turn [d,S,M] w (w5.setCells S (k*48) (sec (picked how at_ turn (safe k) s))):=((hT.and_below Y.out.1).drew.and_below hb5).trans (hT6.mono sn);refine ⟨k+1,A2,cap' - 1,G,by go_num,by rw [bg6 hw]; rw [M4.out],by rw [bg6 hw]; have:=M4.out; omega,G,?_,?_,by rw [cs5,E.out]; exact hD6,hTall⟩
      ·rw [bg6 hw,A2x]; exact dm3 (hP.turn hTall2 (fun a e=>by cases e; rw [add_block]; exact had)) hl2
      ·exact .inr (dq9 A2x had)
     case measure=>simp [intOf]; omega
    ·have E:Hid (crashed safe wn ps k=picked 0 0 0 (safe k) s):=Zq (by unfold crashed; rw [hw,List.getElem?_eq_none G]; rfl)
     have Z:=H7 hl' hc' hP hA hD hT hw;have e0:ps.length - unsafeBelow wn k=0:=G
     simp only [e0];clear hl' hc' hP hA hD hT hw;go_wp2_with (first
      |(refine wpList_store_mid (P:=prog) rfl 218 (.tmp 5) (.tmp 20) rfl _ 0 (sec s).toArray rfl rfl (aj9 _ _ hs) (secInfo' hs) (all_oneCell_toArray (ai7 s)) ?_
        obtain ⟨hN,hX,-⟩:=ak6 wr 218 hs;dsimp only [z48] at hN hX;rw [List.toList_toArray];generalize (World.setCells (wr.alloc _) wr.heap.size 0 (sec s))=w2 at*;have X:=H2 hN hX;clear hN hX))
     obtain ⟨hN3,hB3⟩:=nw w2 176 #[I 0,I 0,U 0];generalize w2.alloc _=w3 at*;have hNN:=next (X.out.1) hN3;have hD3:=Z.out.2.2.2.2.1.held hNN;have hX3:=X.out.2.held hN3;have hXl:=bs2 (how:=0) (at_:=0) (turn:=0) hsk hs;have q0:w3.cell? (Aa d 0)=Xp S n n:=hD3.head.at_ 0;have q1:w3.cell? (Aa w2.heap.size 0)=some (I 0):=hB3.at_ 0;have q2:w3.cell? (Aa w2.heap.size 1)=some (I 0):=hB3.at_ 1;have q3:w3.cell? (Aa w2.heap.size 2)=some (U 0):=hB3.at_ 2;have q4:w3.drew.rangeAt wr.heap.size 0 (sec s):=hX3.range_all;have q5:w3.drew.there S (k*48) (sec (picked 0 0 0 (safe k) s)).length:=by rw [aa8,hXl]; exact hD3.there hkn
     have q6:w3.drew.rangeAt S (k*48) (sec (safe k)):=by
      have h:=hD3.range hkn;rw [cj6] at h;exact h
     have hu:=ai6;have hi:=secInfo hs;have hi2:=secInfo hsk;have hi3:=secInfo hXl;have ho:=ai7 (picked 0 0 0 (safe k) s);have Y:=H4 hNN hD3 hX3 hB3;clear hNN hD3 hX3 hB3 hN3 cM c0;refine wp_region_held_drew (S:=fun w'=>w'.cell? (Aa d 0)=Xp S n n/\w'.cell? (Aa w2.heap.size 0)=some (I 0)/\w'.cell? (Aa w2.heap.size 1)=some (I 0)/\w'.cell? (Aa w2.heap.size 2)=some (U 0)/\w'.rangeAt wr.heap.size 0 (sec s)) kr ⟨q0,q1,q2,q3,q4⟩ (fun hHeld=>?_);refine aa6 (i:=0) (v:= Pt d) rfl kr kr kr (fun _ _ _ h=>h) (.inl ⟨rfl,?_⟩) hHeld ?_
     ·(intro w hSw; (try dsimp only at hSw); go_simp)
     go_frame;refine aa6 (i:=1) (v:= Pt d) rfl kr kr kr (fun _ _ _ h=>h) (.inl ⟨rfl,?_⟩) hHeld ?_
     ·(intro w hSw; (try dsimp only at hSw); go_simp)
     go_frame;refine aa6 (i:=2) (v:= Pt d) rfl kr kr kr (fun _ _ _ h=>h) (.inl ⟨rfl,?_⟩) hHeld ?_
     ·(intro w hSw; (try dsimp only at hSw); go_simp)
     go_frame;refine aa6 (i:=3) (v:= Lt S n n) rfl kr kr kr (fun _ _ _ h=>h) (.inl ⟨rfl,?_⟩) hHeld ?_
     ·(intro w hSw; (try dsimp only at hSw); go_simp)
     go_frame;refine aa6 (i:=4) (v:= I k) rfl kr kr kr (fun _ _ _ h=>h) (.inl ⟨rfl,?_⟩) hHeld ?_
     ·(intro w hSw; (try dsimp only at hSw); go_simp)
     go_frame;refine aa6 (i:=5) (v:= .agg #[I 0,I 0,U 0]) rfl kr kr kr (fun _ _ _ h=>h) (.inl ⟨rfl,?_⟩) hHeld ?_
     ·(intro w hSw; (try dsimp only at hSw); go_simp)
     go_frame;refine aa6 (i:=6) (v:= Pt d) rfl kr kr kr (fun _ _ _ h=>h) (.inl ⟨rfl,?_⟩) hHeld ?_
     ·(intro w hSw; (try dsimp only at hSw); go_simp)
     go_frame;refine aa6 (i:=7) (v:= Pt d) rfl kr kr kr (fun _ _ _ h=>h) (.inl ⟨rfl,?_⟩) hHeld ?_
     ·(intro w hSw; (try dsimp only at hSw); go_simp)
     go_frame;refine aa6 (i:=8) (v:= Pt d) rfl kr kr kr (fun _ _ _ h=>h) (.inl ⟨rfl,?_⟩) hHeld ?_
     ·(intro w hSw; (try dsimp only at hSw); go_simp)
     go_frame;refine aa6 (i:=9) (v:= Lt S n n) rfl kr kr kr (fun _ _ _ h=>h) (.inl ⟨rfl,?_⟩) hHeld ?_
     ·(intro w hSw; (try dsimp only at hSw); go_simp)
     go_frame;refine aa6 (i:=10) (v:= I k) rfl kr kr kr (fun _ _ _ h=>h) (.inl ⟨rfl,?_⟩) hHeld ?_
     ·(intro w hSw; (try dsimp only at hSw); go_simp)
     go_frame;refine aa6 (i:=11) (v:= Qt S (k*48)) rfl kr kr kr (fun _ _ _ h=>h) (.inl ⟨rfl,?_⟩) hHeld ?_
     ·(intro w hSw; (try dsimp only at hSw); go_simp)
     go_frame;refine aa6 (i:=13) (v:= .agg (sec s).toArray) rfl kr kr kr (fun _ _ _ h=>h) (yieldsIf_load_mid rfl _ _ rfl _ _ rfl (sec s) _ (fun _ h=>h.2.2.2.2) ai6 rfl (secInfo hs)) hHeld ?_;go_frame;refine rl 12 rfl fun K hK=>?_
     rw [if_pos (by rfl)];refine wp_load_mid _ _ rfl _ _ rfl (sec (safe k)) _ q6 ai6 rfl (secInfo hsk) ?_;go_frame;refine hK.out _ _ hHeld (fun hHeld=>?_);clear hK K;refine rl 14 rfl fun K hK=>?_
     go_simp;refine (cx3 _ 0 0 0 G (safe k) s hsk hs).mono ?_;rintro e w5 ⟨rfl,hb5⟩;have hD5:=(show Dk w3.drew d S M n _ wn well from Y.out.2.1.drew).held hb5;have hX5:=(show Blk _ w3.drew _ _ from Y.out.2.2.1).held hb5;have hB5:=(show Blk _ w3.drew _ _ from Y.out.2.2.2).held hb5;have hD6:=hD5.row hkn hXl;have hT6:Turn [S] w5 (w5.setCells S (k*48) (sec (picked 0 0 0 (safe k) s))):=Turn.setCells w5 sn _ _;have hB6:=hB5.turn hT6 (by have:=Z.out.2.2.2.2.1.ltS; have:=X.out.1.size; simp; omega);have hX6:=hX5.turn hT6 (by have:=Z.out.2.2.2.2.1.ltS; simp; omega);refine hK.out _ _ ⟨hD5.head.at_ 0,hB5.at_ 0,hB5.at_ 1,hB5.at_ 2,hX5.range_all⟩ (fun hHeld=>?_);clear hK K;refine aa6 (i:=15) (v:= Qt S (k*48)) rfl kr kr kr (fun _ _ _ h=>h) (.inl ⟨rfl,?_⟩) hHeld ?_
     ·(intro w hSw; (try dsimp only at hSw); go_simp)
     go_frame;refine rl 16 rfl fun K hK=>?_
     rw [if_pos (by rfl)];refine wp_store_mid _ _ _ rfl _ _ (sec (picked 0 0 0 (safe k) s)).toArray rfl rfl (by rw [List.size_toArray,aa8,hXl]; exact hD5.there hkn) (secInfo' hXl) (all_oneCell_toArray (ai7 _)) ?_;rw [List.toList_toArray];refine hK.out _ _ ⟨hD6.head.at_ 0,hB6.at_ 0,hB6.at_ 1,hB6.at_ 2,hX6.range_all⟩ (fun hHeld=>?_);clear hK K;refine wpAnyH_done kr ?_ _;go_frame;have V:=H3 hb5 hD6 hT6;clear hD5 hX5 hB5 hD6 hT6 hB6 hX6 hHeld hb5;go_wp2_with fail;go_roundw
     case rel=>
      obtain ⟨hl',hc',hP,hA,hD,hT,hw⟩:=Z.out;obtain ⟨hb5,hD6,hT6⟩:=V.out;have hnil:ps.drop (unsafeBelow wn k+1)=[]:=List.drop_eq_nil_of_le G;have hTall:Turn [d,S,M] w (w5.setCells S (k*48) (sec (picked 0 0 0 (safe k) s))):=((hT.and_below Y.out.1).drew.and_below hb5).trans (hT6.mono sn);refine ⟨k+1,A',cap',G,by go_num,by rw [bg6 hw]; rw [show ps.length - (unsafeBelow wn k+1)=0 by omega],by rw [bg6 hw]; omega,G,?_,?_,by rw [cs5,E.out]; exact hD6,hTall⟩
      ·rw [bg6 hw,hnil]; exact PicksAt.nil
      ·exact hA
     case measure=>simp [intOf]; omega
  ·obtain rfl:k=n:=G
   obtain ⟨w4,hcl,hM4,hg4,-⟩:=hD.map.clear (t:=149) (e:=218) kr 0;have hH4:Blk _ w4 d _:=(hg4.block d hD.head.lt (by simpa using hD.dM)).trans hD.head;have d2:w4.cell? (Aa d 2)=some (I well):=hH4.at_ 2;have f2:w4.frozen? (Aa d 2)=false:=hH4.free 2;have Z:=H5 hD hT hM4 hg4 hH4;clear hl' hc' hP hA hD hT hM4 hg4 hH4;go_wp2_with fail;go_end0;obtain ⟨hD,hT,hM4,hg4,hH4⟩:=Z.out;obtain ⟨C,h1,h2,h3⟩:=hD.rows;have hS4:w4.heap[S]?=wr.heap[S]?:=hg4.block S hD.ltS (by simpa using hD.SM);refine ⟨rfl,⟨hH4.store 2 (I (-1)),⟨C,?_,h2,fun i hi j v hv=>h3 i hi j v ?_⟩,hM4.of_block (Below.heap_setCell _ _ _ _ hD.dM.symm),fun i hi=>?_,fun z s hz=>(by cases hz),hD.n1,hD.n2,G,G⟩,(hT.trans (.of_grown hg4 sn)).trans (Turn.setCell _ sn _)⟩
   ·exact (Below.heap_setCell _ _ _ _ hD.dS.symm).trans (hS4.trans h1)
   ·unfold crashing; rw [if_pos hi]; exact hv
   ·have:=hD.len i hi
    unfold crashing at this; rw [if_pos hi] at this; exact this
end
end
end Go.Proofs.YtafkfnodcemefaaGreat.Cr
