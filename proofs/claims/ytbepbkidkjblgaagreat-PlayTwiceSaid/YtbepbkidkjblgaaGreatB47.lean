import Derived.Test.YtbepbkidkjblgaaGreatB44
import Derived.Test.YtbepbkidkjblgaaGreatB33
set_option maxHeartbeats 8000000
set_option maxRecDepth 100000
namespace Go.Proofs.YtbepbkidkjblgaaGreat
open _root_.Go.Proofs.Tryz (prog)
section
open Go.RowKit Go.Maps Rm Fm Sb
attribute [local go_sem] Oper.semAt_some
theorem head15 (w:World):Calls prog 5 #[] w fun e w'=>e= .returned (.bool true)/\Below w.heap.size w w':=by
 have LB:=Blk.new w 44 hdCells;have hb:=aa0 w (.cells hdCells 44);have HE:=an4 LB;unfold hdCells at hb HE;clear LB;go_enter Tryz.func5,Tryz.ntmps5;go_upto_region 2 with (go_at_call 8; refine HE.mono ?_; rintro x w2 ⟨N,g,c,rfl,q1,q2,⟨p,HR0⟩,HR1,hb2⟩);have hB:=Lib.hid (next hb hb2);clear HE hb hb2;go_wp2_with (first|(go_at_call 13; first|(refine HR0.mono ?_; rintro x w3 ⟨rfl,rfl⟩; clear HR0)|(refine HR1.mono ?_; rintro x w3 ⟨rfl,rfl⟩; clear HR1))|fail);go_ret;exact ⟨rfl,hB.out⟩
end
end Go.Proofs.YtbepbkidkjblgaaGreat
namespace Go.Proofs.YtbepbkidkjblgaaGreat.Sp
open _root_.Go.Proofs.Tryz (prog)
section
open Go.RowKit Go.Maps Sc
def isFew (es:List Ev):Prop:=es.length<=150/\∀ e∈es,e.p.length<=400
theorem few_any {A:Option Addr} {n cap:Nat} {es:List Ev} {w:World} (h:El w A n cap es):
  Calls prog 11 #[.slice A n cap] w fun x w'=>∃ b,x= .returned (.bool b)/\(b=true->isFew es)/\Below w.heap.size w w':=by
 have hn:=h.len;have hmx:=h.max;have hmx':n<=9223372036854775807:=by unfold maxLen at hmx; omega
 have H:=Lib.hid h;clear h hmx;go_enter Tryz.func11,Tryz.ntmps11;go_wp2_with fail;go_loopw [7] (fun v wr=>∃ k:Nat,v= .int .i64 (k:Nat)/\k<=n/\Hid ((∀ (j:Nat) (hj:j<es.length),j<k->es[j].p.length<=400)/\Below w.heap.size w wr)) (fun v _=>n - (intOf v).toNat)
 case atStart=>exact ⟨0,rfl,Nat.zero_le _,Lib.hid ⟨fun j hj h=>absurd h (by omega),.refl _ _⟩⟩
 case round=>
  obtain ⟨k,rfl,hkn,R⟩:=hrel;by_cases hlt:k<n
  ·have d1:decide ((k:Int)<(n:Int))=true:=decide_eq_true (by omega)
   have hk:k<es.length:=by omega
   obtain ⟨e,he⟩:∃ e,es[k]=e:=⟨_,rfl⟩;obtain ⟨b,off,rfl⟩:=H.out.plain (by omega);obtain ⟨c0,c1,c2,c3,c4,c5,c6⟩:=(H.out.held R.out.2).at_ hk he;have hsz:(⟨e.p.toArray⟩:ByteArray).size=e.p.length:=ba0 _;have EH:=H3 hk he hsz;have i1:(k:Int)<(n:Int):=by omega
   clear he hsz;generalize e.kind=y0 at*;generalize e.i=y1 at*;generalize e.k=y2 at*;generalize e.n=y3 at*;generalize e.a=y4 at*;generalize e.len=y5 at*;generalize (⟨e.p.toArray⟩:ByteArray)=s at*;have R2:=Lib.hid (R.out.2.trans ((aa0 wr (.cells #[.int .i64 y0,.int .i64 y1,.int .i64 y2,.int .i64 y3,.int .u32 (y4:Nat),.int .i64 y5,.string s] 44)).mono R.out.2.size))
   cases hl:decide ((400:Int)<(s.size:Int)) with
   |true=>
    go_wp2_with fail;go_ret;exact ⟨false,rfl,(fun h=>by cases h),R2.out⟩
   |false=>
    have hl2:=of_decide_eq_false hl;have R3:=Lib.hid (And.intro (show ∀ (j:Nat) (hj:j<es.length),j<k+1->es[j].p.length<=400 from fun j hj hjk=>by
     by_cases e1:j=k
     ·subst e1; rw [EH.out.2.1,<- EH.out.2.2]; omega
     ·exact R.out.1 j hj (by omega)) R2.out)
    clear hl2;go_wp2_with fail;go_roundw
    case rel=>exact ⟨k+1,by go_num,by omega,R3⟩
    case measure=>simp [intOf]; omega
  ·obtain rfl:k=n:=by omega
   have d1:decide ((k:Int)<(k:Int))=false:=decide_eq_false (by omega)
   cases hl:decide ((k:Int)<=150) with
   |true=>
    go_wp2_with fail;go_ret;refine ⟨true,rfl,fun _=>⟨by have:=of_decide_eq_true hl; omega,fun x hx=>?_⟩,R.out.2⟩;obtain ⟨j,hj,rfl⟩:=List.getElem_of_mem hx;exact R.out.1 j hj (by omega)
   |false=>
    go_wp2_with fail;go_ret;exact ⟨false,rfl,(fun h=>by cases h),R.out.2⟩
end
end Go.Proofs.YtbepbkidkjblgaaGreat.Sp
namespace Go.Proofs.YtbepbkidkjblgaaGreat
open _root_.Go.Proofs.Tryz (prog)
section
open Go.RowKit Go.Maps Rm Fm Sb
attribute [local go_sem] Oper.semAt_some
theorem al9 (a b c:Int) {A:Option Addr} {L cap:Nat} {es:List Sc.Ev} {w:World} (hE:Sp.El w A L cap es):
  Calls prog 4 #[.int .i64 a,.int .i64 b,.slice A L cap,.int .i64 c] w fun e w'=>e= .returned (.bool true)/\Below w.heap.size w w':=by
 obtain ⟨x0,hx0,m1⟩:=dh5 a 7 (by omega);obtain ⟨y0,hy0,m2⟩:=dh5 b 255 (by omega);replace m1:bits .and .i64 a 7=(x0:Int):=m1;replace m2:bits .and .i64 b 255=(y0:Int):=m2;obtain ⟨n,hnn⟩:∃ n:Nat,1+(x0:Int)=(n:Int):=⟨1+x0,by omega⟩;obtain ⟨sec,hss⟩:∃ s:Nat,4+(y0:Int)=(s:Int):=⟨4+y0,by omega⟩;have k1:wrap64 (1+(x0:Int))=(n:Int):=by rw [hnn]; exact IntWalk.wrap64_in _ (by omega)
 have k2:wrap64 (4+(y0:Int))=(sec:Int):=by rw [hss]; exact IntWalk.wrap64_in _ (by omega)
 have hn1:1<=n:=by omega
 have hn8:n<=8:=by omega
 have hs1:1<=sec:=by omega
 have hs2:sec<=512:=by omega
 have HH:=head15 w;have hl:=hE.len;have hmx:L<=9223372036854775807:=by have:=hE.max; unfold maxLen at this; omega
 have X:=H6 hE hn1 hn8 hs1 hs2 hl;clear hE hn1 hn8 hs1 hs2 hl hnn hss hx0 hy0;go_enter Tryz.func4,Tryz.ntmps4;go_upto_region 3 with (go_at_call 5; refine HH.mono ?_; rintro e w1 ⟨rfl,hb1⟩);have HF:=Sp.few_any (X.out.1.held hb1);have hB1:=Lib.hid hb1;clear HH hb1;go_upto_if 21 with (go_at_call 11; refine HF.mono ?_; rintro e w2 ⟨q,rfl,hq,hb2⟩);have hB2:=Lib.hid (next hB1.out hb2)
 cases q with
 |false=>
  clear HF hq hb2 m1 m2 k1 k2;go_wp2_with fail;go_ret;exact ⟨rfl,hB2.out⟩
 |true=>
  have FEW:=Lib.hid (hq rfl);have hL:=(hq rfl).1;rw [X.out.2.2.2.2.2] at hL;have e1:wrap64 ((L:Int)+1)=((L+1:Nat):Int):=by rw [show ((L+1:Nat):Int)=(L:Int)+1 by omega]; exact IntWalk.wrap64_in _ (by omega)
  clear HF hq hb2;go_upto_region 8 with fail;obtain ⟨k,hkL,hk⟩:∃ k:Nat,k<=L/\wrap64 ((IntKind.u64.wrap c).tmod ((L:Int)+1))=(k:Int):=by
   obtain ⟨U,hU⟩:∃ U:Nat,IntKind.u64.wrap c=(U:Int):=by
    refine ⟨(IntKind.u64.wrap c).toNat,?_⟩;have h0:0<=IntKind.u64.wrap c:=by
     simp only [IntKind.wrap,IntKind.bits,IntKind.signed];simp;omega
    omega
   have hr:=Nat.mod_lt U (Nat.succ_pos L);have hc:((U % (L+1):Nat):Int)=(U:Int) % ((L:Int)+1):=Int.natCast_emod U (L+1);generalize U % (L+1)=r at*;refine ⟨r,by omega,?_⟩;rw [hU,Int.tmod_eq_emod_of_nonneg (by omega),<- hc];exact IntWalk.wrap64_in _ (by omega)
  rw [k1,k2,hk];have hd:8*es.length<1000000:=by have:=FEW.out.1; omega
  have HE1:=ae3 (X.out.1.held hB2.out) (by omega) X.out.2.1 X.out.2.2.1 X.out.2.2.2.1 X.out.2.2.2.2.1 (by have:=FEW.out.1; omega) hd (fun e he=>(X.out.1.good e he).fits.a);have HK:=H2 hkL hk;clear m1 m2 k1 k2 hk e1 hd;go_upto_region 9 with (go_at_call 8; refine HE1.mono ?_; rintro e w3 ⟨N1,va,rfl,g1⟩);have hB3:=Lib.hid (next hB2.out g1.below);have HE2:=ae3 (X.out.1.held hB3.out) (by omega) X.out.2.1 X.out.2.2.1 X.out.2.2.2.1 X.out.2.2.2.2.1 (by have:=FEW.out.1; omega) (by have:=FEW.out.1; omega) (fun e he=>(X.out.1.good e he).fits.a);have G1:=Lib.hid g1;clear HE1 g1;go_upto_region 10 with (go_at_call 8; refine HE2.mono ?_; rintro e w4 ⟨N2,vb,rfl,g2⟩);have hB4:=Lib.hid (next hB3.out g2.below);have htl:(es.take k).length<=150:=by rw [List.length_take]; have:=FEW.out.1; omega
  have HE3:=ae3 ((X.out.1.held hB4.out).take hkL) (by omega) X.out.2.1 X.out.2.2.1 X.out.2.2.2.1 X.out.2.2.2.2.1 (by omega) (by omega) (fun e he=>(X.out.1.good e (List.mem_of_mem_take he)).fits.a);have G2:=Lib.hid g2;have hcap:=X.out.1.cap;have hc1:(k:Int)<=(cap:Int):=by omega
  clear HE2 g2 htl;go_upto_region 11 with (go_at_call 8; refine HE3.mono ?_; rintro e w5 ⟨N3,vp,rfl,g3⟩);have T0:=Lib.hid (TwR.start X.out.1 hkL hB2.out G1.out G2.out (Below.refl _ _) g3 (dz5 n _ _ sec) (by have:=FEW.out.1; rw [X.out.2.2.2.2.2] at this; omega) (by omega));obtain ⟨pa,ca,rfl⟩:=G1.out.len;obtain ⟨pb,cb,rfl⟩:=G2.out.len;obtain ⟨pp,cp,rfl⟩:=g3.len;clear HE3 g3 hc1 G1 G2 hB1 hB2 hB3 hB4 HK hcap;go_upto_if 84 with fail;go_wp2_with fail;go_loopw [87] (fun i wr=>∃ j:Nat,i= .int .i64 j/\j<=L/\Hid (TwR es (nNew sec) n k L A cap N1 N3 (.slice pa L ca) (.slice pb L cb) (.slice pp k cp) w w4 j wr)) (fun i _=>L - (intOf i).toNat)
  case atStart=>exact ⟨0,rfl,Nat.zero_le _,T0⟩
  case round=>
   clear T0;obtain ⟨j,rfl,hj,S⟩:=hrel;by_cases hjL:j<L
   ·have hin:(j:Int)<(L:Int):=by omega
    obtain ⟨ga,ca',ea,qa⟩:=S.out.at_a hjL;injection ea with e1 e2 e3;subst e1 e3;clear e2;obtain ⟨gb,cb',eb,qb⟩:=S.out.at_b hjL;injection eb with e1 e2 e3;subst e1 e3;clear e2;obtain ⟨z,hz⟩:∃ z,nZ n (evOf es) (nNew sec) j=z:=⟨_,rfl⟩;rw [hz] at qa qb;have HZ:=Lib.hid hz;clear hz;by_cases hjk:j<k
    ·obtain ⟨gp,cp',ep,qp⟩:=S.out.at_p hjk
     rw [HZ.out] at qp;injection ep with e1 e2 e3;subst e1 e3;clear e2;have hin2:(j:Int)<(k:Int):=by omega
     have d1:decide ((j:Int)<(k:Int))=true:=decide_eq_true hin2;have d2:decide ((k:Int)<=(j:Int))=false:=decide_eq_false (by omega);have S2:=Lib.hid ((S.out.skip hjk).hold (Below.refl _ _).drew);clear S;go_upto_region 16 with fail;refine wp_region_held_drew (S:=fun u=>u.cell? ⟨ga,j,none⟩=some (.int .i64 z)/\u.cell? ⟨gb,j,none⟩=some (.int .i64 z)/\u.cell? ⟨gp,j,none⟩=some (.int .i64 z)) (by kernel_rfl) ⟨qa,qb,qp⟩ (fun hHeld=>?_);refine tk 0 (.slice (some ⟨ga,0,none⟩) L ca) rfl hHeld ?_;go_frame;refine tk 1 (.int .i64 j) rfl hHeld ?_;go_frame;refine tk 2 (.pointer (some ⟨ga,j,none⟩)) rfl hHeld ?_;go_frame;refine tk 3 (.int .i64 z) rfl hHeld ?_;go_frame;refine tk 4 (.slice (some ⟨gb,0,none⟩) L cb) rfl hHeld ?_;go_frame;refine tk 5 (.int .i64 j) rfl hHeld ?_;go_frame;refine tk 6 (.pointer (some ⟨gb,j,none⟩)) rfl hHeld ?_;go_frame;refine tk 7 (.int .i64 z) rfl hHeld ?_;go_frame;refine tk 8 (.bool false) rfl hHeld ?_;go_frame;refine tk 9 (.bool false) rfl hHeld ?_;go_frame;refine tk 10 (.int .i64 j) rfl hHeld ?_;go_frame;refine tk 11 (.int .i64 k) rfl hHeld ?_;go_frame;refine tk 12 (.bool true) rfl hHeld ?_;go_frame;refine tk 13 (.bool true) rfl hHeld ?_;go_frame;refine tk 14 (.slice (some ⟨gp,0,none⟩) k cp) rfl hHeld ?_;go_frame;refine tk 15 (.int .i64 j) rfl hHeld ?_;go_frame;refine tk 16 (.pointer (some ⟨gp,j,none⟩)) rfl hHeld ?_;go_frame;refine tk 17 (.int .i64 z) rfl hHeld ?_;go_frame;refine tk 18 (.slice (some ⟨ga,0,none⟩) L ca) rfl hHeld ?_;go_frame;refine tk 19 (.int .i64 j) rfl hHeld ?_;go_frame;refine tk 20 (.pointer (some ⟨ga,j,none⟩)) rfl hHeld ?_;go_frame;refine tk 21 (.int .i64 z) rfl hHeld ?_;go_frame;refine tk 22 (.bool false) rfl hHeld ?_;go_frame;refine tk 23 (.bool false) rfl hHeld ?_;go_frame;refine tk 24 (.bool false) rfl hHeld ?_;go_frame;refine tk 25 (.bool false) rfl hHeld ?_;go_frame;refine tk 26 (.int .i64 j) rfl hHeld ?_;go_frame;refine tk 27 (.int .i64 k) rfl hHeld ?_;go_frame;refine tk 28 (.bool false) rfl hHeld ?_;go_frame;refine tk 29 (.bool false) rfl hHeld ?_;go_frame;refine aa6 (i:=30) (v:=undef) rfl (by kernel_rfl) (by kernel_rfl) (by kernel_rfl) (fun _ _ _ h=>h) (.inr ⟨rfl,rfl⟩) hHeld ?_;go_frame;refine aa6 (i:=31) (v:=undef) rfl (by kernel_rfl) (by kernel_rfl) (by kernel_rfl) (fun _ _ _ h=>h) (.inr ⟨rfl,rfl⟩) hHeld ?_;go_frame;refine aa6 (i:=32) (v:=undef) rfl (by kernel_rfl) (by kernel_rfl) (by kernel_rfl) (fun _ _ _ h=>h) (.inr ⟨rfl,rfl⟩) hHeld ?_;go_frame;refine aa6 (i:=33) (v:=undef) rfl (by kernel_rfl) (by kernel_rfl) (by kernel_rfl) (fun _ _ _ h=>h) (.inr ⟨rfl,rfl⟩) hHeld ?_;go_frame;refine aa6 (i:=34) (v:=undef) rfl (by kernel_rfl) (by kernel_rfl) (by kernel_rfl) (fun _ _ _ h=>h) (.inr ⟨rfl,rfl⟩) hHeld ?_;go_frame;refine aa6 (i:=35) (v:=undef) rfl (by kernel_rfl) (by kernel_rfl) (by kernel_rfl) (fun _ _ _ h=>h) (.inr ⟨rfl,rfl⟩) hHeld ?_;go_frame;refine aa6 (i:=36) (v:=undef) rfl (by kernel_rfl) (by kernel_rfl) (by kernel_rfl) (fun _ _ _ h=>h) (.inr ⟨rfl,rfl⟩) hHeld ?_;go_frame;refine aa6 (i:=37) (v:=undef) rfl (by kernel_rfl) (by kernel_rfl) (by kernel_rfl) (fun _ _ _ h=>h) (.inr ⟨rfl,rfl⟩) hHeld ?_;go_frame;refine aa6 (i:=38) (v:=undef) rfl (by kernel_rfl) (by kernel_rfl) (by kernel_rfl) (fun _ _ _ h=>h) (.inr ⟨rfl,rfl⟩) hHeld ?_;go_frame;refine aa6 (i:=39) (v:=undef) rfl (by kernel_rfl) (by kernel_rfl) (by kernel_rfl) (fun _ _ _ h=>h) (.inr ⟨rfl,rfl⟩) hHeld ?_;go_frame;refine aa6 (i:=40) (v:=undef) rfl (by kernel_rfl) (by kernel_rfl) (by kernel_rfl) (fun _ _ _ h=>h) (.inr ⟨rfl,rfl⟩) hHeld ?_;go_frame;refine tk 41 (.bool false) rfl hHeld ?_;go_frame;refine tk 42 (.bool false) rfl hHeld ?_;go_frame;refine wpAnyH_done (by kernel_rfl) ?_ _;try go_frame
     clear hHeld qa qb qp;go_wp2_with fail;go_roundw
     case rel=>exact ⟨j+1,by go_num,by omega,S2⟩
     case measure=>simp [intOf]; omega
    ·have d1:decide ((j:Int)<(k:Int))=false:=decide_eq_false (by omega)
     have d2:decide ((k:Int)<=(j:Int))=true:=decide_eq_true (by omega);have hjE:j<es.length:=by rw [X.out.2.2.2.2.2]; exact hjL
     obtain ⟨b0,off,rfl⟩:=X.out.1.plain (by omega);obtain ⟨e,he⟩:∃ e,es[j]=e:=⟨_,rfl⟩;obtain ⟨c0,c1,c2,c3,c4,c5,c6⟩:=(X.out.1.held S.out.below).at_ hjE he;have HC:=Lib.hid (fun (u:World) (hb:Below w.heap.size w u)=>(X.out.1.held hb).at_ hjE he);have HD:=S.out.act (by omega) hjE (w':=wr.drew) (Below.refl _ _).drew;rw [he,HZ.out] at HD;unfold Sp.ecs at HD;clear S he;generalize e.kind=y0 at*;generalize e.i=y1 at*;generalize e.k=y2 at*;generalize e.n=y3 at*;generalize e.a=y4 at*;generalize e.len=y5 at*;generalize (⟨e.p.toArray⟩:ByteArray)=s at*;go_upto_region 16 with fail;refine wp_region_held_drew (S:=fun u=>u.cell? ⟨ga,j,none⟩=some (.int .i64 z)/\u.cell? ⟨gb,j,none⟩=some (.int .i64 z)/\u.cell? ⟨b0,off+j*7,none⟩=some (.int .i64 y0)/\u.cell? ⟨b0,off+j*7+1,none⟩=some (.int .i64 y1)/\u.cell? ⟨b0,off+j*7+2,none⟩=some (.int .i64 y2)/\u.cell? ⟨b0,off+j*7+3,none⟩=some (.int .i64 y3)/\u.cell? ⟨b0,off+j*7+4,none⟩=some (.int .u32 (y4:Nat))/\u.cell? ⟨b0,off+j*7+5,none⟩=some (.int .i64 y5)/\u.cell? ⟨b0,off+j*7+6,none⟩=some (.string s)) (by kernel_rfl) ⟨qa,qb,c0,c1,c2,c3,c4,c5,c6⟩ (fun hHeld=>?_);refine tk 0 (.slice (some ⟨ga,0,none⟩) L ca) rfl hHeld ?_;go_frame;refine tk 1 (.int .i64 j) rfl hHeld ?_;go_frame;refine tk 2 (.pointer (some ⟨ga,j,none⟩)) rfl hHeld ?_;go_frame;refine tk 3 (.int .i64 z) rfl hHeld ?_;go_frame;refine tk 4 (.slice (some ⟨gb,0,none⟩) L cb) rfl hHeld ?_;go_frame;refine tk 5 (.int .i64 j) rfl hHeld ?_;go_frame;refine tk 6 (.pointer (some ⟨gb,j,none⟩)) rfl hHeld ?_;go_frame;refine tk 7 (.int .i64 z) rfl hHeld ?_;go_frame;refine tk 8 (.bool false) rfl hHeld ?_;go_frame;refine tk 9 (.bool false) rfl hHeld ?_;go_frame;refine tk 10 (.int .i64 j) rfl hHeld ?_;go_frame;refine tk 11 (.int .i64 k) rfl hHeld ?_;go_frame;refine tk 12 (.bool false) rfl hHeld ?_;go_frame;refine tk 13 (.bool false) rfl hHeld ?_;go_frame;refine aa6 (i:=14) (v:=undef) rfl (by kernel_rfl) (by kernel_rfl) (by kernel_rfl) (fun _ _ _ h=>h) (.inr ⟨rfl,rfl⟩) hHeld ?_;go_frame;refine aa6 (i:=15) (v:=undef) rfl (by kernel_rfl) (by kernel_rfl) (by kernel_rfl) (fun _ _ _ h=>h) (.inr ⟨rfl,rfl⟩) hHeld ?_;go_frame;refine aa6 (i:=16) (v:=undef) rfl (by kernel_rfl) (by kernel_rfl) (by kernel_rfl) (fun _ _ _ h=>h) (.inr ⟨rfl,rfl⟩) hHeld ?_;go_frame;refine aa6 (i:=17) (v:=undef) rfl (by kernel_rfl) (by kernel_rfl) (by kernel_rfl) (fun _ _ _ h=>h) (.inr ⟨rfl,rfl⟩) hHeld ?_;go_frame;refine aa6 (i:=18) (v:=undef) rfl (by kernel_rfl) (by kernel_rfl) (by kernel_rfl) (fun _ _ _ h=>h) (.inr ⟨rfl,rfl⟩) hHeld ?_;go_frame;refine aa6 (i:=19) (v:=undef) rfl (by kernel_rfl) (by kernel_rfl) (by kernel_rfl) (fun _ _ _ h=>h) (.inr ⟨rfl,rfl⟩) hHeld ?_;go_frame;refine aa6 (i:=20) (v:=undef) rfl (by kernel_rfl) (by kernel_rfl) (by kernel_rfl) (fun _ _ _ h=>h) (.inr ⟨rfl,rfl⟩) hHeld ?_;go_frame;refine aa6 (i:=21) (v:=undef) rfl (by kernel_rfl) (by kernel_rfl) (by kernel_rfl) (fun _ _ _ h=>h) (.inr ⟨rfl,rfl⟩) hHeld ?_;go_frame;refine aa6 (i:=22) (v:=undef) rfl (by kernel_rfl) (by kernel_rfl) (by kernel_rfl) (fun _ _ _ h=>h) (.inr ⟨rfl,rfl⟩) hHeld ?_;go_frame;refine tk 23 (.bool false) rfl hHeld ?_;go_frame;refine tk 24 (.bool false) rfl hHeld ?_;go_frame;refine tk 25 (.bool false) rfl hHeld ?_;go_frame;refine tk 26 (.int .i64 j) rfl hHeld ?_;go_frame;refine tk 27 (.int .i64 k) rfl hHeld ?_;go_frame;refine aa6 (i:=28) (v:= .bool true) rfl (by kernel_rfl) (by kernel_rfl) (by kernel_rfl) (fun _ _ _ h=>h) (.inl ⟨rfl,?_⟩) hHeld ?_
     ·(intro w hSw; go_simp; omega)
     go_frame;refine tk 29 (.bool true) rfl hHeld ?_;go_frame;refine tk 30 (.pointer (some ⟨N3,0,none⟩)) rfl hHeld ?_;go_frame;refine tk 31 (.slice (some ⟨b0,off,none⟩) L cap) rfl hHeld ?_;go_frame;refine tk 32 (.int .i64 j) rfl hHeld ?_;go_frame;refine tk 33 (.pointer (some ⟨b0,off+j*7,none⟩)) rfl hHeld ?_;go_frame;refine tk 34 (.agg #[.int .i64 y0,.int .i64 y1,.int .i64 y2,.int .i64 y3,.int .u32 (y4:Nat),.int .i64 y5,.string s]) rfl hHeld ?_;go_frame;refine tk 36 (.slice (some ⟨ga,0,none⟩) L ca) rfl hHeld ?_;go_frame;refine tk 37 (.int .i64 j) rfl hHeld ?_;go_frame;refine tk 38 (.pointer (some ⟨ga,j,none⟩)) rfl hHeld ?_;go_frame;refine tk 39 (.int .i64 z) rfl hHeld ?_;go_frame;refine rl 35 rfl fun K hK=>?_
     go_simp;refine HD.mono ?_;rintro r w6 ⟨rfl,S2⟩;obtain ⟨ga2,ca2,ea2,qa2⟩:=S2.out.at_a hjL;injection ea2 with e1 e2 e3;injection e1 with e1;injection e1 with e1;subst e1;obtain ⟨gb2,cb2,eb2,qb2⟩:=S2.out.at_b hjL;injection eb2 with e4 e5 e6;injection e4 with e4;injection e4 with e4;subst e4;rw [HZ.out] at qa2 qb2;refine hK.out _ _ ⟨qa2,qb2,HC.out w6 S2.out.below⟩ (fun hHeld=>?_);clear hK K HD c0 c1 c2 c3 c4 c5 c6 qa qb qa2 qb2;try go_frame
     refine tk 40 (.bool false) rfl hHeld ?_;go_frame;refine tk 41 (.bool false) rfl hHeld ?_;go_frame;refine tk 42 (.bool false) rfl hHeld ?_;go_frame;refine wpAnyH_done (by kernel_rfl) ?_ _;try go_frame
     clear hHeld;go_wp2_with fail;go_roundw
     case rel=>exact ⟨j+1,by go_num,by omega,S2⟩
     case measure=>simp [intOf]; omega
   ·obtain rfl:j=L:=by omega
    obtain ⟨q,HW3,HW1⟩:=S.out.ends;have R:=Lib.hid S.out.below;clear S;go_wp2_with (go_at_call 10; first|(refine HW3.mono ?_; rintro r w7 ⟨rfl,rfl⟩)|(refine HW1.mono ?_; rintro r w7 ⟨rfl,rfl⟩));go_ret;exact ⟨aa4 (by simp),R.out⟩
end
end Go.Proofs.YtbepbkidkjblgaaGreat
