import Derived.Test.YtbepbkidkjblgaaGreatB47
import Derived.Test.YtbepbkidkjblgaaGreatB44
import Derived.Test.YtbepbkidkjblgaaGreatB33
set_option maxHeartbeats 8000000
set_option maxRecDepth 100000
namespace Go.Proofs.YtbepbkidkjblgaaGreat
open _root_.Go.Proofs.Tryz (prog)
section
open Go.RowKit Go.Maps Rm Fm Sb
attribute [local go_sem] Oper.semAt_some
theorem ret4p {fn:Func} {a b c d:Tmp} (h:fn.results=#[.tmp a,.tmp b,.tmp c,.tmp d]) (tmps:Array Value) (P:Program) (w:World):
  (results fn tmps).run P w= .ok (.tuple #[tmps.getD a undef,tmps.getD b undef,tmps.getD c undef,tmps.getD d undef]) w:=by
 simp [results,h]
theorem as3 {e:Sc.Ev} (h:Sc.right e=true) (ha:e.a<4294967296):e.Good:=by
 have h1:=cv4 h;obtain ⟨h2,h3,h4,h5,h6⟩:=du8 h;have hp:e.p.length<=240:=by
  unfold Sc.right at h;simp only [Bool.and_eq_true,decide_eq_true_eq] at h;exact h.1.2
 exact ⟨⟨by omega,by omega,by omega,by omega,by omega,by omega,by omega,by omega,ha,by omega,by omega⟩,by unfold maxLen; omega⟩
theorem as6 {bs:List Nat} (h:Sc.headed bs=true):3<=bs.length/\(1<=bs.getD 0 0/\bs.getD 0 0<=8)/\1<=bs.getD 1 0*256+bs.getD 2 0/\bs.getD 1 0*256+bs.getD 2 0<=512:=by
 unfold Sc.headed Sc.scripted at h;simp only [Bool.and_eq_true,decide_eq_true_eq] at h;omega
open Sp in
theorem ax7 {A:Option Addr} {n cap:Nat} {bs:List Nat} {w:World} (h:Sp.Sl w A n cap bs) (hn:n<=262144) (hh:Sc.headed bs=false):
  Calls prog 7 #[.slice A n cap] w fun x w'=>x= .returned (.tuple #[.pointer none,.slice none 0 0,.int .i64 0,.int .i64 6])/\Below w.heap.size w w':=by
 have HD:=as0 h hn hh;clear h hh;go_enter Tryz.func7,Tryz.ntmps7;go_upto_region 2 with (go_at_call 6; refine HD.mono ?_; rintro x w1 ⟨rfl,hb1⟩);have hB:=Lib.hid hb1;clear HD hb1;go_wp2_with fail;refine bodyPost_ret (ret4p rfl _ _ _) rfl ⟨rfl,hB.out⟩
theorem ay7 {A:Option Addr} {n cap nn sec:Nat} {bs:List Nat} {l:List Sc.Ev} {k e:Nat} {w:World} (h:Sp.Sl w A n cap bs) (hn:n<=262144) (hh:Sc.headed bs=true) (hnn:bs.getD 0 0=nn) (hsec:bs.getD 1 0*256+bs.getD 2 0=sec) (hE:Sc.Evs bs l k e) (hf:l.length<=150):
  Calls prog 7 #[.slice A n cap] w fun x w'=>∃ N v w1,x= .returned (.tuple #[.pointer (some ⟨N,0,none⟩),v,.int .i64 (k:Nat),.int .i64 (e:Nat)])/\EvG (evOf l) (nNew sec) w1 N nn l.length v w'/\Below w.heap.size w w1:=by
 obtain ⟨-,⟨h1,h8⟩,hs1,hs2⟩:=as6 hh;have HD0:=Sp.decode_good h hn hh;rw [hnn] at HD0 h1 h8;rw [hsec] at HD0 hs1 hs2;have HD:Calls prog 6 #[.slice A n cap] w fun x w'=>∃ (A':Option Addr) (m c':Nat),x= .returned (.tuple #[.int .i64 (nn:Nat),.int .i64 (sec:Nat),.slice A' m c',.int .i64 (k:Nat),.int .i64 (e:Nat)])/\Hid (Sp.El w' A' m c' l/\Below w.heap.size w w'/\m=l.length):=by
  refine HD0.mono ?_;rintro x w' ⟨v,l',k',e',rfl,hO,hE',hB⟩;obtain ⟨rfl,rfl,rfl⟩:=aw9 hE hE';obtain ⟨A',c',rfl,hEl⟩:=hO.el (fun x hx=>as3 (hE.right x hx).1 (hE.right x hx).2);exact ⟨A',_,c',rfl,Lib.hid ⟨hEl,hB,rfl⟩⟩
 have H:=H6 hE hf h1 h8 hs1 hs2;have i0:((nn:Int)==0)=false:=by
  have:(nn:Int)≠0:=by omega
  simpa using this
 clear HD0 h hE hf hh hnn hsec h1 h8 hs1 hs2;go_enter Tryz.func7,Tryz.ntmps7;go_upto_region 2 with (go_at_call 6; refine HD.mono ?_; rintro x w1 ⟨A',m,c',rfl,X⟩);have HE:=ae3 X.out.1 (by have:=X.out.2.2; have:=H.out.2.1; omega) H.out.2.2.1 H.out.2.2.2.1 H.out.2.2.2.2.1 H.out.2.2.2.2.2 (by have:=H.out.2.1; omega) (by have:=H.out.2.1; omega) (fun e he=>(H.out.1.right e he).2);clear HD;go_upto_region 5 with (go_at_call 8; refine HE.mono ?_; rintro x w2 ⟨N,v,rfl,hR⟩);have R:=Lib.hid hR;clear HE hR;go_wp2_with fail;refine bodyPost_ret (ret4p rfl _ _ _) rfl ⟨N,v,w1,rfl,by rw [<- X.out.2.2]; exact R.out,X.out.2.1⟩
theorem dec_ok {A:Option Addr} {n cap:Nat} {bs:List Nat} {w:World} (h:Sp.Sl w A n cap bs) (hn:n<=262144) (hh:Sc.headed bs=true):
  Calls prog 6 #[.slice A n cap] w fun x w'=>∃ (A':Option Addr) (m c' k e:Nat) (l:List Sc.Ev),x= .returned (.tuple #[.int .i64 (bs.getD 0 0:Nat),.int .i64 (bs.getD 1 0*256+bs.getD 2 0:Nat),.slice A' m c',.int .i64 (k:Nat),.int .i64 (e:Nat)])/\Hid (Sp.El w' A' m c' l/\Below w.heap.size w w'/\l.length=m/\Sc.Evs bs l k e):=by
 refine (Sp.decode_good h hn hh).mono ?_;rintro x w' ⟨v,l,k,e,rfl,hO,hE,hB⟩;obtain ⟨A',c',rfl,hEl⟩:=hO.el (fun x hx=>as3 (hE.right x hx).1 (hE.right x hx).2);exact ⟨A',_,c',k,e,l,rfl,Lib.hid ⟨hEl,hB,rfl,hE⟩⟩
noncomputable def nWait (n:Nat) (ev:Nat->Sc.Ev) (x:NsG) (k:Nat):Nat:=(nAt n ev x k).2.length
section
variable {ev:Nat->Sc.Ev} {x:NsG} {n k N:Nat} {v:Value} {w1 w2 W:World}
theorem EvG.at_ (h:EvG ev x w1 N n k v w2) (hb:Below w2.heap.size w2 W) {j:Nat} (hj:j<k):∃ g c,v= .slice (some ⟨g,0,none⟩) k c/\W.cell? ⟨g,j,none⟩=some (.int .i64 (nZ n ev x j)):=by
 obtain ⟨g,c,e,-,-,hc⟩:=Ol.at_ elemI.len (h.came.held hb) (i:=j) (by simpa using hj);have:=hc 0 (by omega);simp only [List.length_map,List.length_range,List.getElem_map,List.getElem_range,Nat.mul_one,Nat.add_zero] at e this;exact ⟨g,c,e,this⟩
theorem EvG.sizes (h:EvG ev x w1 N n k v w2) (hb:Below w2.heap.size w2 W):Calls prog 9 #[.pointer (some ⟨N,0,none⟩)] W fun e w'=>e= .returned (.int .i64 n)/\w'=W:=az1 (h.net.held hb)
theorem EvG.waits (h:EvG ev x w1 N n k v w2) (hb:Below w2.heap.size w2 W):Calls prog 10 #[.pointer (some ⟨N,0,none⟩)] W fun e w'=>e= .returned (.int .i64 (nWait n ev x k))/\w'=W:=dh4 (h.net.held hb)
end
theorem head15 (w:World):Calls prog 5 #[] w fun e w'=>e= .returned (.bool true)/\Below w.heap.size w w':=by
 have LB:=Blk.new w 44 hdCells;have hb:=aa0 w (.cells hdCells 44);have HE:=an4 LB;unfold hdCells at hb HE;clear LB;go_enter Tryz.func5,Tryz.ntmps5;go_upto_region 2 with (go_at_call 8; refine HE.mono ?_; rintro x w2 ⟨N,g,c,rfl,q1,q2,⟨p,HR0⟩,HR1,hb2⟩);have hB:=Lib.hid (next hb hb2);clear HE hb hb2;go_wp2_with (first|(go_at_call 13; first|(refine HR0.mono ?_; rintro x w3 ⟨rfl,rfl⟩; clear HR0)|(refine HR1.mono ?_; rintro x w3 ⟨rfl,rfl⟩; clear HR1))|fail);go_ret;exact ⟨rfl,hB.out⟩
open Sp in
theorem ax3 {A:Option Addr} {n cap:Nat} {bs:List Nat} {w:World} (h:Sp.Sl w A n cap bs):
  Calls prog 3 #[.slice A n cap] w fun e w'=>e= .returned (.bool true)/\Below w.heap.size w w':=by
 have HH:=head15 w;have X:=Lib.hid h;clear h;go_enter Tryz.func3,Tryz.ntmps3;by_cases hn:(2000:Int)<(n:Int)
 ·have d0:decide ((2000:Int)<(n:Int))=true:=decide_eq_true hn
  clear hn;go_upto_region 3 with (go_at_call 5; refine HH.mono ?_; rintro e w1 ⟨rfl,hb1⟩);have hB1:=Lib.hid hb1;clear HH hb1;go_wp2_with fail;go_ret;exact ⟨rfl,hB1.out⟩
 have d0:decide ((2000:Int)<(n:Int))=false:=decide_eq_false hn;have hn2:n<=262144:=by omega
 go_upto_region 3 with (go_at_call 5; refine HH.mono ?_; rintro e w1 ⟨rfl,hb1⟩);have hX1:=X.out.held hb1;have hB1:=Lib.hid hb1;clear HH hb1
 cases hh:Sc.headed bs with
 |false=>
  have HD:=as0 hX1 hn2 hh;have HHh:=H2 hh hX1;clear hh hX1 hn;go_upto_region 8 with (go_at_call 6; refine HD.mono ?_; rintro x w2 ⟨rfl,hb2⟩);have HBy:=ax7 (HHh.out.2.held hb2) hn2 HHh.out.1;have hB2:=Lib.hid (next hB1.out hb2);clear HD hb2;go_wp2_with (go_at_call 7; refine HBy.mono ?_; rintro x w3 ⟨rfl,hb3⟩; have hB3:=Lib.hid (next hB2.out hb3); clear HBy hb3);go_ret;exact ⟨rfl,hB3.out⟩
 |true=>
  obtain ⟨-,⟨h1,h8⟩,hs1,hs2⟩:=as6 hh;have HD:=dec_ok hX1 hn2 hh;have HHh:=H6 hh hX1 h1 h8 hs1 hs2;obtain ⟨nn,hnn⟩:∃ nn,bs.getD 0 0=nn:=⟨_,rfl⟩;obtain ⟨sec,hsec⟩:∃ sec,bs.getD 1 0*256+bs.getD 2 0=sec:=⟨_,rfl⟩;rw [hnn,hsec] at HD;rw [hnn] at h1;have HN:=H2 hnn hsec;have i0:((nn:Int)==0)=false:=by
   have:(nn:Int)≠0:=by omega
   simpa using this
  clear hh hX1 hn h1 h8 hs1 hs2 hnn hsec;go_upto_region 6 with (go_at_call 6; refine HD.mono ?_; rintro x w2 ⟨A2,m,c2,k,e,l,rfl,Y⟩);clear HD;by_cases hm:(150:Int)<(m:Int)
  ·have d1:decide ((150:Int)<(m:Int))=true:=decide_eq_true hm
   have hB2:=Lib.hid (next hB1.out Y.out.2.1);clear hm;go_wp2_with fail;go_ret;exact ⟨rfl,hB2.out⟩
  have d1:decide ((150:Int)<(m:Int))=false:=decide_eq_false hm;have hm2:l.length<=150:=by have:=Y.out.2.2.1; omega
  have HBy:=ay7 (HHh.out.2.1.held Y.out.2.1) hn2 HHh.out.1 HN.out.1 HN.out.2 Y.out.2.2.2 hm2;rw [Y.out.2.2.1] at HBy;have hB2:=Lib.hid (next hB1.out Y.out.2.1);have HM:=Lib.hid hm2;clear hm hm2;go_upto_region 9 with (go_at_call 7; refine HBy.mono ?_; rintro x w3 ⟨N1,v1,w3',rfl,g1,hb3⟩);obtain ⟨p1,q1,rfl⟩:=g1.len;have hB3:=H2 (next (next hB2.out hb3) g1.below) (next hb3 g1.below);have G1:=Lib.hid g1;have HE:=ae3 (nn:=nn) (sec:=sec) (Y.out.1.held hB3.out.2) (by have:=HM.out; have:=Y.out.2.2.1; omega) (by rw [<- HN.out.1]; exact HHh.out.2.2.1) (by rw [<- HN.out.1]; exact HHh.out.2.2.2.1) (by rw [<- HN.out.2]; exact HHh.out.2.2.2.2.1) (by rw [<- HN.out.2]; exact HHh.out.2.2.2.2.2) (by have:=HM.out; omega) (by have:=HM.out; omega) (fun y hy=>(Y.out.1.good y hy).fits.a);clear HBy g1 hb3;go_upto_region 14 with (go_at_call 8; refine HE.mono ?_; rintro x w4 ⟨N2,v2,rfl,g2⟩);obtain ⟨p2,q2,rfl⟩:=g2.len;have hB4:=Lib.hid (next hB3.out.1 g2.below);have G2:=Lib.hid g2;clear HE g2;have hmm:m<=150:=by
   have h1:=HM.out;have h2:=Y.out.2.2.1;omega
  go_wp2_with fail;go_loopw [71] (fun i wr=>∃ j:Nat,i= .int .i64 j/\j<=m/\Hid (Below w4.heap.size w4 wr)) (fun i _=>m - (intOf i).toNat)
  case atStart=>exact ⟨0,rfl,Nat.zero_le _,Lib.hid (.refl _ _)⟩
  case round=>
   obtain ⟨j,rfl,hj,BW⟩:=hrel;by_cases hjL:j<m
   ·have hin:(j:Int)<(m:Int):=by omega
    obtain ⟨ga,ca,ea,qa⟩:=G1.out.at_ (W:=wr) (next G2.out.below BW.out) hjL;injection ea with e1 e2 e3;subst e1 e3;clear e2;obtain ⟨gb,cb,eb,qb⟩:=G2.out.at_ (W:=wr) BW.out hjL;injection eb with e1 e2 e3;subst e1 e3;clear e2;obtain ⟨z,hz⟩:∃ z,nZ nn (evOf l) (nNew sec) j=z:=⟨_,rfl⟩;rw [hz] at qa qb;clear hz;go_upto_region 17 with fail;refine wp_region_held_drew (S:=fun u=>u.cell? ⟨ga,j,none⟩=some (.int .i64 z)/\u.cell? ⟨gb,j,none⟩=some (.int .i64 z)) (by kernel_rfl) ⟨qa,qb⟩ (fun hHeld=>?_);refine tk 0 (.slice (some ⟨ga,0,none⟩) m q1) rfl hHeld ?_;go_frame;refine tk 1 (.int .i64 j) rfl hHeld ?_;go_frame;refine tk 2 (.pointer (some ⟨ga,j,none⟩)) rfl hHeld ?_;go_frame;refine tk 3 (.int .i64 z) rfl hHeld ?_;go_frame;refine tk 4 (.slice (some ⟨gb,0,none⟩) m q2) rfl hHeld ?_;go_frame;refine tk 5 (.int .i64 j) rfl hHeld ?_;go_frame;refine tk 6 (.pointer (some ⟨gb,j,none⟩)) rfl hHeld ?_;go_frame;refine tk 7 (.int .i64 z) rfl hHeld ?_;go_frame;refine tk 8 (.bool false) rfl hHeld ?_;go_frame;refine wpAnyH_done (by kernel_rfl) ?_ _;try go_frame
    clear hHeld;go_wp2_with fail;go_roundw
    case rel=>exact ⟨j+1,by go_num,by omega,Lib.hid (BW.out.trans (Below.refl _ _).drew)⟩
    case measure=>simp [intOf]; omega
   ·obtain rfl:j=m:=by omega
    have HS:=G1.out.sizes (W:=wr) (next G2.out.below BW.out);have HW1:=G1.out.waits (W:=wr) (next G2.out.below BW.out);have HW2:=G2.out.waits (W:=wr) BW.out;have hBE:=Lib.hid (next hB4.out BW.out);obtain ⟨q,hq⟩:∃ q,nWait nn (evOf l) (nNew sec) j=q:=⟨_,rfl⟩;rw [hq] at HW1 HW2;clear hq;go_wp2_with (first|(go_at_call 9; refine HS.mono ?_; rintro r w7 ⟨rfl,rfl⟩; clear HS)|(go_at_call 10; first|(refine HW2.mono ?_; rintro r w7 ⟨rfl,rfl⟩; clear HW2)|(refine HW1.mono ?_; rintro r w7 ⟨rfl,rfl⟩; clear HW1)));go_ret;exact ⟨aa4 (by simp),hBE.out⟩
end
end Go.Proofs.YtbepbkidkjblgaaGreat
