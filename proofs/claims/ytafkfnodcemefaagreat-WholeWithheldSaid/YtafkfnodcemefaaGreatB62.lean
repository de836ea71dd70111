import Derived.Test.YtafkfnodcemefaaGreatB53
import Derived.Test.YtafkfnodcemefaaGreatB44
section
set_option maxHeartbeats 8000000
namespace Go.Proofs.YtafkfnodcemefaaGreat
section
open Go.RowKit Go.Maps Rm Fm Sb
theorem FbL.at_ {w wr w2:World} {W n:Nat} {fe:Nat->List Fe} (h:FbL w W n fe n wr) (hb:Below wr.heap.size wr w2) {i:Nat} (hi:i<n):
  ∃ p c,w2.cell? (Y W i)=some (.slice p (fe i).length c)/\∀ k (_:k<(fe i).length) e,(fe i)[k]=e->∃ g,p=some ⟨g,0,none⟩/\(fe i).length<=9223372036854775807/\w2.cell? (Y g (k*4))=some (U (e.a:Nat))/\w2.cell? (Y g (k*4+1))=some (I e.n)/\w2.cell? (Y g (k*4+2))=some (I e.how)/\w2.cell? (Y g (k*4+3))=some (I e.nx):=by
 obtain ⟨C,h1,h2,h3,h4⟩:=(h.held hb).ex;obtain ⟨v,q1,q2⟩:=h3 i hi;obtain ⟨p,c,rfl,-⟩:=q2.form;refine ⟨p,c,(h1.at_ i).trans q1,fun k hk e he=>?_⟩;have q3:Ol 43 fcl 4 (W+1) (.slice p (fe i).length c) (fe i) w2:=q2.1;obtain ⟨g,cap,e1,h5,h6,e2⟩:=q3.at_ (cl:=fcl) (k:=4) (fun _=>rfl) hk;injection e1 with e1;rw [he] at e2;exact ⟨g,e1,by unfold maxLen at h6; omega,e2 0 G,e2 1 G,e2 2 G,e2 3 G⟩
end
end Go.Proofs.YtafkfnodcemefaaGreat
end
section
set_option maxHeartbeats 8000000
namespace Go.Proofs.YtafkfnodcemefaaGreat
section
open Go.RowKit Go.Maps Rm Fm Sb
theorem page_headed {b:List Nat} (h:b.length+4<=1024):T.Tm.headed (T.Tm.page b)=true:=by
 unfold T.Tm.headed;have h0:(T.Tm.page b).length=b.length+4:=by simp [T.Tm.page,T.Tm.two]
 have h2:(T.Tm.page b).getD 2 0=b.length / 256 % 256:=rfl;have h3:(T.Tm.page b).getD 3 0=b.length % 256:=rfl;rw [decide_eq_true_eq,h0,h2,h3];exact ⟨by omega,h,rfl,rfl,G⟩
theorem cut_none {b:List Nat} {m:Nat} (hh:T.Tm.headed b=true) (hm:m<b.length):T.Tm.decode (b.take m)=none:=by
 have hf:T.Tm.headed (b.take m)=false:=by
  unfold T.Tm.headed at hh ⊢;rw [decide_eq_true_eq] at hh;rw [decide_eq_false_iff_not];rintro ⟨a1,a2,a3,a4,a5⟩;have hl:(b.take m).length=m:=by rw [List.length_take]; omega
  rw [hl] at a1 a5;have e2:(b.take m).getD 2 0=b.getD 2 0:=by
   simp only [List.getD_eq_getElem?_getD];rw [List.getElem?_take,if_pos G]
  have e3:(b.take m).getD 3 0=b.getD 3 0:=by
   simp only [List.getD_eq_getElem?_getD];rw [List.getElem?_take,if_pos G]
  rw [e2,e3] at a5;omega
 unfold T.Tm.decode;rw [hf];rfl
theorem headed_pos {b:List Nat} (hh:T.Tm.headed b=true):4<=b.length:=by
 unfold T.Tm.headed at hh;rw [decide_eq_true_eq] at hh;exact hh.1
theorem receive_none {M:Mr} {z:Int} {bs:List Nat} (h:T.Tm.decode bs=none):M.receive z bs=M:=by
 unfold Mr.receive;split
 ·rfl
 ·rw [h]; rfl
def HeadN (os:List Dg):Prop:=∀ g∈os,T.Tm.headed g.2.2=true
theorem tick_head (M:Mr) (J:Jm):∀ g∈(M.tickG J).1,T.Tm.headed g.2=true:=by
 intro g hg;unfold Mr.tickG sends at hg;simp only [List.mem_flatMap,List.mem_range] at hg;obtain ⟨i,-,hg⟩:=hg;split at hg
 ·cases hg
 ·obtain ⟨d,hd,rfl⟩:=List.mem_map.1 hg
  obtain ⟨-,-,-,b,rfl,hb⟩:=T.Tm.encode_fine _ d hd;exact page_headed hb
theorem HeadN.tick {os:List Dg} (h:HeadN os) (i:Nat) (s:SvG):HeadN (sendAll i os s.tick.2.2):=fun g hg=>by
 rcases bf8 hg with hg|⟨d,hd,e⟩
 ·exact h g hg
 ·unfold SvG.tick at hd
  cases hr:s.r with
  |none=>rw [hr] at hd; cases hd
  |some x=>
   rw [hr] at hd;rw [e];exact tick_head _ _ d hd
theorem nStep_head {m:Nat} {e:Sc.Ev} {x:NsG} (h:HeadN x.2):HeadN (nStep m e x).2.2:=by
 have key:∀ r:Int×NsG,HeadN r.2.2->HeadN r.2.2:=fun r h=>h
 unfold nStep;split
 ·rename_i hr
  have hk:=cv4 hr;rcases hk with hk|hk|hk|hk|hk|hk|hk|hk|hk|hk|hk<;>rw [hk]
  ·refine key (ite _ _ _) ?_
   split<;>exact h
  ·refine key (ite _ _ _) ?_
   split<;>exact h
  ·refine key (ite _ _ _) ?_
   split<;>exact h
  ·refine key (ite _ _ _) ?_
   split<;>exact h
  ·refine key (ite _ _ _) ?_
   split<;>exact h
  ·refine key (ite _ _ _) ?_
   split<;>exact h
  ·refine key (ite _ _ _) ?_
   split
   ·exact h.tick _ _
   ·exact h
  ·refine key (ite _ _ _) ?_
   split
   ·exact fun g hg=>h g (List.mem_of_mem_eraseIdx hg)
   ·exact h
  ·refine key (ite _ _ _) ?_
   split
   ·exact fun g hg=>h g (List.mem_of_mem_eraseIdx hg)
   ·exact h
  ·refine key (ite _ _ _) ?_
   split
   ·rename_i hz
    have hk2:e.k.toNat<x.2.length:=G
    intro g hg;have hg:g∈sent1 (x.2.getD e.k.toNat (0,0,[])).1 x.2 (x.2.getD e.k.toNat (0,0,[])).2:=hg;rw [getD_in hk2] at hg;unfold sent1 at hg;split at hg
    ·rcases List.mem_append.1 hg with hg|hg
     ·exact h g hg
     ·simp only [List.mem_singleton] at hg
      rw [hg];exact h _ (List.getElem_mem hk2)
    ·exact h g hg
   ·exact h
  ·exact fun g hg=>by cases hg
 ·exact h
theorem nAt_head {m:Nat} {ev:Nat->Sc.Ev} {x:NsG} (h:HeadN x.2):∀ k,HeadN (nAt m ev x k).2
 |0=>h
 |k+1=>nStep_head (nAt_head h k)
theorem recv_fib {s:SvG} {fr:Nat} {bs:List Nat} (h:T.Tm.decode bs=none):(s.recv fr bs).fib=s.fib:=by
 obtain ⟨r,c,z⟩:=s
 cases r with
 |none=>rfl
 |some x=>
  show (x.M.receive fr bs).subjs.flatMap (x.M.receive fr bs).entry=x.M.subjs.flatMap x.M.entry;rw [receive_none h]
theorem recvAll_fib {m:Nat} {st:Nat->SvG} {g:Dg} {most:Int} (hh:T.Tm.headed g.2.2=true) (h0:0<=most) (hm:most<(g.2.2.length:Int)) (i:Nat):(recvAll m st g most i).fib=(st i).fib:=by
 unfold recvAll;split
 ·by_cases e:i=g.2.1
  ·rw [e,ak8]
   exact recv_fib (cut_none hh G)
  ·rw [aj4 e]
 ·rfl
end
end Go.Proofs.YtafkfnodcemefaaGreat
end
section
set_option maxHeartbeats 8000000
set_option maxRecDepth 100000
namespace Go.Proofs.YtafkfnodcemefaaGreat
open _root_.Go.Proofs.Tryz (prog)
section
open Go.RowKit Go.Maps Rm Fm Sb
attribute [local go_sem] Oper.semAt_some
theorem gz_junk {F:List Nat} {w:World} {R sp:Nat} {J:Jm} {M:Mr} {A:Option Addr} {n cap:Nat} {bs:List Nat} (h:Gz F w R J sp M) (hs:T.Sl w A n cap bs) (hd:T.Tm.decode bs=none) (z:Int):
  Q 14 #[K R,I z,.slice A n cap] w (Rr0 w (.tuple #[])):=by
 obtain ⟨o,fl,tb,j,N,nn,hR⟩:=h.rr;have HC:=bk9 hR z;have HD:=T.decode_any hs hd;obtain ⟨q,hq⟩:∃ q,(cAt M.c z==0)=q:=⟨_,rfl⟩;clear h hs hR;go_enter Tryz.func14,Tryz.ntmps14;go_wp2_with fail;refine HC.mono ?_;rintro e w1 ⟨rfl,rfl⟩
 cases q with
 |true=>
  clear HC;go_wp2_with fail;exact bodyPost_ret (results_none rfl _ _ _) rfl ⟨rfl,.refl _ _⟩
 |false=>
  clear HC;go_wp2_with fail;refine HD.mono ?_;rintro e w2 ⟨hb2,⟨-,rfl⟩|⟨us,v,e1,-⟩⟩
  ·have G:=Z hb2
   clear HD hb2;go_wp2_with fail;go_loopw [21] (fun i wr=>i= I 0/\wr=w2) (fun _ _=>0)
   case atStart=>exact ⟨rfl,rfl⟩
   case round=>
    obtain ⟨rfl,rfl⟩:=hrel;go_wp2_with fail;exact bodyPost_end (v:= .tuple #[]) (results_none rfl _ _ _) rfl ⟨rfl,G.out⟩
  ·cases e1
theorem pk_there {w:World} {g:Nat} {t:TypeId} {cs:Array Value} (h:Blk t w g cs) (hs:cs.size=3):w.there g 0 3:=fun j hj=>by
 rw [Nat.zero_add];refine ⟨?_,h.free j⟩;rw [h.at_ j,Array.getElem?_eq_getElem G];rfl
theorem results_pk {fn:Func} {p u:Tmp} (h:fn.results=#[.cell p 53,.tmp u]) {tmps:Array Value} {w:World} {g:Nat} {cs:Array Value} (hs:cs.size=3) {v:Value} (hp:tmps.getD p undef= K g) (hu:tmps.getD u undef=v)
  (hb:Blk 53 w g cs):(results fn tmps).run prog w= .ok (.tuple #[.agg cs,v]) w:=by
 obtain ⟨d,h1,h2⟩:∃ d,prog.underlying 53=some d/\d.isRow=true:=⟨_,rfl,rfl⟩;have hi:(prog.info? 53).map (·.size)=some cs.size:=by rw [hs]; kernel_rfl
 rw [results_cell_tmp h,hp,hu];have hl:=run_loadVar_row (P:=prog) w g 53 53 _ (0,0) d hb h1 (by cases d<;>first|rfl|cases h2) hi;simp [asAddr,hl]
section
variable {w:World} {N MB n:Nat} {ms:Nat->MaG} {v:Value} {xs:List Pe} {os:List Dg}
theorem ng_packet (h:NwG w N MB n ms v xs os) {k:Nat} (hk:k<os.length) {fr i:Nat} {bs:List Nat} (ho:os[k]=(fr,i,bs)) (h256:∀ c∈bs,c<256) (hbl:bs.length<=5000):
  Q 15 #[K N,I k] w fun e w'=>∃ g cap,e= .returned (.tuple #[.agg #[I fr,I i,Lt g bs.length cap],O true])/\T.Ob w' g cap bs/\Bw w w':=by
 have hkx:k<xs.length:=by rw [h.wy.len]; exact hk
 obtain ⟨a1,a2,a3,a4,a5⟩:=h.wy.row k hkx hk;rw [ho] at a1 a2 a3 a4;simp only at a1 a2 a3 a4;obtain ⟨g,hg⟩:=ey (xs[k].g);obtain ⟨cap,hcap⟩:=ey (xs[k].cap);obtain ⟨L,hL⟩:=ey bs.length;obtain ⟨g0,cap0,rfl,h1,h2,hc⟩:=h.wy.own.at_ elemW.len hkx;have hsm:os.length<=maxLen:=by have:=h.wy.len; omega
 unfold maxLen at hsm;have q0:w.cell? (Aa g0 (k*3))=some (I xs[k].frm):=hc 0 G;have q1:w.cell? (Aa g0 (k*3+1))=some (I xs[k].dst):=hc 1 G;have q2:w.cell? (Aa g0 (k*3+2))=some (.slice (some (Aa (xs[k].g) 0)) xs[k].n xs[k].cap):=hc 2 G;rw [a1] at q0;rw [a2] at q1;rw [a3,hg,hcap,hL] at q2;rw [hg,hcap] at a4;have hln:=h.wy.len;rw [hln] at h;have c0:w.cell? (Aa N 1)=Xp g0 os.length cap0:=h.nt.head.at_ 1;have hin:(k:Int)<(os.length:Int):=G
 have hLz:L<=5000:=G
 simp only [hL];obtain ⟨hb1,ZB⟩:=nw w 53 #[I 0,I 0,.slice none 0 0];have HW:=as9 (h.held hb1) hk;have B1:=Z hb1;have q0:=held hb1 q0;have q1:=held hb1 q1;have q2:=held hb1 q2;have c0:=held hb1 c0;have a4':=a4.held hb1;clear a1 a2 a3 a4 a5 hg hcap hln hc h1 h2 hkx ho hb1 h;go_enter Tryz.func15,Tryz.ntmps15;go_wp2_with fail;have PB:=fun W=>Blk.new W 53 #[I fr,I i,Lt g L cap]
 have hbp:=fun W=>aa0 W (.cells #[I fr,I i,Lt g L cap] 53)
 generalize w.alloc _=w1 at*;refine HW.mono ?_;rintro e w2 ⟨rfl,hw⟩;have hw2:=hw.symm;subst hw2;clear hw HW;have PB1:=PB w1;have hbp1:=hbp w1;have Z2:=Z (ZB.held hbp1);have hw1:=H2 ZB.lt B1.out;clear PB hbp ZB;go_upto_region 4 with fail;generalize w1.alloc _=w2 at*;have p2:w2.cell? (Aa w1.heap.size 2)=Xp g L cap:=PB1.at_ 2;have a4'':=a4'.held hbp1;have HC:=cv3 (cap:=cap) (a4''.bytes h256 hbl) hbl;rw [hL] at HC;have X:=H2 PB1 hbp1;clear PB1 hbp1 a4' a4'' q0 q1 q2 c0;go_wp2_with fail;refine HC.mono ?_;rintro e w5 ⟨g2,cap2,rfl,hg2,hO,hb5⟩;have PB5:=X.out.1.held hb5;have f2:w5.frozen? (Aa w1.heap.size 2)=false:=PB5.free 2;have p5:w5.cell? (Aa w1.heap.size 2)=Xp g L cap:=PB5.at_ 2;have PB6:=PB5.store 2 (Lt g2 L cap2);have t6:Turn [w1.heap.size] w5 (w5.setCell (Aa w1.heap.size 2) (Lt g2 L cap2)):=Turn.setCell w5 sn _;have Z6:=(Z2.out.held hb5).turn t6 (by have:=hw1.out.1; simp; omega);have hs2:=X.out.2.size;have hlt:w1.heap.size<w2.heap.size:=X.out.1.lt;have O6:=hO.turn t6 (by simp; omega);have B5:=next hw1.out.2 (next X.out.2 hb5);have B6:=B5.trans (t6.below (B:=w.heap.size) (by have:=hw1.out.1; simp; omega) B5.size);have Y:=H5 Z6 O6 B6 hw1.out.1 (Nat.lt_of_lt_of_le hlt hg2);clear HC hO hb5 X Z2 p2 t6 Z6 O6 B5 B6 hs2 hlt hg2;go_upto_region 5 with fail;generalize w5.setCell _ _=w6 at*;have p0:w6.cell? (Aa w1.heap.size 0)=some (I fr):=PB6.at_ 0;have p1:w6.cell? (Aa w1.heap.size 1)=some (I i):=PB6.at_ 1;have p2:w6.cell? (Aa w1.heap.size 2)=Xp g2 L cap2:=PB6.at_ 2;clear PB6 PB5 f2 p5;go_wp2_with (first|(refine wpList_store_mid (P:=prog) rfl 53 (.tmp 4) (.tmp 23) rfl w.heap.size 0 #[I fr,I i,Lt g2 L cap2] rfl rfl (pk_there Y.out.1 rfl) (by show _=some 3; kernel_rfl) (by simp [Value.oneCell']) ?_)|fail);have Z7:Blk 53 (w6.setCells w.heap.size 0 [I fr,I i,Lt g2 L cap2]) w.heap.size #[I fr,I i,Lt g2 L cap2]:=by
  have:=Y.out.1.setCells [I fr,I i,Lt g2 L cap2] 0;simpa [over] using this
 have t7:Turn [w.heap.size] w6 (w6.setCells w.heap.size 0 [I fr,I i,Lt g2 L cap2]):=Turn.setCells w6 sn 0 _;exact bodyPost_ret (v:= .tuple #[.agg #[I fr,I i,Lt g2 L cap2],O true]) (results_pk (p:=4) (u:=5) kr rfl rfl rfl Z7) rfl ⟨g2,cap2,rfl,Y.out.2.1.turn t7 (by have:=Y.out.2.2.2; simp; omega),Y.out.2.2.1.trans (t7.below sn Y.out.2.2.1.size)⟩
end
end
end Go.Proofs.YtafkfnodcemefaaGreat
end
