import Derived.Test.YtpljkpnebibbaaaGreatDoorB31
set_option maxHeartbeats 8000000
set_option maxRecDepth 100000
namespace Go.Proofs.YtpljkpnebibbaaaGreatDoor
open _root_.Go.Proofs.Tryz (prog)
section
open Go.RowKit Go.Maps Rm Sb
attribute [local go_sem] Oper.semAt_some
def rtA:ByteArray:=⟨#[114,111,117,116,101,114]⟩
def dnA:ByteArray:=⟨#[100,111,119,110]⟩
def sqA:ByteArray:=⟨#[115,101,113]⟩
def leA:ByteArray:=⟨#[108,101,97,115,101]⟩
def feS (e:Fe):ByteArray:=enS e.a e.n e.how e.nx
def feL (M:Mr) (e:Fe):ByteArray:=if (M.dist e.a e.n).2=true then lineS [feS e,atA,nS (M.dist e.a e.n).1] else lineS [feS e]
def downL (i:Nat):ByteArray:=lineS [rtA,nS i,dnA]
def headL (i:Nat) (M:Mr):ByteArray:=lineS [rtA,nS i,sqA,nS M.seq,leA,nS M.sm.lease]
def mLines (i:Nat) (M:Mr) (fe:List Fe):List ByteArray:=headL i M::fe.map (feL M)
theorem Mr.dist_range (M:Mr) (a:Nat) (n:Int):0<=(M.dist a n).1/\(M.dist a n).1<=65535:=by
 unfold Mr.dist;split
 ·simp
 ·split
  ·simp
  ·exact ao2 (by omega)
theorem ai5 {s:ByteArray} (h:s.data.toList.length<=1000):Short s:=h
section
variable {O:Nat->Prop} {w0 w:World} {N n:Nat} {st:Nat->Sv} {os:List Dg}
theorem bg3 (h:Bo O w0 w N n st os) {i:Nat} (hi:i<n) (hr:(st i).r=none) (ht:Tab w) {A:Option Addr} {L cap:Nat}:
  Calls prog 34 #[.pointer (some ⟨N,0,none⟩),.int .i64 i,.slice A L cap] w fun e w'=>∃ v,e= .returned v/\Lns w.heap.size v [downL i] w'/\Below w.heap.size w w':=by
 have hi8:i<=8:=by have:=h.n8; omega
 have HR:=ax5 h hi hr;have HL:=ak8 w [(58,.string rtA),(59,.int .i64 i),(58,.string dnA)] [rtA,nS i,dnA] (n:=3) rfl rfl (by omega) (fun s hs=>by
  simp only [List.mem_cons,List.not_mem_nil,or_false] at hs;rcases hs with rfl|rfl|rfl
  ·exact ai5 (by decide)
  ·exact ak1 _ (by omega) (by omega)
  ·exact ai5 (by decide)) (fun j q x hj hx=>by
   match j,hj,hx with
   |0,hj,hx=>cases hj; cases hx; exact ab4 _ rtA
   |1,hj,hx=>cases hj; cases hx; exact ac5 _ i (by omega) (by omega) ht
   |2,hj,hx=>cases hj; cases hx; exact ab4 _ dnA)
 replace HL:Calls prog 21 #[.slice (some ⟨w.heap.size,0,none⟩) 3 3] (w.alloc (.cells #[.iface 58 (.string ⟨#[114,111,117,116,101,114]⟩),.iface 59 (.int .i64 i),.iface 58 (.string ⟨#[100,111,119,110]⟩)] 95)) fun e w'=>e= .returned (.string (downL i))/\Below w.heap.size w w':=HL
 obtain ⟨s,hs⟩:∃ s,downL i=s:=⟨_,rfl⟩;rw [hs] at HL ⊢;clear h hr ht hs;go_enter Tryz.func34,Tryz.ntmps34;go_wp2_with (first|(go_at_call 11; refine HR.mono ?_; rintro e w1 ⟨rfl,rfl⟩)|(go_at_call 21; refine HL.mono ?_; rintro e w2 ⟨rfl,hb2⟩; have HB:=H2 (Lns.one w2 s) (next hb2 (aa0 w2 (.cells #[.string s] 9))); have hsz:=Lib.hid hb2.size; clear hb2 HL HR)|fail);go_ret;exact ⟨_,rfl,HB.out.1.mono hsz.out,HB.out.2⟩
structure McR (w:World) (i:Nat) (M:Mr) (fe:List Fe) (k:Nat) (v:Value) (wr:World):Prop where
 ls:Lns w.heap.size v (headL i M::(fe.take k).map (feL M)) wr
 below:Below w.heap.size w wr
theorem McR.len {w wr:World} {i k:Nat} {M:Mr} {fe:List Fe} {p:Option Addr} {n c:Nat} (h:McR w i M fe k (.slice p n c) wr) (hk:k<=fe.length):n=k+1:=by
 obtain ⟨p',c',e,-⟩:=Ol.form h.ls
 cases e;simp;omega
theorem McR.next {w wr w1:World} {i k:Nat} {M:Mr} {fe:List Fe} {p:Option Addr} {n c:Nat} (h:McR w i M fe k (.slice p n c) wr) (hk:k<fe.length) (hbig:fe.length<=1000) (hb:Below wr.heap.size wr w1) {s:ByteArray} (hs:feL M fe[k]=s):
  ∃ g' cap' W',(Builtin.append_ #[31,31] 31 #[.slice p n c,.slice (some ⟨w1.heap.size,0,none⟩) 1 1]).run prog (w1.alloc (.cells #[.string s] 9))= .ok (.slice (some ⟨g',0,none⟩) (n+1) cap') W'/\McR w i M fe (k+1) (.slice (some ⟨g',0,none⟩) (n+1) cap') W':=by
 have hn:=h.len (by omega);have hB:=h.below.trans (hb.mono h.below.size);obtain ⟨g',cap',W',hrun,h1,h2⟩:=(h.ls.held hb).push (by simp; omega) hB hB.size s (by omega);refine ⟨g',cap',W',hrun,⟨?_,h2⟩⟩;have e:headL i M::(fe.take (k+1)).map (feL M)=(headL i M::(fe.take k).map (feL M))++[s]:=by
  rw [List.take_succ_eq_append_getElem hk,List.map_append,List.map_cons,List.map_nil,hs];rfl
 rw [e];exact h1
theorem bx8 (h:Bo O w0 w N n st os) {i:Nat} (hi:i<n) {d room sp:Nat} {M:Mr} {c:Nat->Int} {z:Dz} (hs:st i=⟨d,some ⟨room,sp,M⟩,c,z⟩) (ht:Tab w) {B L cap:Nat} {A:Option Addr} {fe:List Fe} (hf:Lf B (.slice A L cap) fe w) (hL:fe.length=L) (hL2:L<=1000)
  (hfit:∀ e∈fe,Pk.ok ⟨e.a,e.n⟩/\-9223372036854775808<=e.nx/\e.nx<=9223372036854775807) (hseq:M.seq<4294967296) (hle:M.sm.lease<4294967296):
  Calls prog 34 #[.pointer (some ⟨N,0,none⟩),.int .i64 i,.slice A L cap] w fun e w'=>∃ v,e= .returned v/\Lns w.heap.size v (mLines i M fe) w'/\Below w.heap.size w w':=by
 have hi8:i<=8:=by have:=h.n8; omega
 obtain ⟨R,⟨F,hR⟩,HR⟩:=h.at_router hi hs;obtain ⟨o,fl,tb,j,N0,n0,hRr⟩:=hR.rr;have H1:=HR w (.refl _ _);have HQ:∀ (w':World) (hb:Below w.heap.size w w'),Calls prog 55 #[.pointer (some ⟨R,0,none⟩)] w' fun e w2=>e= .returned (.int .u32 M.seq)/\Below w'.heap.size w' w2:=fun w' hb=>(rr_seq (hRr.held hb)).mono fun e w2 ⟨h1,h2⟩=>⟨h1,h2 ▸ .refl _ _⟩
 have HT:=fun (w':World) (hb:Below w.heap.size w w')=>ac4 (hRr.held hb)
 have HE:∀ (w':World) (hb:Below w.heap.size w w'),Calls prog 56 #[.pointer (some ⟨R,0,none⟩)] w' fun e w2=>e= .returned (.int .u32 M.sm.lease)/\Below w'.heap.size w' w2:=fun w' hb=>by
  obtain ⟨cn,cm,hnm,hS⟩:=(hRr.held hb).nt;exact (an8 hS).mono fun e w2 ⟨h1,h2⟩=>⟨h1,h2 ▸ .refl _ _⟩
 have HLn:=fun (w':World) (hb:Below w.heap.size w w')=>ak8 w' [(58,.string rtA),(59,.int .i64 i),(58,.string sqA),(59,.int .i64 M.seq),(58,.string leA),(59,.int .i64 M.sm.lease)] [rtA,nS i,sqA,nS M.seq,leA,nS M.sm.lease] (n:=6) rfl rfl (by omega) (fun s hs=>by
  simp only [List.mem_cons,List.not_mem_nil,or_false] at hs;rcases hs with rfl|rfl|rfl|rfl|rfl|rfl
  ·exact ai5 (by decide)
  ·exact ak1 _ (by omega) (by omega)
  ·exact ai5 (by decide)
  ·exact ak1 _ (by omega) (by omega)
  ·exact ai5 (by decide)
  ·exact ak1 _ (by omega) (by omega)) (fun j q x hj hx=>by
   match j,hj,hx with
   |0,hj,hx=>cases hj; cases hx; exact ab4 _ rtA
   |1,hj,hx=>cases hj; cases hx; exact ac5 _ i (by omega) (by omega) (ht.held hb)
   |2,hj,hx=>cases hj; cases hx; exact ab4 _ sqA
   |3,hj,hx=>cases hj; cases hx; exact ac5 _ M.seq (by omega) (by omega) (ht.held hb)
   |4,hj,hx=>cases hj; cases hx; exact ab4 _ leA
   |5,hj,hx=>cases hj; cases hx; exact ac5 _ M.sm.lease (by omega) (by omega) (ht.held hb))
 replace HLn:∀ (w':World),Below w.heap.size w w'->Calls prog 21 #[.slice (some ⟨w'.heap.size,0,none⟩) 6 6] (w'.alloc (.cells #[.iface 58 (.string ⟨#[114,111,117,116,101,114]⟩),.iface 59 (.int .i64 i),.iface 58 (.string ⟨#[115,101,113]⟩),.iface 59 (.int .i64 M.seq),.iface 58 (.string ⟨#[108,101,97,115,101]⟩),.iface 59 (.int .i64 M.sm.lease)] 95)) fun e w2=>e= .returned (.string (headL i M))/\Below w'.heap.size w' w2:=HLn
 have K:=H6 hR hf hfit ht hL hL2;have q1:IntKind.i64.wrap (M.seq:Int)=M.seq:=by simp only [IntKind.wrap,IntKind.bits,IntKind.signed]; simp; omega
 have q2:IntKind.i64.wrap (M.sm.lease:Int)=M.sm.lease:=by simp only [IntKind.wrap,IntKind.bits,IntKind.signed]; simp; omega
 have hmx:L<=9223372036854775807:=by omega
 obtain ⟨s0,hs0⟩:∃ s,headL i M=s:=⟨_,rfl⟩;have X:=H4 HQ HT HE HLn;have HS0:=Lib.hid hs0;clear h hs ht hf hfit hR hRr HR hL hL2 hs0 HQ HT HE HLn;go_enter Tryz.func34,Tryz.ntmps34;go_wp2_with fail;refine H1.mono ?_;rintro e w1 ⟨rfl,hb1⟩;have HQ1:=X.out.1 w1 hb1;have B1:=Lib.hid hb1;clear H1 hb1;go_wp2_with fail;refine HQ1.mono ?_;rintro e w2 ⟨rfl,hb2⟩;have B2:=Lib.hid (next B1.out hb2);have HT1:=X.out.2.1 w2 B2.out;clear HQ1 hb2;go_wp2_with fail;refine HT1.mono ?_;rintro e w3 ⟨rfl,hb3⟩;have B3:=Lib.hid (next B2.out hb3);have HE1:=X.out.2.2.1 w3 B3.out;clear HT1 hb3;go_wp2_with fail;refine HE1.mono ?_;rintro e w4 ⟨rfl,hb4⟩;have B4:=Lib.hid (next B3.out hb4);have HL1:=X.out.2.2.2 w4 B4.out;rw [HS0.out] at HL1;clear HE1 hb4 X;go_wp2_with fail;refine HL1.mono ?_;rintro e w5 ⟨rfl,hb5⟩;have B5:=next B4.out hb5;have R0:Hid (McR w i M fe 0 (.slice (some ⟨w5.heap.size,0,none⟩) 1 1) (w5.alloc (.cells #[.string s0] 9))):=Lib.hid ⟨by rw [List.take_zero,HS0.out]; exact (Lns.one w5 s0).mono B5.size,next B5 (aa0 _ _)⟩;clear HL1 hb5 B1 B2 B3 B4 B5 q1 q2;go_upto_region 5 with fail;generalize w5.alloc _=w6 at*;generalize w5.heap.size=lb at*;go_wp2_with fail;go_loopw [8,45] (fun v ix wr=>∃ (k:Nat) (p:Option Addr) (m cc:Nat),ix= .int .i64 (k:Nat)/\v= .slice p m cc/\k<=L/\Hid (McR w i M fe k (.slice p m cc) wr)) (fun _ ix _=>L - (intOf ix).toNat)
 case atStart=>exact ⟨0,_,_,_,rfl,rfl,Nat.zero_le _,R0⟩
 case round=>
  clear R0;obtain ⟨k,p,m,cc,rfl,rfl,hkn,Y⟩:=hrel;by_cases hlt:k<L
  ·have hkl:k<fe.length:=by rw [K.out.2.2.2.2.1]; exact hlt
   have hkz:(k:Int)<(L:Int):=by omega
   obtain ⟨g,cp,eA,-,-,hc⟩:=Ol.at_ al3 (K.out.2.1.held Y.out.below).1 hkl;injection eA with eA1 eA2 eA3;subst eA1;have hef:=K.out.2.2.1 _ (List.getElem_mem hkl);obtain ⟨e,he⟩:∃ e,fe[k]=e:=⟨_,rfl⟩;rw [he] at hef;have c0:=hc 0 (by omega);have c1:=hc 1 (by omega);have c2:=hc 2 (by omega);have c3:=hc 3 (by omega);rw [he] at c0 c1 c2 c3;clear hc eA2 eA3;obtain ⟨ea,en,eh,ex⟩:=e;replace c0:_=some (Value.int .u32 ea):=c0;replace c1:_=some (Value.int .i64 en):=c1;replace c2:_=some (Value.int .i64 eh):=c2;replace c3:_=some (Value.int .i64 ex):=c3;rw [Nat.add_zero] at c0;obtain ⟨⟨dz,dok⟩,hd⟩:∃ x,M.dist ea en=x:=⟨_,rfl⟩;have hdr:=M.dist_range ea en;rw [hd] at hdr;replace hdr:0<=dz/\dz<=65535:=hdr;obtain ⟨hbx,EB⟩:=nw wr 135 #[.int .u32 ea,.int .i64 en,.int .i64 eh,.int .i64 ex];obtain ⟨⟨ha1,ha2⟩,hx1,hx2⟩:=hef;have hS:Short (enS ea en eh ex):=cd1 _ _ _ _ hx1 hx2;have HEn:=cl1 ea en eh ex ha1 hx1 hx2 (wr.alloc (.cells #[.int .u32 ea,.int .i64 en,.int .i64 eh,.int .i64 ex] 135)) ((K.out.2.2.2.1.held Y.out.below).held hbx);obtain ⟨es,hes⟩:∃ es,enS ea en eh ex=es:=⟨_,rfl⟩;rw [hes] at HEn hS;have V:=H7 hkl he hd hdr (And.intro ha1 ha2) hS hes;have B7:=Lib.hid hbx;clear he hd hdr ha1 ha2 hx1 hx2 hS hes hbx;go_upto_region 8 with fail;generalize wr.alloc _=w7 at*;have x0:w7.cell? ⟨wr.heap.size,0,none⟩=some (.int .u32 ea):=EB.at_ 0;have x1:w7.cell? ⟨wr.heap.size,1,none⟩=some (.int .i64 en):=EB.at_ 1;have x2:w7.cell? ⟨wr.heap.size,2,none⟩=some (.int .i64 eh):=EB.at_ 2;have x3:w7.cell? ⟨wr.heap.size,3,none⟩=some (.int .i64 ex):=EB.at_ 3;clear c0 c1 c2 c3;go_wp2_with fail;refine HEn.mono ?_;rintro e w8 ⟨rfl,hb8⟩;have B8:=Lib.hid (next B7.out hb8);have y0:=held hb8 x0;have y1:=held hb8 x1;have HD:=K.out.1.at_dist (a:=ea) (len:=en) V.out.2.2.2.2.1 V.out.2.2.1 w8 (next Y.out.below B8.out);clear HEn hb8 x0 x1 x2 x3 EB;go_wp2_with fail;refine HD.mono ?_;rintro e w9 ⟨rfl,hb9⟩;have B9:=Lib.hid (next B8.out hb9);clear HD hb9 y0 y1
   cases dok with
   |true=>
    have HL:=ak8 w9 [(58,.string es),(58,.string atA),(59,.int .i64 dz)] [es,atA,nS dz] (n:=3) rfl rfl (by omega) (fun s hs=>by
     have:=V.out.2.2.2.1;simp only [List.mem_cons,List.not_mem_nil,or_false] at hs;rcases hs with rfl|rfl|rfl
     ·exact V.out.2.2.2.2.2.1
     ·exact ai5 (by decide)
     ·exact ak1 _ (by omega) (by omega)) (fun j q x hj hx=>by
      have:=V.out.2.2.2.1
      match j,hj,hx with
      |0,hj,hx=>cases hj; cases hx; exact ab4 _ es
      |1,hj,hx=>cases hj; cases hx; exact ab4 _ atA
      |2,hj,hx=>cases hj; cases hx; exact ac5 _ dz (by omega) (by omega) (K.out.2.2.2.1.held (next Y.out.below B9.out)))
    replace HL:Calls prog 21 #[.slice (some ⟨w9.heap.size,0,none⟩) 3 3] (w9.alloc (.cells #[.iface 58 (.string es),.iface 58 (.string ⟨#[97,116]⟩),.iface 59 (.int .i64 dz)] 95)) fun e w'=>e= .returned (.string (lineS [es,atA,nS dz]))/\Below w9.heap.size w9 w':=HL
    have hfl:feL M fe[k]=lineS [es,atA,nS dz]:=by
     rw [V.out.2.1];unfold feL feS;rw [V.out.2.2.1,if_pos rfl,V.out.2.2.2.2.2.2]
    obtain ⟨s,hs⟩:∃ s,lineS [es,atA,nS dz]=s:=⟨_,rfl⟩;rw [hs] at HL hfl;have HF:=Lib.hid hfl;clear hs hfl;go_wp2_with fail;refine HL.mono ?_;rintro e w10 ⟨rfl,hb10⟩;obtain ⟨g',cap',W',hrun,hM⟩:=Y.out.next V.out.1 (by rw [K.out.2.2.2.2.1]; exact K.out.2.2.2.2.2) (next B9.out hb10) HF.out;have Z:=Lib.hid hM;clear HL hb10 hM;go_wp2_with (first|(at_builtin; refine Lib.wpList_append_run _ rfl (.tmp 59) (.tmp 67) 31 31 rfl _ _ rfl rfl _ _ hrun ?_)|fail);go_roundw
    case rel=>exact ⟨k+1,_,_,_,by go_num,rfl,by omega,Z⟩
    case measure=>simp [intOf]; omega
   |false=>
    have HL:=ak8 w9 [(58,.string es)] [es] (n:=1) rfl rfl (by omega) (fun s hs=>by
     simp only [List.mem_cons,List.not_mem_nil,or_false] at hs;subst hs;exact V.out.2.2.2.2.2.1) (fun j q x hj hx=>by
      match j,hj,hx with
      |0,hj,hx=>cases hj; cases hx; exact ab4 _ es)
    replace HL:Calls prog 21 #[.slice (some ⟨w9.heap.size,0,none⟩) 1 1] (w9.alloc (.cells #[.iface 58 (.string es)] 95)) fun e w'=>e= .returned (.string (lineS [es]))/\Below w9.heap.size w9 w':=HL
    have hfl:feL M fe[k]=lineS [es]:=by
     rw [V.out.2.1];unfold feL feS;rw [V.out.2.2.1,if_neg (show ¬ ((dz,false):Int×Bool).2=true from fun e=>by cases e),V.out.2.2.2.2.2.2]
    obtain ⟨s,hs⟩:∃ s,lineS [es]=s:=⟨_,rfl⟩;rw [hs] at HL hfl;have HF:=Lib.hid hfl;clear hs hfl;go_wp2_with fail;refine HL.mono ?_;rintro e w10 ⟨rfl,hb10⟩;obtain ⟨g',cap',W',hrun,hM⟩:=Y.out.next V.out.1 (by rw [K.out.2.2.2.2.1]; exact K.out.2.2.2.2.2) (next B9.out hb10) HF.out;have Z:=Lib.hid hM;clear HL hb10 hM;go_wp2_with (first|(at_builtin; refine Lib.wpList_append_run _ rfl (.tmp 69) (.tmp 74) 31 31 rfl _ _ rfl rfl _ _ hrun ?_)|fail);go_roundw
    case rel=>exact ⟨k+1,_,_,_,by go_num,rfl,by omega,Z⟩
    case measure=>simp [intOf]; omega
  ·obtain rfl:k=L:=by omega
   have hM:=Y.out.ls;rw [<- K.out.2.2.2.2.1,List.take_length] at hM;have Z:=H2 hM Y.out.below;clear hM Y;go_wp2_with fail;go_ret;exact ⟨_,rfl,Z.out.1,Z.out.2⟩
end
end
section
open Go.RowKit Go.Maps
attribute [local go_sem] Oper.semAt_some
theorem bj6 {w w':World} {o:Option Nat} (h:w.grownBy w' o):Turn o.toList w w':=⟨h.os,h.tape,h.output,h.size,fun i hi hn=>h.block i hi (fun e=>hn (by rw [<- e]; simp))⟩
section
variable {α:Type} {P:Program} {t e:TypeId} {cl:α->List Value} {k bytes B:Nat} {v:Value} {xs:List α} {W:World}
theorem av1 (E:Elem P t e cl k bytes):∀ (ys:List α),∀ u∈ys.flatMap cl,u.oneCell'=true
 |[],u,h=>by simp at h
 |y::r,u,h=>by
  rw [List.flatMap_cons] at h;rcases List.mem_append.1 h with h|h
  ·exact E.one y u h
  ·exact av1 E r u h
theorem Ol.append (E:Elem P t e cl k bytes) (h:Ol e cl k B v xs W) (hB:B<=W.heap.size) {ad:Addr} {c m:Nat} (ys:List α) (hm:ys.length=m) (hy:0<m) (hx:∀ j u,(ys.flatMap cl)[j]?=some u->W.cell? (ad.add j)=some u) (hbig:xs.length+m<=1000000) (ty:TypeId):
  ∃ g' cap' W',(Builtin.append_ #[t,t] ty #[v,.slice (some ad) m c]).run P W= .ok (.slice (some ⟨g',0,none⟩) (xs.length+m) cap') W'/\Ol e cl k B (.slice (some ⟨g',0,none⟩) (xs.length+m) cap') (xs++ys) W'/\Turn v.ownBlock.toList W W'/\(v.ownBlock=some g'\/W.heap.size<=g'):=by
 obtain ⟨i0,z,hi,hz0,hz1,hz2,hz3⟩:=E.info;obtain ⟨v',W',hr,hown,hgr,hnil,hat⟩:=run_append_own_at (P:=P) W B t ty e i0 z k bytes E.ht hi hz0 hz1 hz2 hz3 E.pos v xs.length (xs.flatMap cl) h ad m c (ys.flatMap cl) (by rw [aa9 E.len ys,hm]) hx (av1 E ys)
  (by unfold maxLen; omega) (by have h1:=E.small; have:=Nat.mul_le_mul (show xs.length+m<=1000001 by omega) h1; omega) hB
 have hne:¬ v'= .slice none 0 0:=fun e=>by have:=(hnil.1 e).2; omega
 rcases hown.2 with ⟨rfl,_⟩|⟨g',cap',cur,rfl,h4,h5,h6,h7,h8,h9⟩
 ·exact absurd rfl hne
 ·have e1:(xs++ys).flatMap cl=xs.flatMap cl++ys.flatMap cl:=by simp
  have e2:(xs++ys).length=xs.length+m:=by simp [hm]
  refine ⟨g',cap',W',hr,⟨by rw [e1,e2]; exact hown.1,.inr ⟨g',cap',cur,by rw [e2],h4,h5,by rw [e2]; exact h6,h7,h8,by rw [e1,e2]; exact h9⟩⟩,bj6 hgr,?_⟩;rcases hat with h|h
  ·exact .inl (h.symm.trans rfl)
  ·exact .inr (Nat.le_of_eq (by simpa [Value.ownBlock] using h.symm))
theorem Ol.cells (hk:∀ x,(cl x).length=k) (h:Ol e cl k B v xs W) (hne:0<xs.length):∃ g cap,v= .slice (some ⟨g,0,none⟩) xs.length cap/\B<=g/\∀ j u,(xs.flatMap cl)[j]?=some u->W.cell? ((⟨g,0,none⟩:Addr).add j)=some u:=by
 rcases h.2 with ⟨rfl,h0⟩|⟨g,cap,cur,rfl,h4,h5,h6,h7,h8,h9⟩
 ·omega
 ·refine ⟨g,cap,rfl,h4,fun j u hj=>?_⟩
  have h5':Blk e W g cur:=h5;rw [Addr.add_mid,Nat.zero_add,h5'.at_];have hlt:=(List.getElem?_eq_some_iff.1 hj).1;rw [aa9 hk] at hlt;rw [<- h9,List.getElem?_take,if_pos hlt] at hj;simpa using hj
theorem Ol.cut (hk:∀ x,(cl x).length=k) (h:Ol e cl k B v xs W) {m:Nat} (hm:m<=xs.length) (h0:0<m):∃ g cap,v= .slice (some ⟨g,0,none⟩) xs.length cap/\m<=cap/\Ol e cl k B (.slice (some ⟨g,0,none⟩) m cap) (xs.take m) W:=by
 rcases h.2 with ⟨rfl,h1⟩|⟨g,cap,cur,rfl,h4,h5,h6,h7,h8,h9⟩
 ·omega
 ·have hl:(xs.take m).length=m:=by rw [List.length_take]; omega
  refine ⟨g,cap,rfl,by omega,⟨by rw [aa9 hk],.inr ⟨g,cap,cur,by rw [hl],h4,h5,by omega,h7,h8,?_⟩⟩⟩;rw [hl];have e1:xs.flatMap cl=(xs.take m).flatMap cl++(xs.drop m).flatMap cl:=by rw [<- List.flatMap_append,List.take_append_drop]
  have e2:cur.toList.take (m*k)=(cur.toList.take (xs.length*k)).take (m*k):=by
   rw [List.take_take,Nat.min_eq_left (Nat.mul_le_mul_right k hm)]
  rw [e2,h9,e1,List.take_append_of_le_length (by rw [aa9 hk,hl]; exact Nat.le_refl _),List.take_of_length_le (by rw [aa9 hk,hl]; exact Nat.le_refl _)]
end
theorem Lns.append {B:Nat} {w w1:World} {p:Option Addr} {n c:Nat} {ls ys:List ByteArray} {v:Value} (h:Lns B (.slice p n c) ls w1) (hn:ls.length=n) (hb:Below B w w1) (hB:B<=w1.heap.size) {B':Nat} (hv:Lns B' v ys w1) (hy:0<ys.length) (hbig:n+ys.length<=100000):
  ∃ pv cv,v= .slice pv ys.length cv/\∃ g' cap' W',(Builtin.append_ #[31,31] 31 #[.slice p n c,.slice pv ys.length cv]).run prog w1= .ok (.slice (some ⟨g',0,none⟩) (n+ys.length) cap') W'/\
   Lns B (.slice (some ⟨g',0,none⟩) (n+ys.length) cap') (ls++ys) W'/\Below B w W'/\Turn (Value.slice p n c).ownBlock.toList w1 W'/\((Value.slice p n c).ownBlock=some g'\/w1.heap.size<=g'):=by
 subst hn;obtain ⟨g,cv,rfl,-,hc⟩:=Ol.cells elemStr.len hv hy;obtain ⟨g',cap',W',hrun,hO,hT,hat⟩:=Ol.append elemStr h hB (c:=cv) ys rfl hy hc (by omega) 31;exact ⟨_,_,rfl,g',cap',W',hrun,hO,own_below h hb hB hT,hT,hat⟩
structure FbAt (w:World) (g T n:Nat) (fe:Nat->List Fe):Prop where
 ex:∃ C,Blk 90 w g C/\C.size=n/\∀ j,j<n->∃ v,C[j]?=some v/\Lf (g+1) v (fe j) w/\∀ b,v.ownBlock=some b->b<T
 lt:g<T
theorem FbL.at {w wr:World} {g n:Nat} {fe:Nat->List Fe} (h:FbL w g n fe n wr):FbAt wr g wr.heap.size n fe:=by
 obtain ⟨C,h1,h2,h3,-⟩:=h.ex;exact ⟨⟨C,h1,h2,fun j hj=>by obtain ⟨v,q1,q2⟩:=h3 j hj; exact ⟨v,q1,q2,fun b e=>(q2.lt e).1⟩⟩,h1.lt⟩
theorem FbAt.turn {w w':World} {g T n:Nat} {fe:Nat->List Fe} (h:FbAt w g T n fe) {L:List Nat} (t:Turn L w w') (hL:∀ x,x∈L->x<g\/T<=x):FbAt w' g T n fe:=by
 obtain ⟨C,h1,h2,h3⟩:=h.ex;have hlt:=h.lt;refine ⟨⟨C,h1.turn t (fun hm=>by rcases hL _ hm with e|e<;>omega),h2,fun j hj=>?_⟩,h.lt⟩;obtain ⟨v,q1,q2,q3⟩:=h3 j hj;exact ⟨v,q1,q2.turn t (fun b e hm=>by
  have a1:=(q2.lt e).2;have a2:=q3 b e;rcases hL _ hm with e|e<;>omega),q3⟩
theorem FbAt.held {w w':World} {g T n:Nat} {fe:Nat->List Fe} (h:FbAt w g T n fe) (hb:Below w.heap.size w w'):FbAt w' g T n fe:=h.turn (L:=[]) (.of_below [] hb) (fun x hx=>by cases hx)
theorem FbAt.row {w:World} {g T n:Nat} {fe:Nat->List Fe} (h:FbAt w g T n fe) {j:Nat} (hj:j<n):∃ p cap,w.cell? ⟨g,j,none⟩=some (.slice p (fe j).length cap)/\Lf (g+1) (.slice p (fe j).length cap) (fe j) w:=by
 obtain ⟨C,h1,h2,h3⟩:=h.ex;obtain ⟨v,q1,q2,-⟩:=h3 j hj;obtain ⟨p,cap,rfl,-⟩:=q2.form;exact ⟨p,cap,(h1.at_ j).trans q1,q2⟩
end
section
open Go.RowKit Go.Maps Rm Sb
attribute [local go_sem] Oper.semAt_some
def Mld (s:Sv) (i:Nat) (fe:List Fe) (ls:List ByteArray):Prop:=
 (s.r=none/\ls=[downL i])\/∃ d room sp M c z,s=⟨d,some ⟨room,sp,M⟩,c,z⟩/\ls=mLines i M fe/\fe.length<=1000/\(∀ e∈fe,Pk.ok ⟨e.a,e.n⟩/\-9223372036854775808<=e.nx/\e.nx<=9223372036854775807)/\M.seq<4294967296/\M.sm.lease<4294967296
theorem Mld.pos {s:Sv} {i:Nat} {fe:List Fe} {ls:List ByteArray} (h:Mld s i fe ls):0<ls.length/\ls.length<=1001:=by
 rcases h with ⟨-,rfl⟩|⟨d,room,sp,M,c,z,-,rfl,hl,-⟩
 ·simp
 ·simp [mLines]; omega
theorem bl8 {O:Nat->Prop} {w0 w:World} {N n:Nat} {st:Nat->Sv} {os:List Dg} (h:Bo O w0 w N n st os) {i:Nat} (hi:i<n) {fe:List Fe} {ls:List ByteArray} (hm:Mld (st i) i fe ls) (ht:Tab w) {B cap:Nat} {A:Option Addr} (hf:Lf B (.slice A fe.length cap) fe w):
  Calls prog 34 #[.pointer (some ⟨N,0,none⟩),.int .i64 i,.slice A fe.length cap] w fun e w'=>∃ v,e= .returned v/\Lns w.heap.size v ls w'/\Below w.heap.size w w':=by
 rcases hm with ⟨hr,rfl⟩|⟨d,room,sp,M,c,z,hs,rfl,hl,hfit,h1,h2⟩
 ·exact bg3 h hi hr ht
 ·exact bx8 h hi hs ht hf rfl hl hfit h1 h2
def cameL (zs:List Int):List ByteArray:=zs.map fun z=>lineS [eW z]
def machL (ls:Nat->List ByteArray):Nat->List ByteArray
 |0=>[]
 |k+1=>machL ls k++ls k
theorem bg5 {ls:Nat->List ByteArray} {n:Nat} (h:∀ i,i<n->(ls i).length<=1001):∀ k,k<=n->(machL ls k).length<=k*1001
 |0,_=>by simp [machL]
 |k+1,hk=>by
  have h1:=bg5 h k (by omega);have h2:=h k (by omega);simp only [machL,List.length_append];omega
structure PdR (w:World) (ls:List ByteArray) (v:Value) (wr:World):Prop where
 ls:Lns w.heap.size v ls wr
 below:Below w.heap.size w wr
theorem PdR.len {w wr:World} {ls:List ByteArray} {p:Option Addr} {n c:Nat} (h:PdR w ls (.slice p n c) wr):ls.length=n:=by
 obtain ⟨p',c',e,-⟩:=Ol.form h.ls
 cases e;rfl
theorem PdR.held {w wr w1:World} {ls:List ByteArray} {v:Value} (h:PdR w ls v wr) (hb:Below wr.heap.size wr w1):PdR w ls v w1:=⟨h.ls.held hb,h.below.trans (hb.mono h.below.size)⟩
theorem PdR.push {w wr:World} {ls:List ByteArray} {p:Option Addr} {n c:Nat} (h:PdR w ls (.slice p n c) wr) (s:ByteArray) (hbig:n<=100000):
  ∃ g' cap' W',(Builtin.append_ #[31,31] 31 #[.slice p n c,.slice (some ⟨wr.heap.size,0,none⟩) 1 1]).run prog (wr.alloc (.cells #[.string s] 9))= .ok (.slice (some ⟨g',0,none⟩) (n+1) cap') W'/\PdR w (ls++[s]) (.slice (some ⟨g',0,none⟩) (n+1) cap') W':=by
 obtain ⟨g',cap',W',hrun,h1,h2⟩:=h.ls.push h.len h.below h.below.size s hbig;exact ⟨g',cap',W',hrun,h1,h2⟩
theorem PdR.append {w wr:World} {ls ys:List ByteArray} {p:Option Addr} {n c B':Nat} {v:Value} (h:PdR w ls (.slice p n c) wr) (hv:Lns B' v ys wr) (hy:0<ys.length) (hbig:n+ys.length<=100000):
  ∃ pv cv,v= .slice pv ys.length cv/\∃ g' cap' W',(Builtin.append_ #[31,31] 31 #[.slice p n c,.slice pv ys.length cv]).run prog wr= .ok (.slice (some ⟨g',0,none⟩) (n+ys.length) cap') W'/\PdR w (ls++ys) (.slice (some ⟨g',0,none⟩) (n+ys.length) cap') W'/\Turn (Value.slice p n c).ownBlock.toList wr W'/\((Value.slice p n c).ownBlock=some g'\/wr.heap.size<=g'):=by
 obtain ⟨pv,cv,e,g',cap',W',hrun,h1,h2,h3,h4⟩:=h.ls.append h.len h.below h.below.size hv hy hbig;exact ⟨pv,cv,e,g',cap',W',hrun,⟨h1,h2⟩,h3,h4⟩
theorem ca1 {zs:List Int} {k:Nat} (hk:k<zs.length):cameL (zs.take (k+1))=cameL (zs.take k)++[lineS [eW zs[k]]]:=by
 unfold cameL;rw [List.take_succ_eq_append_getElem hk,List.map_append];rfl
theorem bw8 {A:Option Addr} {m cap nn sec:Nat} {es:List Sc.Ev} {w:World} (hE:Sp.El w A m cap es) (hm:m<=501) (h1:1<=nn) (h8:nn<=8) (hs1:4<=sec) (hs2:sec<=512) (ht:Tab w) {P:(Nat->Nat)->Nat->List Int->(Nat->Sv)->List Dg->Prop}
  (h0:∀ d,P d 0 [] (fun i=>⟨d i,none,fun _=>0,⟨i+1,sec / 2 - 1,sm0⟩⟩) [])
  (hs:∀ (N:Nat) (d:Nat->Nat) (k:Nat) zs st os O wx (hk:k<es.length),P d k zs st os->Bo O wx wx N nn st os->Calls prog 38 #[.pointer (some ⟨N,0,none⟩),.agg (Sp.ecs es[k])] wx fun x w'=>∃ z,x= .returned (.int .i64 z)/\∃ st' os',P d (k+1) (zs++[z]) st' os'/\Bo O wx w' N nn st' os')
  {zs:List Int} {fe:Nat->List Fe} {ls:Nat->List ByteArray} (hz:∀ z∈zs,0<=z/\z<=7) (hend:∀ d zs' st os,P d m zs' st os->zs'=zs/\∀ i,i<nn->Fibd (st i) (fe i)/\Mld (st i) i (fe i) (ls i))
  (hfind:∀ w' g T,FbAt w' g T nn fe->Calls prog 35 #[.slice (some ⟨g,0,none⟩) nn nn] w' fun e w2=>e= .returned (.tuple #[.int .i64 0,.int .u32 0,.bool false])/\Below w'.heap.size w' w2):
  Calls prog 20 #[.int .i64 (nn:Nat),.int .i64 (sec:Nat),.slice A m cap] w fun e w'=>∃ p n c,e= .returned (.slice p n c)/\PdR w (cameL zs++machL ls nn) (.slice p n c) w':=by
 have HEv:=al4 hE (by omega) h1 h8 hs1 hs2 h0 hs;have hcp:=hE.cap;have hmz:(m:Int)<=501:=by omega
 have hmin:min (m:Int) 501=m:=Int.min_eq_left hmz;have K:=H4 ht hz hend hfind;clear hE h0 hs ht hz hend hfind;go_enter Tryz.func20,Tryz.ntmps20;go_wp2_with fail;refine HEv.mono ?_;rintro x w1 ⟨N,d,v,rfl,hR⟩;have hbR:=hR.below;obtain ⟨zs',st,os,hP,hzl,hN,hO,-⟩:=hR.ex;obtain ⟨rfl,hme⟩:=K.out.2.2.1 d zs' st os hP;obtain ⟨vp,vc,rfl,-⟩:=hO.form;rw [hzl] at hO ⊢;have X:=H4 hN hO hme hzl;have R0:Hid (PdR w1 [] (.slice none 0 0) w1):=Lib.hid ⟨Ol.nil _ _,.refl _ _⟩;have B1:=Lib.hid hbR;clear HEv hR hP hN hO hme hzl hbR;go_wp2_with fail;go_loopw [9,30] (fun v ix wr=>∃ (k:Nat) (p:Option Addr) (c:Nat),ix= .int .i64 (k:Nat)/\v= .slice p k c/\k<=m/\Hid (PdR w1 (cameL (zs'.take k)) (.slice p k c) wr)) (fun _ ix _=>m - (intOf ix).toNat)
 case atStart=>exact ⟨0,_,_,rfl,rfl,Nat.zero_le _,R0⟩
 case round=>
  clear R0;obtain ⟨k,p,c,rfl,rfl,hkm,Y⟩:=hrel;by_cases hlt:k<m
  ·have hkz:(k:Int)<(m:Int):=by omega
   have hkl:k<zs'.length:=by rw [X.out.2.2.2]; exact hlt
   obtain ⟨g,cp,eA,-,-,hc⟩:=Ol.at_ elemI.len (X.out.2.1.held Y.out.below) hkl;injection eA with eA1 eA2 eA3;subst eA1;obtain ⟨z,hzk⟩:∃ z,zs'[k]=z:=⟨_,rfl⟩;have hzr:=K.out.2.1 _ (List.getElem_mem hkl);have c0:=hc 0 (by omega);rw [hzk] at c0 hzr;rw [Nat.mul_one,Nat.add_zero] at c0;replace c0:_=some (Value.int .i64 z):=c0;have HL:=ak8 wr [(34,.int .i64 z)] [eW z] (n:=1) rfl rfl (by omega) (fun s hs=>by
    simp only [List.mem_cons,List.not_mem_nil,or_false] at hs;subst hs;exact bq4 z) (fun j q x hj hx=>by
     match j,hj,hx with
     |0,hj,hx=>cases hj; cases hx; exact as9 _ z hzr.1 hzr.2)
   replace HL:Calls prog 21 #[.slice (some ⟨wr.heap.size,0,none⟩) 1 1] (wr.alloc (.cells #[.iface 34 (.int .i64 z)] 95)) fun e w'=>e= .returned (.string (lineS [eW z]))/\Below wr.heap.size wr w':=HL
   have hcs:=ca1 hkl;rw [hzk] at hcs;obtain ⟨s,hs⟩:∃ s,lineS [eW z]=s:=⟨_,rfl⟩;rw [hs] at HL hcs;have V:=H2 hcs hkl;clear hc eA2 eA3 hzr hcs hs hzk;go_wp2_with fail;refine HL.mono ?_;rintro e w2 ⟨rfl,hb2⟩;obtain ⟨g',cap',W',hrun,hM⟩:=(Y.out.held hb2).push s (by omega);rw [<- V.out.1] at hM;have Z:=Lib.hid hM;clear HL hb2 hM c0;go_wp2_with (first|(at_builtin; refine Lib.wpList_append_run _ rfl (.tmp 34) (.tmp 39) 31 31 rfl _ _ rfl rfl _ _ hrun ?_)|fail);go_roundw
   case rel=>exact ⟨k+1,_,_,by go_num,rfl,by omega,Z⟩
   case measure=>simp [intOf]; omega
  ·obtain rfl:k=m:=by omega
   have hY:=Y.out;rw [<- X.out.2.2.2,List.take_length,X.out.2.2.2] at hY;have hN2:=X.out.1.held hY.below;have HF:=dg0 hN2 (fe:=fe) (fun i hi=>(X.out.2.2.1 i hi).1);have Y2:=Lib.hid hY;have hblk:∀ b,(Value.slice p k c).ownBlock=some b->b<wr.heap.size:=fun b e=>(hY.ls.lt e).1
   have HBl:=Lib.hid hblk;clear Y hY hN2 hblk;go_wp2_with fail;refine HF.mono ?_;rintro e w3 ⟨rfl,hFb⟩;have HSz:=cn2 (X.out.1.held (Y2.out.held hFb.below).below);have hfa:=hFb.at;have Y3:=H2 (Y2.out.held hFb.below) hfa;have R3:Hid (PdR w1 (cameL zs'++machL ls 0) (.slice p k c) w3/\FbAt w3 wr.heap.size w3.heap.size nn fe/\(∀ b,(Value.slice p k c).ownBlock=some b->b<wr.heap.size\/w3.heap.size<=b)):=Lib.hid ⟨by rw [show machL ls 0=[] from rfl,List.append_nil]; exact Y3.out.1,Y3.out.2,fun b e=> .inl (HBl.out b e)⟩;have hw3:=Lib.hid (Y3.out.1.below);clear HF hFb hfa Y2 Y3 HBl;generalize wr.heap.size=g at*;generalize hT:w3.heap.size=T at*;have HTs:=Lib.hid hT;clear hT;go_wp2_with (first|(go_at_call 33; refine HSz.mono ?_; rintro e w4 ⟨rfl,rfl⟩)|fail);clear HSz;go_loopw [9,46] (fun v ix wr2=>∃ (q:Nat) (p2:Option Addr) (n2 c2:Nat),ix= .int .i64 (q:Nat)/\v= .slice p2 n2 c2/\q<=nn/\Hid (PdR w1 (cameL zs'++machL ls q) (.slice p2 n2 c2) wr2/\FbAt wr2 g T nn fe/\(∀ b,(Value.slice p2 n2 c2).ownBlock=some b->b<g\/T<=b)/\T<=wr2.heap.size)) (fun _ ix _=>nn - (intOf ix).toNat)
   case atStart=>exact ⟨0,_,_,_,rfl,rfl,Nat.zero_le _,Lib.hid ⟨R3.out.1,R3.out.2.1,R3.out.2.2,Nat.le_of_eq HTs.out.symm⟩⟩
   case round=>
    clear R3 HTs;obtain ⟨q,p2,n2,c2,rfl,rfl,hq,Y⟩:=hrel;by_cases hlt2:q<nn
    ·have hqz:(q:Int)<(nn:Int):=by omega
     obtain ⟨pf,cf,d0,hLf⟩:=Y.out.2.1.row hlt2;have hM:=bl8 (X.out.1.held Y.out.1.below) hlt2 (X.out.2.2.1 q hlt2).2 ((K.out.1.held B1.out).held Y.out.1.below) hLf;have hpos:=(X.out.2.2.1 q hlt2).2.pos;have hn2:n2<=10000:=by
      have a1:=Y.out.1.len;have a2:=bg5 (ls:=ls) (n:=nn) (fun i hi=>(X.out.2.2.1 i hi).2.pos.2) q hq;have a3:(cameL zs').length=k:=by unfold cameL; rw [List.length_map,X.out.2.2.2]
      rw [List.length_append,a3] at a1;omega
     obtain ⟨fl,hfl⟩:∃ fl,(fe q).length=fl:=⟨_,rfl⟩;rw [hfl] at hM d0;have V:=H2 hpos hn2;clear hLf hpos hn2 hfl;go_wp2_with fail;refine hM.mono ?_;rintro e w4 ⟨v4,rfl,hv4,hb4⟩;obtain ⟨pv,cv,rfl,g',cap',W',hrun,hP2,hT,hat⟩:=(Y.out.1.held hb4).append hv4 V.out.1.1 (by have:=V.out.1.2; have:=V.out.2; omega);rw [List.append_assoc] at hP2;have Z:Hid (PdR w1 (cameL zs'++machL ls (q+1)) (.slice (some ⟨g',0,none⟩) (n2+(ls q).length) cap') W'/\FbAt W' g T nn fe/\(∀ b,(Value.slice (some ⟨g',0,none⟩) (n2+(ls q).length) cap').ownBlock=some b->b<g\/T<=b)/\T<=W'.heap.size):=Lib.hid ⟨hP2,(Y.out.2.1.held hb4).turn hT (fun x hx=>Y.out.2.2.1 x (by simpa using hx)),fun b e=>by
      cases e;rcases hat with e2|e2
      ·exact Y.out.2.2.1 _ e2
      ·exact .inr (Nat.le_trans Y.out.2.2.2 (Nat.le_trans hb4.size e2)),Nat.le_trans Y.out.2.2.2 (Nat.le_trans hb4.size hT.size)⟩
     clear hM hv4 hb4 hP2 hT hat d0;go_wp2_with (first|(at_builtin; refine Lib.wpList_append_run _ rfl (.tmp 49) (.tmp 56) 31 31 rfl _ _ rfl rfl _ _ hrun ?_)|fail);go_roundw
     case rel=>exact ⟨q+1,_,_,_,by go_num,rfl,by omega,Z⟩
     case measure=>simp [intOf]; omega
    ·obtain rfl:q=nn:=by omega
     have HFd:=K.out.2.2.2 _ g T Y.out.2.1;clear hq hlt2;go_wp2_with fail;refine HFd.mono ?_;rintro e w5 ⟨rfl,hb5⟩;have Z:=Lib.hid ((Y.out.1.held hb5));clear HFd hb5 Y;go_wp2_with fail;go_ret;exact ⟨_,_,_,rfl,Z.out.ls.mono B1.out.size,next B1.out Z.out.below⟩
def manyA:ByteArray:=⟨#[109,97,110,121]⟩
def errL (ez at_:Int):List ByteArray:=if ez=0 then [] else [lineS [errA,eW ez,atA,nS at_]]
def cutL (ls:List ByteArray):List ByteArray:=if 500<ls.length then ls.take 500++[manyA] else ls
theorem da2 {A:Option Addr} {n cap nn sec m:Nat} {at_ ez:Int} {es:List Sc.Ev} {w:World} {pl:List ByteArray} (hnn:0<nn)
  (HD:Calls prog 19 #[.slice A n cap] w fun x w'=>∃ (A':Option Addr) (c':Nat),x= .returned (.tuple #[.int .i64 (nn:Nat),.int .i64 (sec:Nat),.slice A' m c',.int .i64 at_,.int .i64 ez])/\Hid (Sp.El w' A' m c' es/\Below w.heap.size w w'))
  (HP:∀ w' A' c',Below w.heap.size w w'->Sp.El w' A' m c' es->Calls prog 20 #[.int .i64 (nn:Nat),.int .i64 (sec:Nat),.slice A' m c'] w' fun e w2=>∃ p n c,e= .returned (.slice p n c)/\PdR w' pl (.slice p n c) w2)
  (ht:Tab w) (hz:0<=ez/\ez<=7) (hat:-9223372036854775808<=at_/\at_<=9223372036854775807) (hpl:pl.length<=50000):
  Calls prog 9 #[.slice A n cap] w fun e w'=>∃ p n c,e= .returned (.slice p n c)/\Lns w.heap.size (.slice p n c) (cutL (pl++errL ez at_)) w'/\Below w.heap.size w w':=by
 have d0:decide (0<nn)=true:=decide_eq_true hnn;have K:=H5 HP ht hz hat hpl;clear HP ht hat hpl;go_enter Tryz.func9,Tryz.ntmps9;go_wp2_with fail;refine HD.mono ?_;rintro x w1 ⟨A',c',rfl,X⟩;have HPl:=K.out.1 w1 A' c' X.out.2 X.out.1;have B1:=Lib.hid X.out.2;clear HD X;go_wp2_with fail;refine HPl.mono ?_;rintro x w2 ⟨p,k,c,rfl,hP⟩;have hk:=hP.len;have hk2:k<=50000:=by have:=K.out.2.2.2.2; omega
 have Y:=H2 hP hk;clear HPl hP hk;by_cases he:ez=0
 ·subst he
  have E:=Lib.hid (show pl++errL 0 at_=pl by unfold errL; rw [if_pos rfl,List.append_nil]);by_cases hbig:500<k
  ·have d5:decide ((500:Int)<(k:Int))=true:=decide_eq_true (by omega)
   obtain ⟨g,cp,e1,hc,hcut⟩:=Ol.cut elemStr.len Y.out.1.ls (m:=500) (by rw [Y.out.2]; omega) (by omega);injection e1 with e1 e2 e3;subst e1 e3;obtain ⟨g',cap',W',hrun,h1,h2⟩:=Lns.push (s:=manyA) (show Lns w1.heap.size _ _ w2 from hcut) (by rw [List.length_take,Y.out.2]; omega) Y.out.1.below Y.out.1.below.size (by omega);have F:=Lib.hid (show cutL pl=pl.take 500++[manyA] by unfold cutL; rw [if_pos (by rw [Y.out.2]; exact hbig)]);have Z:=H2 h1 h2;have hz5:(500:Int)<=(c:Int):=by omega
   have hc5:500<=c:=hc;clear h1 h2 hcut e2 hc;unfold manyA at hrun;go_wp2_with (first|(at_builtin; refine Lib.wpList_append_run _ rfl (.tmp 40) (.tmp 41) 31 31 rfl _ _ rfl rfl _ _ hrun ?_)|fail);go_ret;refine ⟨_,_,_,rfl,?_,next B1.out Z.out.2⟩;rw [E.out,F.out];exact Z.out.1.mono B1.out.size
  ·have d5:decide ((500:Int)<(k:Int))=false:=decide_eq_false (by omega)
   have F:=Lib.hid (show cutL pl=pl by unfold cutL; rw [if_neg (by rw [Y.out.2]; exact hbig)]);go_wp2_with fail;go_ret;refine ⟨_,_,_,rfl,?_,next B1.out Y.out.1.below⟩;rw [E.out,F.out];exact Y.out.1.ls.mono B1.out.size
 ·have dz:(ez !=0)=true:=by simpa using he
  have E:=Lib.hid (show errL ez at_=[lineS [errA,eW ez,atA,nS at_]] by unfold errL; rw [if_neg he]);have HL:=ak8 w2 [(58,.string errA),(34,.int .i64 ez),(58,.string atA),(59,.int .i64 at_)] [errA,eW ez,atA,nS at_] (n:=4) rfl rfl (by omega) (fun s hs=>by
   simp only [List.mem_cons,List.not_mem_nil,or_false] at hs;rcases hs with rfl|rfl|rfl|rfl
   ·exact ai5 (by decide)
   ·exact bq4 _
   ·exact ai5 (by decide)
   ·exact ak1 _ K.out.2.2.2.1.1 K.out.2.2.2.1.2) (fun j q x hj hx=>by
    match j,hj,hx with
    |0,hj,hx=>cases hj; cases hx; exact ab4 _ errA
    |1,hj,hx=>cases hj; cases hx; exact as9 _ ez hz.1 hz.2
    |2,hj,hx=>cases hj; cases hx; exact ab4 _ atA
    |3,hj,hx=>cases hj; cases hx; exact ac5 _ at_ K.out.2.2.2.1.1 K.out.2.2.2.1.2 ((K.out.2.1.held B1.out).held Y.out.1.below))
  replace HL:Calls prog 21 #[.slice (some ⟨w2.heap.size,0,none⟩) 4 4] (w2.alloc (.cells #[.iface 58 (.string ⟨#[101,114,114,111,114]⟩),.iface 34 (.int .i64 ez),.iface 58 (.string ⟨#[97,116]⟩),.iface 59 (.int .i64 at_)] 95)) fun e w'=>e= .returned (.string (lineS [errA,eW ez,atA,nS at_]))/\Below w2.heap.size w2 w':=HL
  obtain ⟨s,hs⟩:∃ s,lineS [errA,eW ez,atA,nS at_]=s:=⟨_,rfl⟩;rw [hs] at HL E;have HH:=Lib.hid he;clear hs he hz;go_wp2_with fail;refine HL.mono ?_;rintro e w3 ⟨rfl,hb3⟩;obtain ⟨g1,cap1,W1,hrun1,hP1⟩:=(Y.out.1.held hb3).push s (by omega);have hl1:(pl++[s]).length=k+1:=by simp [Y.out.2]
  have Y1:=H2 hP1 hl1;obtain ⟨k1,hk1⟩:∃ k1,k+1=k1:=⟨_,rfl⟩;rw [hk1] at hrun1 Y1;replace hrun1:(Builtin.append_ #[31,31] 31 #[.slice p k c,.slice (some ⟨w3.heap.size,0,none⟩) 1 1]).run prog (w3.alloc (.cells #[.string s] 9))= .ok (.slice (some ⟨g1,0,none⟩) k1 cap1) W1:=hrun1;clear HL hb3 hP1 hl1;by_cases hbig:500<k1
  ·have d5:decide ((500:Int)<(k1:Int))=true:=decide_eq_true (by omega)
   obtain ⟨g,cp,e1,hc,hcut⟩:=Ol.cut elemStr.len Y1.out.1.ls (m:=500) (by rw [Y1.out.2]; omega) (by omega);injection e1 with e1 e2 e3;subst e3;injection e1 with e1;injection e1 with e1;subst e1;obtain ⟨g',cap',W',hrun,h1,h2⟩:=Lns.push (s:=manyA) (show Lns w1.heap.size _ _ W1 from hcut) (by rw [List.length_take,Y1.out.2]; omega) Y1.out.1.below Y1.out.1.below.size (by omega);have F:=Lib.hid (show cutL (pl++[s])=(pl++[s]).take 500++[manyA] by unfold cutL; rw [if_pos (by rw [Y1.out.2]; exact hbig)]);have Z:=H2 h1 h2;have hz5:(500:Int)<=(cap1:Int):=by omega
   have hc5:500<=cap1:=hc;clear h1 h2 hcut e2 hc hk1;unfold manyA at hrun;go_wp2_with (first|(at_builtin; refine Lib.wpList_append_run _ rfl (.tmp 25) (.tmp 34) 31 31 rfl _ _ rfl rfl _ _ hrun1 ?_)|(at_builtin; refine Lib.wpList_append_run _ rfl (.tmp 40) (.tmp 41) 31 31 rfl _ _ rfl rfl _ _ hrun ?_)|fail);go_ret;refine ⟨_,_,_,rfl,?_,next B1.out Z.out.2⟩;rw [E.out,F.out];exact Z.out.1.mono B1.out.size
  ·have d5:decide ((500:Int)<(k1:Int))=false:=decide_eq_false (by omega)
   have F:=Lib.hid (show cutL (pl++[s])=pl++[s] by unfold cutL; rw [if_neg (by rw [Y1.out.2]; exact hbig)]);clear hk1;go_wp2_with (first|(at_builtin; refine Lib.wpList_append_run _ rfl (.tmp 25) (.tmp 34) 31 31 rfl _ _ rfl rfl _ _ hrun1 ?_)|fail);go_ret;refine ⟨_,_,_,rfl,?_,next B1.out Y1.out.1.below⟩;rw [E.out,F.out];exact Y1.out.1.ls.mono B1.out.size
end
section
open Go.RowKit Go.Maps Rm Fm Sb
def bev (i:Nat):Sc.Ev:=⟨0,(i:Nat),0,0,0,0,[]⟩
theorem ao7 {i:Nat} (h:i<8):Sc.right (bev i)=true/\(bev i).a<4294967296:=by
 have:i=0\/i=1\/i=2\/i=3\/i=4\/i=5\/i=6\/i=7:=by omega
 rcases this with rfl|rfl|rfl|rfl|rfl|rfl|rfl|rfl<;>exact ⟨by decide+kernel,by decide⟩
def qU (d:Nat->Nat) (sec i:Nat):Sv:=svS (d i) (i+1) (sec / 2 - 1) 90000 c00 fN 0 ⟨i+1,sec / 2 - 1,sm0⟩
def qD (d:Nat->Nat) (sec i:Nat):Sv:=⟨d i,none,fun _=>0,⟨i+1,sec / 2 - 1,sm0⟩⟩
theorem cf0 {O:Nat->Prop} {w0 w:World} {N nn sec:Nat} {d:Nat->Nat} {st:Nat->Sv} (h:Bo O w0 w N nn st []) {i:Nat} (hi:i<nn) (hs:st i=qD d sec i):
  Calls prog 64 #[.pointer (some ⟨N,0,none⟩),.int .i64 i] w fun e w'=>e= .returned (.int .i64 0)/\Bo O w0 w' N nn (sets st i (qU d sec i)) []:=by
 refine (bo5 h hi (d:=d i) (room:=sec / 2 - 1) (sm:=sm0) (c:=fun _=>0) hs (fun _=>⟨by decide,by decide⟩)).mono ?_;rintro e w' ⟨rfl,h2⟩;rw [bs1] at h2;exact ⟨rfl,h2⟩
end
section
open Go.RowKit Go.Maps
attribute [local go_sem] Oper.semAt_some
theorem Lns.at_ {B n c:Nat} {p:Option Addr} {ls:List ByteArray} {w:World} (h:Lns B (.slice p n c) ls w) {k:Nat} (hk:k<ls.length):∃ g,p=some ⟨g,0,none⟩/\w.cell? ⟨g,k,none⟩=some (.string ls[k])/\n<=c:=by
 obtain ⟨g,cap,e,h1,h2,hc⟩:=Ol.at_ elemStr.len h hk;injection e with e1 e2 e3;have c0:=hc 0 (by omega);rw [Nat.mul_one,Nat.add_zero] at c0;exact ⟨g,e1,c0,by omega⟩
theorem dh6 {w:World} {Ba Bb n ca cb:Nat} {pa pb:Option Addr} {ls:List ByteArray} (ha:Lns Ba (.slice pa n ca) ls w) (hb:Lns Bb (.slice pb n cb) ls w) (hn:ls.length=n) (hbig:n<=100000):
  Calls prog 8 #[.slice pa n ca,.slice pb n cb] w fun e w'=>e= .returned (.bool true)/\Below w.heap.size w w':=by
 have mixed:prog.follows .mixedOrders=true:=by decide
 have H:=H3 ha hb hn;clear ha hb hn;go_enter Tryz.func8,Tryz.ntmps8;go_wp2_with fail;go_loopw [13] (fun i wr=>∃ k q:Nat,i= .int .i64 (k:Nat)/\k<=n/\wr=w.drewN q) (fun i _=>n - (intOf i).toNat)
 case atStart=>exact ⟨0,0,rfl,Nat.zero_le _,rfl⟩
 case round=>
  obtain ⟨k,q,rfl,hk,rfl⟩:=hrel;by_cases hlt:k<n
  ·have hkz:(k:Int)<(n:Int):=by omega
   have hkl:k<ls.length:=by rw [H.out.2.2]; exact hlt
   obtain ⟨ga,rfl,c0,hca⟩:=H.out.1.at_ hkl;obtain ⟨gb,rfl,c1,hcb⟩:=H.out.2.1.at_ hkl;obtain ⟨s,hs⟩:∃ s,ls[k]=s:=⟨_,rfl⟩;rw [hs] at c0 c1;have d0:(w.drewN q).cell? ⟨ga,k,none⟩=some (.string s):=c0;have d1:(w.drewN q).cell? ⟨gb,k,none⟩=some (.string s):=c1;clear c0 c1 hs hkl;generalize hw:w.drewN q=wr at*;have HW:=Lib.hid hw;clear hw;go_wp2_with fail;go_region;all_goals go_wp2_with fail
   go_roundw
   case rel=>exact ⟨k+1,q+1,by go_num,by omega,by rw [<- HW.out]; rfl⟩
   case measure=>simp [intOf]; omega
  ·obtain rfl:k=n:=by omega
   go_wp2_with fail;go_ret;exact ⟨rfl,ac8 (.refl _ _) _⟩
end
section
open Go.RowKit Go.Maps Rm Fm Sb
attribute [local go_sem] Oper.semAt_some
def okA:ByteArray:=⟨#[111,107]⟩
theorem db8:lineS [eW 0]=okA:=by decide+kernel
theorem Ol.ne {α β:Type} {e e':TypeId} {cl:α->List Value} {cl':β->List Value} {k k' B B':Nat} {v v':Value} {xs:List α} {ys:List β} {W:World} (h:Ol e cl k B v xs W) (h':Ol e' cl' k' B' v' ys W) (hne:e≠e') {b:Nat} (hb:v.ownBlock=some b):v'.ownBlock≠some b:=fun hb'=>by
 obtain ⟨C,hC⟩:=h.blk hb;obtain ⟨C',hC'⟩:=h'.blk hb';unfold Blk at hC hC';rw [hC] at hC';injection hC' with q1;injection q1 with q1 q2;exact hne q2
structure QwR (w:World) (v7 v8:Value) (es:List Sc.Ev) (ls:List ByteArray) (wr:World):Prop where
 ev:Sp.Oe w.heap.size v7 es wr
 ls:Lns w.heap.size v8 ls wr
 below:Below w.heap.size w wr
section
variable {w wr w1:World} {v7 v8:Value} {es:List Sc.Ev} {ls:List ByteArray}
theorem QwR.held (h:QwR w v7 v8 es ls wr) (hb:Below wr.heap.size wr w1):QwR w v7 v8 es ls w1:=⟨Ol.held h.ev hb,h.ls.held hb,h.below.trans (hb.mono h.below.size)⟩
theorem QwR.event {p:Option Addr} {n c:Nat} (h:QwR w (.slice p n c) v8 es ls wr) (e:Sc.Ev) (hn:n<=1000):
  ∃ g' cap' W',(Builtin.append_ #[30,30] 30 #[.slice p n c,.slice (some ⟨wr.heap.size,0,none⟩) 1 1]).run prog (wr.alloc (.cells (Sp.ecl e).toArray 29))= .ok (.slice (some ⟨g',0,none⟩) (n+1) cap') W'/\QwR w (.slice (some ⟨g',0,none⟩) (n+1) cap') v8 (es++[e]) ls W':=by
 obtain ⟨p',c',e1,-⟩:=Ol.form h.ev;injection e1 with e1 e2 e3;subst e2;obtain ⟨g',cap',W',hrun,hO,hT,hat⟩:=Ol.push1 Sp.elemE h.ev h.below.size e (by omega) 30;exact ⟨g',cap',W',hrun,hO,Ol.turn h.ls hT (fun b hb hm=>Ol.ne h.ls h.ev (by decide) hb (by simpa using hm)),own_below h.ev h.below h.below.size hT⟩
theorem QwR.line {p:Option Addr} {n c:Nat} (h:QwR w v7 (.slice p n c) es ls wr) (s:ByteArray) (hn:n<=1000):
  ∃ g' cap' W',(Builtin.append_ #[31,31] 31 #[.slice p n c,.slice (some ⟨wr.heap.size,0,none⟩) 1 1]).run prog (wr.alloc (.cells #[.string s] 9))= .ok (.slice (some ⟨g',0,none⟩) (n+1) cap') W'/\QwR w v7 (.slice (some ⟨g',0,none⟩) (n+1) cap') es (ls++[s]) W':=by
 obtain ⟨p',c',e1,-⟩:=Ol.form h.ls;injection e1 with e1 e2 e3;subst e2;obtain ⟨g',cap',W',hrun,hO,hT,hat⟩:=Ol.push1 elemStr h.ls h.below.size s (by omega) 31;exact ⟨g',cap',W',hrun,Ol.turn h.ev hT (fun b hb hm=>Ol.ne h.ev h.ls (by decide) hb (by simpa using hm)),hO,own_below h.ls h.below h.below.size hT⟩
end
theorem bi8 (m:Nat):cameL (List.replicate m 0)=List.replicate m okA:=by
 unfold cameL;rw [List.map_replicate,db8]
theorem bf3 {nn ss:Nat} {es:List Sc.Ev} (h1:nn<256) (h2:ss<65536):(Sc.script nn ss es).getD 0 0=nn/\(Sc.script nn ss es).getD 1 0*256+(Sc.script nn ss es).getD 2 0=ss/\(Sc.script nn ss es).drop 3=Sc.flat es:=by
 refine ⟨?_,?_,rfl⟩
 ·show nn % 256=nn
  omega
 ·show ss / 256 % 256*256+ss % 256=ss
  omega
end
end Go.Proofs.YtpljkpnebibbaaaGreatDoor
