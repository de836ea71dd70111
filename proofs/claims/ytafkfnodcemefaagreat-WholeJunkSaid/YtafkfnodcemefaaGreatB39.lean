import Derived.Test.YtafkfnodcemefaaGreatB36
import Derived.Test.YtafkfnodcemefaaGreatB38
set_option maxHeartbeats 8000000
set_option maxRecDepth 100000
namespace Go.Proofs.YtafkfnodcemefaaGreat
open _root_.Go.Proofs.Tryz (prog)
section
open Go.RowKit Go.Maps Rm Fm Sb
attribute [local go_sem] Oper.semAt_some
theorem dz9 {F:List Nat} {w:World} {R sp:Nat} {J:Jm} {M:Mr} (h:Gz F w R J sp M):
  Q 68 #[K R] w fun e w'=>∃ v rs,e= .returned v/\Subj M rs/\rs.length<=100001100/\SjAt w' v rs/\(∀ b,v.ownBlock=some b->w.heap.size<=b)/\Bw w w':=by
 obtain ⟨o,fl,tb,N,n,S,Mp,hF',hR,hD,hd,hJ,hNl,hgood,h5⟩:=h.ex;have h1:=hJ.len;have h2:=hJ.fit;have h3:=hJ.n;exact dw2 hR G
theorem ca1 {M:Mr} {J:Jm} {rs:List En} {k:Nat} (hk:k<rs.length):M.tellSG J (rs.take (k+1))=((M.tellSG J (rs.take k)).1++((M.tellSG J (rs.take k)).2.2.tell1G (M.tellSG J (rs.take k)).2.1 rs[k]).1,((M.tellSG J (rs.take k)).2.2.tell1G (M.tellSG J (rs.take k)).2.1 rs[k]).2):=by
 rw [List.take_succ_eq_append_getElem hk,Mr.tellSG_snoc]
structure TdG (F:List Nat) (W1:World) (R sp:Nat) (J:Jm) (M:Mr) (rs:List En) (k:Nat) (v:Value) (w:World):Prop where
 ex:∃ F',Gz F' w R (M.tellSG J (rs.take k)).2.1 sp (M.tellSG J (rs.take k)).2.2/\Turn F W1 w/\(∀ y,y∈F'->y∈F\/W1.heap.size<=y)/\∀ b,v.ownBlock=some b->b∉F'
 lu:T.Lu W1.heap.size v (M.tellSG J (rs.take k)).1 w
theorem dv5 {B:Nat} {p:Option Addr} {n c:Nat} {us:List T.Tm.Up} {w:World} (h:T.Lu B (.slice p n c) us w) (hle:B<=w.heap.size) (hbig:us.length+1<=1000000000) (x:T.Tm.Up):
  ∃ g' cap' W6,(Builtin.append_ #[48,48] 48 #[.slice p n c,Lt w.heap.size 1 1]).run prog (w.alloc (.cells #[U x.a,I x.len,U x.id,U x.seq,V x.met] 71))= .ok (Lt g' (us.length+1) cap') W6/\T.Lu B (Lt g' (us.length+1) cap') (us++[x]) W6/\Turn (Value.slice p n c).ownBlock.toList w W6/\((Value.slice p n c).ownBlock=some g'\/w.heap.size<g'):=by
 obtain ⟨hb,hX⟩:=nw w 71 #[U x.a,I x.len,U x.id,U x.seq,V x.met];have hs:=aa1 w (.cells #[U x.a,I x.len,U x.id,U x.seq,V x.met] 71);have h5:=h.held hb;obtain ⟨g',cap',W6,hrun,h6,hg6,hat⟩:=T.run_us h5 (Nat.le_trans hle hb.size) (ad:=⟨w.heap.size,0,none⟩) (m:=1) (c:=1) (news:=[x]) rfl (fun jj vv hv=>by
  rw [Addr.add_mid,Nat.zero_add,hX.at_ jj];simpa [T.ucl,T.Tm.Up.cs,T.ucs] using hv) G G 48
 refine ⟨g',cap',W6,hrun,h6,⟨hg6.os.trans hb.os,hg6.tape.trans hb.tape,hg6.output.trans hb.output,Nat.le_trans hb.size hg6.size,fun i hi hn=>?_⟩,?_⟩
 ·refine (hg6.block i G (fun e=>?_)).trans (hb.block i hi)
  rw [<- e] at hn;simp at hn
 ·rcases hat with h|h
  ·exact .inl h
  ·exact .inr G
theorem dz7 {F:List Nat} {w:World} {R sp:Nat} {J:Jm} {M:Mr} (h:Gz F w R J sp M) (hG:M.Good):
  Q 87 #[K R] w fun e w'=>∃ v rs,e= .returned v/\Subj M rs/\rs.length<=100001100/\T.Lu w.heap.size v (M.tellSG J rs).1 w'/\Goeg F w R (M.tellSG J rs).2.1 sp (M.tellSG J rs).2.2 w':=by
 have HS:=dz9 h;have X:=H2 h hG;clear h hG;go_enter Tryz.func87,Tryz.ntmps87;go_wp2_with fail;refine HS.mono ?_;rintro e w1 ⟨v,rs,rfl,hS,hl20,hat,hown,hb⟩;obtain ⟨p,cap,rfl⟩:=hat.form;have h1:=X.out.1.held hb;have hrl:rs.length<=100001100:=hl20;have R0:TdG F w1 R sp J M rs 0 (.slice none 0 0) w1:=⟨⟨F,h1,.refl _ _,fun _ h=> .inl h,fun b e=>by cases e⟩,T.Lu.nil _ _⟩;have hFs:∀ b,(Value.slice p rs.length cap).ownBlock=some b->b∉F/\b<w1.heap.size:=fun b e=>⟨fun hm=>by have:=X.out.1.lt hm; have:=hown b e; omega,by
  rcases hat with ⟨e2,-⟩|⟨g,cap',e2,hg,-⟩
  ·rw [e2] at e; cases e
  ·rw [e2] at e; cases e; exact hg⟩
 have HR:=Zq R0;have Y:=H5 hS hat hb h1 hFs;clear HS R0 hS hat hown hb h1 hFs;go_wp2_with fail;go_loopw [3,11] (fun l i wr=>∃ k:Nat,k<=rs.length/\i= I k/\Hid (TdG F w1 R sp J M rs k l wr)) (fun _ i _=>rs.length - (intOf i).toNat)
 case atStart=>exact ⟨0,og,rfl,HR.out⟩
 case round=>
  clear HR;obtain ⟨k,hk,rfl,hR⟩:=hrel;by_cases hkl:k<rs.length
  ·rcases Y.out.2.1 with ⟨e,hnil⟩|⟨g,cap',e,hg,hc,Fq,hS,hF⟩
   ·rw [hnil] at hkl
    simp at hkl
   ·cases e
    obtain ⟨F',hz,t1,n1,hv⟩:=hR.out.ex;have hS2:=hS.of_block (t1.block g hg (Y.out.2.2.2.2 _ rfl).1);have hFk:=hF k hkl;obtain ⟨⟨ea,en,on⟩,he⟩:∃ e,rs[k]=e:=⟨_,rfl⟩;rw [he] at hFk;have c0:=hS2.c0 k hkl;have c1:=hS2.c1 k hkl;have c2:=hS2.c2 k hkl;rw [hFk] at c0 c1 c2;dsimp only at c0 c1 c2;have hp:=Y.out.1.ok (List.getElem_mem hkl);rw [he] at hp;dsimp only at hp;obtain ⟨b1,E1⟩:=nw wr 142 #[U ea,I en,O on];have hz1:=hz.held b1;have HU:=du2 (on:=on) hz1 (X.out.2.of_f (Mr.tellSG_same _ _ _).2.1) hp;obtain ⟨Ln,hLn⟩:∃ Ln,(M.tellSG J (rs.take k)).1.length=Ln:=⟨_,rfl⟩;have hLl:Ln<=100001100:=by
     have:=Mr.tellSG_len (rs.take k) M J;rw [List.length_take] at this;omega
    obtain ⟨p0,cc,rfl,-⟩:=hR.out.lu.form;have hv':∀ b,(Value.slice p0 (M.tellSG J (rs.take k)).1.length cc).ownBlock=some b->b∉F':=hv;rw [hLn];have lu2:=hR.out.lu.held b1;have t2:=t1.and_below b1;have hs2:w1.heap.size<=(wr.alloc (.cells #[U ea,I en,O on] 142)).heap.size:=t2.size;have Z:=H7 lu2 he hLn t2 n1 hv' hs2;clear lu2 t2 hs2 hLn hR hS hS2 hF hFk he hc hz t1 n1 hv hv' hz1 hg;go_upto_region 5 with fail;generalize wr.alloc _=w2 at*;generalize wr.heap.size=Ee at*;clear c0 c1 c2;have e0:w2.cell? (Aa Ee 0)=some (U ea):=E1.at_ 0;have e1:w2.cell? (Aa Ee 1)=some (I en):=E1.at_ 1;have e2:w2.cell? (Aa Ee 2)=some (O on):=E1.at_ 2;go_upto_region 6 with (go_at_call 119; refine HU.mono ?_; rintro e w3 ⟨⟨xa,xl,xi,xs,xm⟩,ok,rfl,hu,F3,hz3,t3,n3⟩);obtain ⟨lu2,he,hLn,t2,n1,hv',hs2⟩:=Z.out;obtain ⟨hb4,U4⟩:=nw w3 71 #[U xa,I xl,U xi,U xs,V xm];have hok:(if ok=true then [(⟨xa,xl,xi,xs,xm⟩:T.Tm.Up)] else [])=((M.tellSG J (rs.take k)).2.2.tell1G (M.tellSG J (rs.take k)).2.1 ⟨ea,en,on⟩).1:=hu;have lu3:=lu2.turn t3 hv';have T3:=t2.beyond t3 n1;have N3:∀ y,y∈F3->y∈F\/w1.heap.size<=y:=fun y hy=>(n3 y hy).elim (n1 y) (fun h=> .inr (Nat.le_trans hs2 h))
    have V3:∀ b,(Value.slice p0 (M.tellSG J (rs.take k)).1.length cc).ownBlock=some b->b∉F3:=fun b e hm=>(n3 b hm).elim (hv' b e) (fun h=>by have:=(lu2.lt e).1; omega)
    have lu4:=lu3.held hb4;have T4:=T3.and_below hb4;have hz4:=hz3.held hb4;have hTk:=ca1 hkl (M:=M) (J:=J);rw [he,<- hok] at hTk;have S:=H7 lu4 T4 hz4 N3 V3 hTk hLn;clear HU e0 e1 e2 E1 lu2 he hLn t2 n1 hv' hs2 hb4 hok hu lu3 T3 N3 V3 lu4 T4 hz4 hTk hz3 t3 n3 Z;generalize w3.alloc _=w4 at*;generalize w3.heap.size=Ug at*;have u0:w4.cell? (Aa Ug 0)=some (U xa):=U4.at_ 0;have u1:w4.cell? (Aa Ug 1)=some (I xl):=U4.at_ 1;have u2:w4.cell? (Aa Ug 2)=some (U xi):=U4.at_ 2;have u3:w4.cell? (Aa Ug 3)=some (U xs):=U4.at_ 3;have u4:w4.cell? (Aa Ug 4)=some (V xm):=U4.at_ 4;clear U4
    cases ok with
    |true=>
     obtain ⟨g',cap2,W6,hrun,hL6,T6,hg6⟩:=dv5 S.out.1 S.out.2.1.size (by rw [S.out.2.2.2.2.2.2]; omega) ⟨xa,xl,xi,xs,xm⟩;rw [S.out.2.2.2.2.2.2] at hrun hL6;obtain ⟨L1,hL1⟩:=ey (Ln+1);rw [hL1] at hrun hL6;clear hL1;have hsub:∀ y,y∈(Value.slice p0 (M.tellSG J (rs.take k)).1.length cc).ownBlock.toList->(Value.slice p0 (M.tellSG J (rs.take k)).1.length cc).ownBlock=some y:=fun y hy=>by simpa using hy
     have G:=Zq (show TdG F w1 R sp J M rs (k+1) (Lt g' L1 cap2) W6 from ⟨by
      rw [S.out.2.2.2.2.2.1];refine ⟨F3,S.out.2.2.1.turn T6 (fun x hx hm=>S.out.2.2.2.2.1 x (hsub x hm) hx),S.out.2.1.beyond T6 (fun y hy=> .inr (S.out.1.lt (hsub y hy)).2),S.out.2.2.2.1,fun b e hm=>?_⟩
      cases e;rcases hg6 with h|h
      ·exact S.out.2.2.2.2.1 _ h hm
      ·have:g'<w4.heap.size:=S.out.2.2.1.lt hm
       omega,by
      rw [S.out.2.2.2.2.2.1];exact hL6⟩)
     clear hL6 T6 hg6 S hsub;go_wp2_with (first|(at_builtin; refine Lib.wpList_append_run _ rfl (.tmp 22) (.tmp 24) 48 48 rfl _ _ rfl rfl _ _ hrun ?_)|fail);go_roundw
     case rel=>exact ⟨k+1,og,by go_num,G.out⟩
     case measure=>simp [intOf]; omega
    |false=>
     have G:=Zq (show TdG F w1 R sp J M rs (k+1) (.slice p0 Ln cc) w4 from ⟨by
      rw [S.out.2.2.2.2.2.1];refine ⟨F3,S.out.2.2.1,S.out.2.1,S.out.2.2.2.1,fun b e=>?_⟩;rw [<- S.out.2.2.2.2.2.2] at e;exact S.out.2.2.2.2.1 b e,by
      rw [S.out.2.2.2.2.2.1,if_neg (by decide),List.append_nil,<- S.out.2.2.2.2.2.2];exact S.out.1⟩)
     clear S;go_wp2_with fail;go_roundw
     case rel=>exact ⟨k+1,og,by go_num,G.out⟩
     case measure=>simp [intOf]; omega
  ·have hk2:k=rs.length:=og
   subst hk2;obtain ⟨⟨F',hz,t1,n1,hv⟩,hf⟩:=hR.out;rw [List.take_length] at hf hz;have H:=Zq (And.intro hf (And.intro (show Goeg F w1 R (M.tellSG J rs).2.1 sp (M.tellSG J rs).2.2 _ from ⟨F',hz,t1,n1⟩) Y.out.2.2.1));clear hf hz t1 n1 hv hR;go_wp2_with fail;go_ret;exact ⟨_,rs,rfl,Y.out.1,hrl,dc7 H.out.1 Y.out.2.2.1.size,Goeg.before H.out.2.2 H.out.2.1⟩
end
section
open Go.RowKit Go.Maps Rm Fm Sb
theorem bo3 {B:Nat} {p:Option Addr} {n c:Nat} {es:List Fe} {w:World} (h:Lf B (.slice p n c) es w) (hle:B<=w.heap.size) (hbig:es.length+1<=1000000000) (e:Fe):
  ∃ g' cap' W6,(Builtin.append_ #[40,40] 40 #[.slice p n c,Lt w.heap.size 1 1]).run prog (w.alloc (.cells #[U e.a,I e.n,I e.how,I e.nx] 43))= .ok (Lt g' (es.length+1) cap') W6/\Lf B (Lt g' (es.length+1) cap') (es++[e]) W6/\∀ w0,Below B w0 w->Below B w0 W6:=by
 obtain ⟨hb,hX⟩:=nw w 43 #[U e.a,I e.n,I e.how,I e.nx];have h5:=h.held hb;have hle5:=Nat.le_trans hle hb.size;obtain ⟨g',cap',W6,hrun,h6,hg6,-⟩:=run_fs h5 hle5 (ad:=⟨w.heap.size,0,none⟩) (m:=1) (c:=1) (news:=[e]) rfl (fun jj vv hv=>by
  rw [Addr.add_mid,Nat.zero_add,hX.at_ jj];simpa [fcl] using hv) G G 40
 exact ⟨g',cap',W6,hrun,h6,fun w0 h0=>(h0.trans (hb.mono hle)).grown hg6 hle5 (fun kk e=>(h5.lt e).2)⟩
theorem cr8 {w:World} {R:Nat} {o fl tb:Option Nat} {j:Jr} {N n:Nat} {M:Mr} (h:Rr w R o fl tb j N n M) (hnn:2*N+n<=100001100):
  Q 34 #[K R] w fun e w'=>∃ v rs,e= .returned v/\Subj M rs/\Lf w.heap.size v (rs.flatMap M.entry) w'/\Bw w w':=by
 have HS:=dw2 h hnn;have X:=Zq h;clear h;go_enter Tryz.func34,Tryz.ntmps34;go_wp2_with fail;refine HS.mono ?_;rintro e w1 ⟨v,rs,rfl,hS,hl20,hat,hown,hb⟩;obtain ⟨p,cap,rfl⟩:=hat.form;have h1:=X.out.held hb;have hrl:rs.length<=100001100:=hl20;have R0:FbR w1 M rs 0 (.slice none 0 0) w1:=⟨by rw [List.take_zero]; exact Lf.nil _ _,.refl _ _⟩;have HR:=Zq R0;have Y:=H4 hS hat hb h1;clear HS R0 hS hat hown hb h1;go_wp2_with fail;go_loopw [3,11] (fun l i wr=>∃ k:Nat,k<=rs.length/\i= I k/\FbR w1 M rs k l wr) (fun _ i _=>rs.length - (intOf i).toNat)
 case atStart=>exact ⟨0,og,rfl,HR.out⟩
 case round=>
  clear HR;obtain ⟨k,hk,rfl,hR⟩:=hrel;by_cases hkl:k<rs.length
  ·rcases Y.out.2.1 with ⟨e,hnil⟩|⟨g,cap',e,hg,hc,F,hS,hF⟩
   ·rw [hnil] at hkl
    simp at hkl
   ·cases e
    have hS2:=hS.held hg hR.b;have hFk:=hF k hkl;obtain ⟨⟨ea,en,on⟩,he⟩:∃ e,rs[k]=e:=⟨_,rfl⟩;rw [he] at hFk;have c0:=hS2.c0 k hkl;have c1:=hS2.c1 k hkl;have c2:=hS2.c2 k hkl;rw [hFk] at c0 c1 c2;dsimp only at c0 c1 c2;have hp:=Y.out.1.ok (List.getElem_mem hkl);rw [he] at hp;dsimp only at hp;obtain ⟨b1,E1⟩:=nw wr 142 #[U ea,I en,O on];have hw1:=((Y.out.2.2.2).held hR.b).held b1;obtain ⟨⟨fr,id,sq,mt,ex⟩,hr⟩:∃ r,(M.pick ea en).getD Rt.zero=r:=⟨_,rfl⟩;obtain ⟨ok,hok⟩:∃ ok,(M.pick ea en).isSome=ok:=⟨_,rfl⟩;obtain ⟨q,hq⟩:=ey (M.owns ⟨ea,en⟩);have HW:=ce6 hw1 hp hr hok;obtain ⟨Ln,hLn⟩:∃ Ln,((rs.take k).flatMap M.entry).length=Ln:=⟨_,rfl⟩;have hform:=hR.f.form;rw [hLn] at hform;obtain ⟨p0,cc,rfl,-⟩:=hform;have Z:=H7 hR he hr hok hq hp hLn;clear hLn hR hS hS2 hF hFk he hr hok hc;go_upto_region 5 with fail;generalize hw2:wr.alloc (.cells #[U ea,I en,O on] 142)=w2 at*;generalize hEe:wr.heap.size=Ee at*;have HE:=Zq hEe;clear hw2 hEe c0 c1 c2;have e0:w2.cell? (Aa Ee 0)=some (U ea):=E1.at_ 0;have e1:w2.cell? (Aa Ee 1)=some (I en):=E1.at_ 1;go_upto_region 6 with (go_at_call 61; refine HW.mono ?_; rintro e w3 ⟨rfl,hb3⟩);have hb4:=next hb3 (aa0 w3 (.cells #[I fr,U id,U sq,V mt,I ex] 130));have R4:=Blk.new w3 130 #[I fr,U id,U sq,V mt,I ex];have E4:=E1.held hb4;have HO:=ba7 (hw1.held hb4) hp;have B4:=Zq (b1.trans (hb4.mono (Nat.le_of_lt E1.lt)));rw [Z.out.2.2.2.2.1] at HO;clear HW hw1 hb3 hb4 b1 E1 e0 e1;generalize hw4:w3.alloc (.cells #[I fr,U id,U sq,V mt,I ex] 130)=w4 at*;generalize hGg:w3.heap.size=Gg at*;clear hw4 hGg;have f0:w4.cell? (Aa Ee 0)=some (U ea):=E4.at_ 0;have f1:w4.cell? (Aa Ee 1)=some (I en):=E4.at_ 1;have f2:w4.cell? (Aa Ee 2)=some (O on):=E4.at_ 2;have r0:w4.cell? (Aa Gg 0)=some (I fr):=R4.at_ 0;have hlt4:=Nat.le_of_lt E4.lt;clear E4 R4
    cases q with
    |true=>
     go_upto_region 7 with (go_at_call 60; refine HO.mono ?_; rintro e w5 ⟨rfl,hb5⟩);have B5:Hid (Below wr.heap.size wr w5):=Zq (by rw [HE.out]; exact B4.out.trans (hb5.mono hlt4));have g0:=held hb5 f0;have g1:=held hb5 f1;clear HO f0 f1 f2 r0 hb5 B4;obtain ⟨g',cap2,W6,hrun,hL6,hB6⟩:=bo3 (Z.out.1.f.held B5.out) (Nat.le_trans Z.out.1.b.size B5.out.size) (by have:=Z.out.1.len; omega) ⟨ea,en,1,0⟩;rw [Z.out.2.2.2.2.2.2] at hrun hL6; obtain ⟨L1,hL1⟩:=ey (Ln+1); rw [hL1] at hrun hL6; clear hL1;have G:=Zq (show FbR w1 M rs (k+1) (Lt g' L1 cap2) W6 from ⟨by rw [ba1 hkl,Z.out.2.1,Mr.entry_own Z.out.2.2.2.2.1]; exact hL6,hB6 _ (Z.out.1.b.trans (B5.out.mono Z.out.1.b.size))⟩);clear hL6 hB6;go_wp2_with (first|(at_builtin; refine Lib.wpList_append_run _ rfl (.tmp 27) (.tmp 31) 40 40 rfl _ _ rfl rfl _ _ hrun ?_)|fail);go_roundw
     case rel=>exact ⟨k+1,og,by go_num,G.out⟩
     case measure=>simp [intOf]; omega
    |false=>
     go_upto_region 8 with (go_at_call 60; refine HO.mono ?_; rintro e w5 ⟨rfl,hb5⟩);have B5:Hid (Below wr.heap.size wr w5):=Zq (by rw [HE.out]; exact B4.out.trans (hb5.mono hlt4));have g0:=held hb5 f0;have g1:=held hb5 f1;have g2:=held hb5 f2;have s0:=held hb5 r0;clear HO f0 f1 f2 r0 hb5 B4
     cases ok with
     |true=>
      go_upto_region 9 with fail;have hpk:M.pick ea en=some ⟨fr,id,sq,mt,ex⟩:=by
       have h1:=Z.out.2.2.1;obtain ⟨r,h2⟩:=Option.isSome_iff_exists.1 Z.out.2.2.2.1;rw [h2] at h1 ⊢;exact congrArg some h1
      have P:=Zq hpk;clear hpk;obtain ⟨g',cap2,W6,hrun,hL6,hB6⟩:=bo3 (Z.out.1.f.held B5.out) (Nat.le_trans Z.out.1.b.size B5.out.size) (by have:=Z.out.1.len; omega) ⟨ea,en,2,fr⟩;rw [Z.out.2.2.2.2.2.2] at hrun hL6; obtain ⟨L1,hL1⟩:=ey (Ln+1); rw [hL1] at hrun hL6; clear hL1;have G:=Zq (show FbR w1 M rs (k+1) (Lt g' L1 cap2) W6 from ⟨by rw [ba1 hkl,Z.out.2.1,Mr.entry_way Z.out.2.2.2.2.1 P.out]; exact hL6,hB6 _ (Z.out.1.b.trans (B5.out.mono Z.out.1.b.size))⟩);clear hL6 hB6;go_wp2_with (first|(at_builtin; refine Lib.wpList_append_run _ rfl (.tmp 35) (.tmp 41) 40 40 rfl _ _ rfl rfl _ _ hrun ?_)|fail);go_roundw
      case rel=>exact ⟨k+1,og,by go_num,G.out⟩
      case measure=>simp [intOf]; omega
     |false=>
      have P:=Zq (Option.not_isSome_iff_eq_none.1 (by rw [Z.out.2.2.2.1]; decide):M.pick ea en=none)
      cases on with
      |true=>
       go_upto_region 11 with fail;obtain ⟨g',cap2,W6,hrun,hL6,hB6⟩:=bo3 (Z.out.1.f.held B5.out) (Nat.le_trans Z.out.1.b.size B5.out.size) (by have:=Z.out.1.len; omega) ⟨ea,en,3,0⟩;rw [Z.out.2.2.2.2.2.2] at hrun hL6; obtain ⟨L1,hL1⟩:=ey (Ln+1); rw [hL1] at hrun hL6; clear hL1;have G:=Zq (show FbR w1 M rs (k+1) (Lt g' L1 cap2) W6 from ⟨by rw [ba1 hkl,Z.out.2.1,Mr.entry_hole Z.out.2.2.2.2.1 P.out rfl]; exact hL6,hB6 _ (Z.out.1.b.trans (B5.out.mono Z.out.1.b.size))⟩);clear hL6 hB6;go_wp2_with (first|(at_builtin; refine Lib.wpList_append_run _ rfl (.tmp 46) (.tmp 50) 40 40 rfl _ _ rfl rfl _ _ hrun ?_)|fail);go_roundw
       case rel=>exact ⟨k+1,og,by go_num,G.out⟩
       case measure=>simp [intOf]; omega
      |false=>
       go_wp2_with fail;go_roundw
       case rel=>exact ⟨k+1,og,by go_num,Z.out.1.skip hkl (by rw [Z.out.2.1]; exact Mr.entry_none Z.out.2.2.2.2.1 P.out rfl) B5.out⟩
       case measure=>simp [intOf]; omega
  ·have hk2:k=rs.length:=og
   subst hk2;obtain ⟨hf,hbb⟩:=hR;rw [List.take_length] at hf;have H:=H2 hf hbb;clear hf hbb;go_wp2_with fail;go_ret;exact ⟨_,rs,rfl,Y.out.1,H.out.1.mono Y.out.2.2.1.size,Y.out.2.2.1.trans (H.out.2.mono Y.out.2.2.1.size)⟩
theorem gz_fib {F:List Nat} {w:World} {R sp:Nat} {J:Jm} {M:Mr} (h:Gz F w R J sp M):
  Q 34 #[K R] w fun e w'=>∃ v rs,e= .returned v/\Subj M rs/\Lf w.heap.size v (rs.flatMap M.entry) w'/\Bw w w':=by
 obtain ⟨o,fl,tb,N,n,S,Mp,hF',hR,hD,hd,hJ,hNl,hgood,h5⟩:=h.ex;have h1:=hJ.len;have h2:=hJ.fit;have h3:=hJ.n;exact cr8 hR G
end
section
open Go.RowKit Go.Maps Rm Fm Sb
attribute [local go_sem] Oper.semAt_some
open Classical in
noncomputable def Mr.stepG (M:Mr) (J:Jm):Jm×Mr:=if M.aged.ownsAny then M.aged.advanceG J else (J,M.aged)
theorem Mr.stepG_on {M:Mr} {J:Jm} (h:M.aged.ownsAny):M.stepG J=((M.aged.advanceG J).1,(M.aged.advanceG J).2):=if_pos h
theorem Mr.stepG_off {M:Mr} {J:Jm} (h:¬ M.aged.ownsAny):M.stepG J=(J,M.aged):=if_neg h
theorem bo1 (M:Mr) (J:Jm):(M.advanceG J).2.id=M.id/\(M.advanceG J).2.f=M.f/\(M.advanceG J).2.c=M.c/\(M.advanceG J).2.now=M.now/\(M.advanceG J).2.d=M.d:=by
 have hd:∀ s,(M.leasedG J s).2.2.d=M.d:=fun s=>by unfold Mr.leasedG; split<;>rfl
 unfold Mr.advanceG;split
 ·exact ⟨rfl,rfl,rfl,rfl,rfl⟩
 ·split
  ·have h:=al1 M J M.next
   split
   ·exact ⟨h.1,h.2.1,h.2.2.1,h.2.2.2.1,hd _⟩
   ·exact ⟨h.1,h.2.1,h.2.2.1,h.2.2.2.1,hd _⟩
  ·exact ⟨rfl,rfl,rfl,rfl,rfl⟩
theorem stepG_same (M:Mr) (J:Jm):(M.stepG J).2.id=M.id/\(M.stepG J).2.f=M.aged.f/\(M.stepG J).2.c=M.c/\(M.stepG J).2.now=M.now+1/\(M.stepG J).2.d=M.d:=by
 unfold Mr.stepG;split
 ·exact bo1 M.aged J
 ·exact ⟨rfl,rfl,rfl,rfl,rfl⟩
open Classical in
noncomputable def Mr.subjs (M:Mr):List En:=if h:∃ rs,Subj M rs then h.choose else []
theorem Subj.subjs {M:Mr} {rs:List En} (h:Subj M rs):M.subjs=rs:=by
 have hx:∃ rs,Subj M rs:=⟨rs,h⟩;unfold Mr.subjs;rw [dif_pos hx];exact hx.choose_spec.unique h
noncomputable def Mr.tickG (M:Mr) (J:Jm):List (Nat×List Nat)×Jm×Mr:=(sends M.c (T.Tm.encode ((M.stepG J).2.tellSG (M.stepG J).1 (M.stepG J).2.subjs).1) 8,((M.stepG J).2.tellSG (M.stepG J).1 (M.stepG J).2.subjs).2)
theorem Mr.tickG_is {M M2:Mr} {J J2:Jm} {rs:List En} (h:M.stepG J=(J2,M2)) (hS:Subj M2 rs):M.tickG J=(sends M.c (T.Tm.encode (M2.tellSG J2 rs).1) 8,(M2.tellSG J2 rs).2):=by
 unfold Mr.tickG;rw [h];simp only;rw [hS.subjs]
theorem ca5 {M:Mr} {J:Jm} (hF:M.Fits) {e:En} (hp:Pk.ok ⟨e.a,e.n⟩):∀ u∈(M.tell1G J e).1,u.Fits:=by
 intro u hu;unfold Mr.tell1G at hu;split at hu
 ·split at hu
  ·cases hu
  ·simp only [List.mem_singleton] at hu
   subst hu;exact ⟨hp.1,hp.2.1,hp.2.2,hF.id.2,by have:=hF.seq; show M.seq<4294967296; omega,by show 0<65536; omega⟩
 ·split at hu
  ·rename_i r hr
   split at hu
   ·simp only [List.mem_singleton] at hu
    subst hu;have:=Mr.pick_fits hF (r:=r) (by rw [hr]; rfl);exact ⟨hp.1,hp.2.1,hp.2.2,this.id,this.seq,M.farN_lt r⟩
   ·cases hu
  ·split at hu
   ·simp only [List.mem_singleton] at hu
    subst hu;exact ⟨hp.1,hp.2.1,hp.2.2,by show 0<4294967296; omega,by show 0<4294967296; omega,by show 65535<65536; omega⟩
   ·cases hu
theorem ca6 {M:Mr} {J:Jm} (hF:M.Fits) (e:En):(M.tell1G J e).2.2.Fits:=by
 obtain ⟨a1,a2,a3,a4,a5,a6,a7⟩:=M.tell1G_same J e;exact ⟨by rw [a1]; exact hF.id,by rw [a2]; exact hF.f,by rw [a3]; exact hF.c,by rw [a4]; exact hF.now,by rw [a5]; exact hF.seq,by rw [a6,a4]; exact hF.since⟩
theorem bf3:∀ {l:List En} {M:Mr} {J:Jm} (_:M.Fits) (_:∀ e∈l,Pk.ok ⟨e.a,e.n⟩),∀ u∈(M.tellSG J l).1,u.Fits
 |[],_,_,_,_=>fun u hu=>by cases hu
 |e::r,M,J,hF,hp=>fun u hu=>by
  rcases List.mem_append.1 hu with h|h
  ·exact ca5 hF (hp e (List.mem_cons_self)) u h
  ·exact bf3 (ca6 hF e) (fun e he=>hp e (List.mem_cons_of_mem _ he)) u h
structure Tkg (F:List Nat) (w:World) (R:Nat) (J:Jm) (sp:Nat) (M:Mr) (v:Value) (w':World):Prop where
 ex:∃ F' B xs,Gz F' w' R (M.tickG J).2.1 sp (M.tickG J).2.2/\Turn F w w'/\(∀ y,y∈F'->(y∈F\/w.heap.size<=y)/\y<B)/\w.heap.size<=B/\Ot B v (M.tickG J).1 xs w'
theorem cj0 {F:List Nat} {w:World} {R sp:Nat} {J:Jm} {M:Mr} (h:Gz F w R J sp M):
  Q 84 #[K R] w fun e w'=>∃ q:Bool,e= .returned (O q)/\(q=true↔M.ownsAny)/\Bw w w':=by
 obtain ⟨o,fl,tb,j,N,n,hR⟩:=h.rr;exact bk8 hR
theorem dz8 {F:List Nat} {w:World} {R sp:Nat} {J:Jm} {M:Mr} (h:Gz F w R J sp M) (hG:M.Good) (hnow:M.now<1000000):
  Q 52 #[Pt R] w fun e w'=>∃ v,e= .returned v/\Tkg F w R J sp M v w':=by
 obtain ⟨o,fl,tb,j,N0,n0,hR⟩:=h.rr;have hF:=h.fits;have c0:w.cell? (Aa R 19)=some (I M.now):=hR.head.at_ 19;have f0:w.frozen? (Aa R 19)=false:=hR.head.free 19;have hn1:=hF.now;have hG1:Goeg F w R J sp { M with now:=M.now+1 } (w.setCell (Aa R 19) (I (M.now+1))):=h.of_head (M':={ M with now:=M.now+1 }) (fun o fl j tb hb=>by
  have:=hb.store 19 (I (M.now+1));rw [ch0] at this;exact this) rfl rfl (Turn.setCell _ sn _) ⟨hF.id,hF.f,hF.c,⟨by show 0<=M.now+1; omega,by show M.now+1<=1000000; omega⟩,hF.seq,⟨hF.since.1,by have:=hF.since.2; show M.since<=M.now+1; omega⟩⟩
 have X:=H3 h hG hG1;clear h hG hG1 hR hF;go_enter Tryz.func52,Tryz.ntmps52;go_upto_region 2 with fail;obtain ⟨F1,hz1,t1,n1⟩:=X.out.2.2;generalize w.setCell (Aa R 19) (I (M.now+1))=wA at*;clear c0 f0;replace hz1:=hz1.held (Below.refl _ _).drew;replace t1:=t1.drew;obtain ⟨o1,fl1,tb1,j1,N1,nn1,hR1⟩:=hz1.rr;have HX:Q 83 #[Qt R 10,I (M.now+1)] wA.drew fun e w'=>e= .returned (.tuple #[])/\Goeg F1 wA.drew R J sp M.aged w':=du4 hz1 (M.now+1)
 have k0:wA.drew.cell? (Aa R 19)=some (I (M.now+1)):=hR1.head.at_ 19;have Y:=H2 t1 n1;clear hz1 hR1 t1 n1;refine wp_region_held_drew (S:=fun u=>u.cell? (Aa R 19)=some (I (M.now+1))) kr k0 (fun hHeld=>?_);generalize wA.drew=wB at*;refine tk 0 (Pt R) rfl hHeld ?_;go_frame;refine tk 1 (Pt R) rfl hHeld ?_;go_frame;refine tk 2 (Qt R 10) rfl hHeld ?_;go_frame;refine tk 3 (Pt R) rfl hHeld ?_;go_frame;refine tk 4 (Pt R) rfl hHeld ?_;go_frame;refine tk 5 (Qt R 19) rfl hHeld ?_;go_frame;refine tk 6 (I (M.now+1)) rfl hHeld ?_;go_frame;refine rl 7 rfl fun K hK=>?_
 go_simp;refine HX.mono ?_;rintro e w3 ⟨rfl,F3,hz3,t3,n3⟩;have k3:w3.cell? (Aa R 19)=some (I (M.now+1)):=by
  obtain ⟨o1,fl1,tb1,j1,N1,nn1,hR1⟩:=hz3.rr;exact hR1.head.at_ 19
 refine hK.out _ _ k3 (fun hHeld=>?_);clear hK K k0 HX;have HO:=cj0 hz3;have t13:=Y.out.1.beyond t3 Y.out.2;have n13:∀ y,y∈F3->y∈F\/w.heap.size<=y:=fun y hy=>(n3 y hy).elim (Y.out.2 y) (fun h=> .inr (Nat.le_trans Y.out.1.size h))
 have Z:=H3 hz3 t13 n13;clear hz3 t3 n3 t13 n13 Y;refine wpAnyH_done kr ?_ _;try go_frame
 clear hHeld k3;go_upto_if 25 with (go_at_call 84; refine HO.mono ?_; rintro e w4 ⟨q,rfl,hq,hb4⟩);go_cut [] from 26 (fun u=>∃ F5 J2 M2,M.stepG J=(J2,M2)/\Gz F5 u R J2 sp M2/\Turn F w u/\(∀ y,y∈F5->y∈F\/w.heap.size<=y))
 case first=>
  have hz4:=Z.out.1.held hb4;have t4:=Z.out.2.1.and_below hb4
  cases q with
  |true=>
   have HA:=de9 (M:=M.aged) hz4;have V:=H3 t4 Z.out.2.2 (hq.1 rfl);clear hz4 t4 HO hq hb4;go_wp2_with (go_at_call 85; refine HA.mono ?_; rintro e w5 ⟨rfl,F5,hz5,t5,n5⟩);go_meet
   case rel=>exact ⟨F5,_,_,Mr.stepG_on V.out.2.2,hz5,V.out.1.beyond t5 V.out.2.1,fun y hy=>(n5 y hy).elim (V.out.2.1 y) (fun h=> .inr (Nat.le_trans V.out.1.size h))⟩
  |false=>
   have V:=Zq (And.intro t4 (And.intro Z.out.2.2 (And.intro hz4 (show ¬ M.aged.ownsAny from fun h=>by have:=hq.2 h; cases this))));clear hz4 t4 HO hq hb4;go_wp2_with fail;go_meet
   case rel=>exact ⟨F3,_,_,Mr.stepG_off V.out.2.2.2,V.out.2.2.1,V.out.1,V.out.2.1⟩
 case rest=>
  obtain ⟨F5,J2,M2,hT,hz5,t5,n5⟩:=hcut;have hTs:=stepG_same M J;rw [hT] at hTs;have HT:=dz7 hz5 (X.out.2.1.aged.of_f hTs.2.1);have hF2:=hz5.fits;have hc2:=hTs.2.2.1;have V:=H5 hT t5 n5 hF2 hc2;clear hT hz5 t5 n5 hF2 hc2 hTs HO Z hb4 hq;go_upto_region 6 with (first|(go_at_call 87; refine HT.mono ?_; rintro e w6 ⟨v0,rs,rfl,hS,hrl,hlu,F6,hz6,t6,n6⟩; have hfit:=bf3 (J:=J2) V.out.2.2.2.1 (fun e he=>hS.ok he); obtain ⟨A0,cap0,rfl,hul⟩:=hlu.ul hfit (by have:=Mr.tellSG_len rs M2 J2; omega); have HE:=T.encode_any hul; have U:=H4 hS hz6 t6 n6; have RL:=Zq hrl; clear hS hz6 t6 n6 hlu hul HT hfit hrl)|(go_at_call 86; refine HE.mono ?_; rintro e w7 ⟨v1,rfl,hLas,hb7⟩)|fail);have hds:(T.Tm.encode (M2.tellSG J2 rs).1).length<=100001101:=by
   have h1:=RL.out;have h2:=Mr.tellSG_len rs M2 J2;have h3:=bz3 (M2.tellSG J2 rs).1;omega
  have hrow:∀ d∈T.Tm.encode (M2.tellSG J2 rs).1,d.length<=5000/\∀ c∈d,c<256:=fun d hd=>by
   obtain ⟨-,h1,h2,-⟩:=T.Tm.encode_fine _ d hd;exact ⟨by omega,h2⟩
  obtain ⟨pa,ca,rfl,hca⟩:=hLas.form;obtain ⟨o7,fl7,tb7,j7,N7,nn7,hR7⟩:=(U.out.2.1.held hb7).rr;have hc3:(M2.tellSG J2 rs).2.2.c=M.c:=(Mr.tellSG_same rs M2 J2).2.2.1.trans V.out.2.2.2.2;have q0:=hR7.cost_cell (k:=0) og;have q1:=hR7.cost_cell (k:=1) og;have q2:=hR7.cost_cell (k:=2) og;have q3:=hR7.cost_cell (k:=3) og;have q4:=hR7.cost_cell (k:=4) og;have q5:=hR7.cost_cell (k:=5) og;have q6:=hR7.cost_cell (k:=6) og;have q7:=hR7.cost_cell (k:=7) og;rw [hc3] at q0 q1 q2 q3 q4 q5 q6 q7;obtain ⟨ds,hdse⟩:=ey (T.Tm.encode (M2.tellSG J2 rs).1);rw [hdse] at hds hrow hLas hca;rw [hdse];have hF6:∀ y,y∈F6->y<w7.heap.size:=fun y hy=>Nat.lt_of_lt_of_le (U.out.2.1.lt hy) hb7.size
  have T0:TkR w7 M.c ds 0 0 (.slice none 0 0) w7:=⟨[],by simpa [sends] using Ot.nil _ _,.refl _ _⟩;have G:=H6 hLas hb7 hrow hF6 hdse T0;obtain ⟨Ld,hLd⟩:=ey ds.length;have HLd:=Zq hLd;rw [hLd] at hds hca;rw [hLd];clear hLas hb7 hrow hF6 T0 hR7 hc3 hLd HE hdse;go_wp2_with fail;go_loopw [4,35] (fun l i wr=>∃ k:Nat,k<=8/\i= I k/\Hid (TkR w7 M.c ds k 0 l wr)) (fun _ i _=>8 - (intOf i).toNat)
  case atStart=>exact ⟨0,og,rfl,G.out.2.2.2.2.2⟩
  case round=>
   clear q0 q1 q2 q3 q4 q5 q6 q7;obtain ⟨k,hk,rfl,S⟩:=hrel;by_cases hk8:k<8
   ·have hkz:(k:Int)<8:=og
    have hix:=ax9 M.c hk8;by_cases hcz:M.c k=0
    ·have d0:(M.c k==0)=true:=beq_iff_eq.2 hcz
     have S2:=Zq (show TkR w7 M.c ds (k+1) 0 _ _ from by
      obtain ⟨xs,h1,h2⟩:=S.out;refine ⟨xs,?_,h2⟩;rw [ap3,if_pos hcz];simpa using h1)
     clear S hcz;go_wp2_with fail;go_roundw
     case rel=>exact ⟨k+1,og,by go_num,S2⟩
     case measure=>simp [intOf]; omega
    ·have d0:(M.c k==0)=false:=beq_eq_false_iff_ne.2 hcz
     have HC:=Zq hcz;clear hcz;go_wp2_with fail;go_loopw [4,43] (fun l i wr2=>∃ j:Nat,j<=Ld/\i= I j/\Hid (TkR w7 M.c ds k j l wr2)) (fun _ i _=>Ld - (intOf i).toNat)
     case atStart=>exact ⟨0,og,rfl,S.out⟩
     case round=>
      clear S hix d0;obtain ⟨jj,hj,rfl,S⟩:=hrel;by_cases hjl:jj<Ld
      ·have hjz:(jj:Int)<(Ld:Int):=og
       have hjd:jj<ds.length:=by rw [HLd.out]; exact hjl
       obtain ⟨xs,hOt,hBw⟩:=S.out;obtain ⟨gb,cp,gi,ci,e,hcell,hOb,hge,-⟩:=(G.out.1.held hBw).inplace (i:=jj) hjd;rw [HLd.out] at e
       cases e;obtain ⟨bs,hbs⟩:=ey (ds.getD jj []);rw [hbs] at hcell hOb;have hbd:bs=ds[jj]:=by rw [<- hbs]; simp [hjd]
       have hbm:=G.out.2.2.1 bs (by rw [hbd]; exact List.getElem_mem hjd);have HCl:=cv3 (cap:=ci) (hOb.bytes hbm.2 hbm.1) hbm.1;obtain ⟨p0,cc,rfl,-⟩:=hOt.own.form;have hlen2:(sends M.c ds k++(ds.take jj).map fun d=>(k,d)).length<=1000000000:=by
        have h1:=cd6 M.c ds k;have h2:=Nat.mul_le_mul (show k<=8 by omega) (show ds.length<=100001101 by rw [HLd.out]; exact hds);rw [List.length_append,List.length_map,List.length_take];omega
       obtain ⟨Ln,hLn⟩:=ey xs.length;have hLo:=hOt.len;rw [hLn] at hOt hLo;obtain ⟨bl,hbl⟩:=ey bs.length;have U2:=H6 hOt hBw hbd hlen2 hLo hbl;rw [hbl] at hcell HCl;rw [hLn];clear hOt hBw hOb hge hbs hbd hbm hlen2 hLn hLo hbl S;go_wp2_with (first|(go_at_call 43; refine HCl.mono ?_; rintro e w8 ⟨g,cap',rfl,hg,hO8,hb8⟩; obtain ⟨g',cap2,W6,hrun,hO9,hT9⟩:=(U2.out.1.held hb8).push (Nat.le_trans U2.out.2.1.size hb8.size) (k:=k) (Nat.le_trans U2.out.2.1.size hg) (fun e=>by have:=(U2.out.1.own.lt e).1; omega) hO8 U2.out.2.2.2.1; rw [<- U2.out.2.2.2.2.1,U2.out.2.2.2.2.2] at hrun; rw [<- U2.out.2.2.2.2.1] at hO9; obtain ⟨L1,hL1⟩:=ey (Ln+1); rw [hL1] at hrun hO9; have S2:=Zq (show TkR w7 M.c ds k (jj+1) (Lt g' L1 cap2) W6 from ⟨_,by rw [az8 hjl HLd.out U2.out.2.2.1,<- List.append_assoc]; exact hO9,own_below (U2.out.1.held hb8).own (U2.out.2.1.trans (hb8.mono U2.out.2.1.size)) (Nat.le_trans U2.out.2.1.size hb8.size) hT9⟩); clear HCl hO8 hb8 hg hO9 hT9 hL1)|(at_builtin; refine Lib.wpList_append_run _ rfl (.tmp 47) (.tmp 52) 118 118 rfl _ _ rfl rfl _ _ hrun ?_)|fail);go_roundw
       case rel=>exact ⟨jj+1,og,by go_num,S2⟩
       case measure=>simp [intOf]; omega
      ·obtain rfl:jj=Ld:=og
       have S2:=Zq (show TkR w7 M.c ds (k+1) 0 _ _ from by
        obtain ⟨xs,h1,h2⟩:=S.out;refine ⟨xs,?_,h2⟩;rw [ap3,if_neg HC.out];rw [List.take_of_length_le (by rw [HLd.out]; exact Nat.le_refl _)] at h1;simpa using h1)
       clear S;go_wp2_with fail;go_roundw
       case rel=>exact ⟨k+1,og,by go_num,S2⟩
       case measure=>simp [intOf]; omega
   ·obtain rfl:k=8:=og
    clear hk8 hk;go_wp2_with fail;go_ret;obtain ⟨xs,h1,h2⟩:=S.out;have hs7:w.heap.size<=w7.heap.size:=Nat.le_trans V.out.2.1.size (Nat.le_trans U.out.2.2.1.size G.out.2.1.size);have htk:=Mr.tickG_is V.out.1 U.out.1;refine ⟨_,rfl,⟨F6,w7.heap.size,xs,by rw [htk]; exact (U.out.2.1.held G.out.2.1).held h2,?_,fun y hy=>⟨?_,G.out.2.2.2.1 y hy⟩,hs7,?_⟩⟩
    ·exact ((V.out.2.1.beyond U.out.2.2.1 V.out.2.2.1).and_below G.out.2.1).and_below h2
    ·rcases U.out.2.2.2 y hy with h|h
     ·exact V.out.2.2.1 y h
     ·exact .inr (Nat.le_trans V.out.2.1.size h)
    ·rw [htk,G.out.2.2.2.2.1]
     simpa using h1
end
section
open Go.RowKit Go.Maps Rm
attribute [local go_sem] Oper.semAt_some
theorem ea0 {w:World} {d S Mp id:Nat} {sm:Sm} {J:Jm} {D:Dm} (hlt:d<w.heap.size/\S<w.heap.size/\Mp<w.heap.size)
  (HO:Q 107 #[Pt d,U id] w fun e w'=>∃ lb o fl N,e= .returned (.tuple #[Pt lb,I 0])/\Notes 111 (lgX d J.first J.size J.gen J.len J.laid) w' lb o fl id N sm/\N<=J.len/\(∀ y,y∈fp lb o fl->w.heap.size<=y)/\Dq w' d S Mp D/\Turn [d,S,Mp] w w')
  (hJ:J.Ok) (hD0:J.D=D) (hgs:GoodSm sm) (h0:0<id) (h1:id<4294967296):
  Q 77 #[Pt d,U id] w fun e w'=>∃ R o fl,e= .returned (.tuple #[Pt R,I 0])/\Gz ([d,S,Mp]++rp R o fl none) w' R J 100000000 (mr1 id d sm)/\(∀ y,y∈rp R o fl none->w.heap.size<=y)/\Turn [d,S,Mp] w w':=by
 obtain ⟨lease,hls⟩:=ey sm.lease;obtain ⟨first,hfi⟩:∃ x,J.first=x:=⟨_,rfl⟩;obtain ⟨half,hha⟩:∃ x,J.size=x:=⟨_,rfl⟩;obtain ⟨gen,hge⟩:∃ x,J.gen=x:=⟨_,rfl⟩;obtain ⟨len,hle⟩:∃ x,J.len=x:=⟨_,rfl⟩;obtain ⟨laid,hla⟩:∃ x,J.laid=x:=⟨_,rfl⟩;have hjr:J.jr d=⟨d,first,half,gen,len,laid⟩:=by unfold Jm.jr; rw [hfi,hha,hge,hle,hla]
 rw [hfi,hha,hge,hle,hla] at HO;have HJ:=H7 hJ hD0 hgs hjr hls hlt hle;clear hJ hD0 hgs hjr hls hlt hfi hha hge hle hla;go_enter Tryz.func77,Tryz.ntmps77;go_wp2_with fail;refine HO.mono ?_;rintro e w1 ⟨lb,o,fl,N,rfl,hNt,hNl,hlb,hD,hT⟩;have HN:=Zq hNl;clear hNl;obtain ⟨cn,cm,hnm,hSt⟩:=hNt;have LB:Blk 111 w1 lb #[U id,U lease,.map o,.map fl,Pt d,I first,I half,U gen,I len,O laid]:=by
  rw [<- HJ.out.2.2.2.2.1];exact hSt.head
 have X:=H5 hD hT hlb hSt hnm;clear HO hD hT hSt hnm hlb;have l0:w1.drew.cell? (Aa lb 0)=some (U id):=LB.at_ 0;have l1:w1.drew.cell? (Aa lb 1)=some (U lease):=LB.at_ 1;have l2:w1.drew.cell? (Aa lb 2)=some (.map o):=LB.at_ 2;have l3:w1.drew.cell? (Aa lb 3)=some (.map fl):=LB.at_ 3;have l4:w1.drew.cell? (Aa lb 4)=Np d:=LB.at_ 4;have l5:w1.drew.cell? (Aa lb 5)=some (I first):=LB.at_ 5;have l6:w1.drew.cell? (Aa lb 6)=some (I half):=LB.at_ 6;have l7:w1.drew.cell? (Aa lb 7)=some (U gen):=LB.at_ 7;have l8:w1.drew.cell? (Aa lb 8)=some (I len):=LB.at_ 8;have l9:w1.drew.cell? (Aa lb 9)=some (O laid):=LB.at_ 9;clear LB;go_upto_region 4 with fail;refine wp_region_held_drew (S:=fun u=>u.cell? (Aa lb 0)=some (U id)/\u.cell? (Aa lb 1)=some (U lease)/\u.cell? (Aa lb 2)=some (.map o)/\u.cell? (Aa lb 3)=some (.map fl)/\u.cell? (Aa lb 4)=Np d/\u.cell? (Aa lb 5)=some (I first)/\u.cell? (Aa lb 6)=some (I half)/\u.cell? (Aa lb 7)=some (U gen)/\u.cell? (Aa lb 8)=some (I len)/\u.cell? (Aa lb 9)=some (O laid)) kr ⟨l0,l1,l2,l3,l4,l5,l6,l7,l8,l9⟩ (fun hHeld=>?_);refine tk 0 (Pt lb) rfl hHeld ?_;go_frame;refine tk 1 (Pt lb) rfl hHeld ?_;go_frame;refine tk 2 (.agg #[U id,U lease,.map o,.map fl,Pt d,I first,I half,U gen,I len,O laid]) rfl hHeld ?_;go_frame;refine rl 3 rfl fun K hK=>?_
 go_simp;refine (rt_new _).mono ?_;rintro e w2 ⟨rfl,rfl⟩;have hb2:=aa0 w1.drew (.cells #[.map none] 114);have TB:=Blk.new w1.drew 114 #[.map none];have hz2:=aa1 w1.drew (.cells #[.map none] 114);generalize w1.drew.alloc (.cells #[.map none] 114)=w2 at*;have hh2:w2.cell? (Aa lb 0)=some (U id)/\w2.cell? (Aa lb 1)=some (U lease)/\w2.cell? (Aa lb 2)=some (.map o)/\w2.cell? (Aa lb 3)=some (.map fl)/\w2.cell? (Aa lb 4)=Np d/\w2.cell? (Aa lb 5)=some (I first)/\w2.cell? (Aa lb 6)=some (I half)/\w2.cell? (Aa lb 7)=some (U gen)/\w2.cell? (Aa lb 8)=some (I len)/\w2.cell? (Aa lb 9)=some (O laid):=⟨held hb2 l0,held hb2 l1,held hb2 l2,held hb2 l3,held hb2 l4,held hb2 l5,held hb2 l6,held hb2 l7,held hb2 l8,held hb2 l9⟩;refine hK.out _ _ hh2 (fun hHeld=>?_);clear hK K l0 l1 l2 l3 l4 l5 l6 l7 l8 l9;have htb:w.heap.size<=w1.drew.heap.size:=X.out.2.1.size;have Z:=Zq (And.intro ((Dk.held (Dk.drew X.out.1) hb2:Dq w2 d S Mp D)) (And.intro (X.out.2.1.drew.and_below hb2) (X.out.2.2.2.1.turn (.of_below [] (Below.refl _ _).drew) sn|>.turn (.of_below [] hb2) sn)));clear hb2;generalize w1.drew.heap.size=tb at*;have k0:=TB.at_ 0;refine tk 4 (Pt tb) rfl hHeld ?_;go_frame;refine rl 5 rfl fun K hK=>?_
 go_simp;refine hK.out _ _ hh2 (fun hHeld=>?_);clear hK K;refine tk 6 (.agg #[U id,U lease,.map o,.map fl,Pt d,I first,I half,U gen,I len,O laid,.map none,I 0,I 0,I 0,I 0,I 0,I 0,I 0,I 0,I 0,U 0,I 0]) rfl hHeld ?_;go_frame;refine rl 7 rfl fun K hK=>?_
 go_simp;obtain ⟨hb3,RB⟩:=nw w2 116 #[U id,U lease,.map o,.map fl,Pt d,I first,I half,U gen,I len,O laid,.map none,I 0,I 0,I 0,I 0,I 0,I 0,I 0,I 0,I 0,U 0,I 0];obtain ⟨g0,g1,g2,g3,g4,g5,g6,g7,g8,g9⟩:=hh2;have hh3:=And.intro (held hb3 g0) (And.intro (held hb3 g1) (And.intro (held hb3 g2) (And.intro (held hb3 g3) (And.intro (held hb3 g4) (And.intro (held hb3 g5) (And.intro (held hb3 g6) (And.intro (held hb3 g7) (And.intro (held hb3 g8) (held hb3 g9)))))))));refine hK.out _ _ hh3 (fun hHeld=>?_);clear hK K g0 g1 g2 g3 g4 g5 g6 g7 g8 g9 k0;rw [hz2] at RB;have Y:=Zq (And.intro (Dk.held Z.out.1 hb3:Dq _ d S Mp D) (And.intro (Z.out.2.1.and_below hb3) (And.intro RB (Z.out.2.2.turn (.of_below [] hb3) sn))));clear hb3 RB TB hz2;generalize w2.alloc _=w3 at*;refine rl 8 rfl fun K hK=>?_
 go_simp;refine hK.out _ _ hh3 (fun hHeld=>?_);clear hK K;refine rl 9 rfl fun K hK=>?_
 go_simp;refine hK.out _ _ hh3 (fun hHeld=>?_);clear hK K;refine wpAnyH_done kr ?_ _;try go_frame
 clear hh3 hHeld;go_wp2_with fail;go_ret2;have hS:=Y.out.2.2.2;have hRB:Blk 116 w3 (tb+1) ((mr1 id d sm).C o fl ⟨d,first,half,gen,len,laid⟩ none):=by
  have:=Y.out.2.2.1;rw [<- HJ.out.2.2.2.2.1] at this;exact this
 have hnew:∀ y,y∈rp (tb+1) o fl none->w.heap.size<=y:=fun y hy=>by
  rcases ae6.1 hy with rfl|e|e|e
  ·omega
  ·exact X.out.2.2.1 y (ab6.2 (.inr (.inl e)))
  ·exact X.out.2.2.1 y (ab6.2 (.inr (.inr e)))
  ·cases e
 have hle:J.len=len:=HJ.out.2.2.2.2.2.2;refine ⟨tb+1,o,fl,rfl,⟨o,fl,none,N,0,S,Mp,rfl,⟨?_,⟨rfl,fun _=>rfl⟩,fun b e=>(by cases e),⟨⟨h0,h1⟩,fun k r e=>(by cases e),fun k=>⟨Int.le_refl _,by show (0:Int)<=1000; decide⟩,⟨Int.le_refl _,by show (0:Int)<=1000000; decide⟩,Nat.zero_le _,⟨Int.le_refl _,Int.le_refl _⟩⟩⟩,by rw [HJ.out.2.1]; exact Y.out.1,fun x hx hm=>?_,HJ.out.1,by rw [hle]; exact HN.out,HJ.out.2.2.1,G⟩,hnew,Y.out.2.1⟩
 ·rw [show J.jr (mr1 id d sm).d=_ from HJ.out.2.2.2.1]
  exact ⟨cn,cm,X.out.2.2.2.2,⟨hRB,hS.owns,hS.floors,hS.apart,hS.small,hS.lease_lt,hS.counts⟩⟩
 have h2:=hnew x hx;have h3:=HJ.out.2.2.2.2.2.1;simp only [List.mem_cons,List.not_mem_nil,or_false] at hm;rcases hm with rfl|rfl|rfl<;>omega
def NewG (w w':World) (d S Mp id:Nat) (e:Ending) (c:Int) (E:Dm):Option (Jm×Sm)->Prop
 |none=>e= .returned (.tuple #[.pointer none,I c])/\c≠0/\Dq w' d S Mp E/\Turn [d,S,Mp] w w'
 |some (J,T)=>c=0/\∃ R o fl,e= .returned (.tuple #[K R,I 0])/\Gz ([d,S,Mp]++rp R o fl none) w' R J 100000000 (mr1 id d T)/\(∀ y,y∈rp R o fl none->w.heap.size<=y)/\Turn [d,S,Mp] w w'
theorem bv2 {w:World} {d S Mp:Nat} {D:Dm} (h:Dq w d S Mp D) {id:Nat} (h0:0<id) (h1:id<4294967296) {c:Int} {E:Dm} (hX:D.opened id=(c,E,none)):
  Q 77 #[K d,U id] w fun e w'=>e= .returned (.tuple #[.pointer none,I c])/\c≠0/\Dq w' d S Mp E/\Turn [d,S,Mp] w w':=by
 have HO:=du6 h h0 h1 hX;clear h hX;go_enter Tryz.func77,Tryz.ntmps77;go_wp2_with fail;refine HO.mono ?_;rintro e w1 ⟨hD,hT,hO⟩;unfold OpenedG at hO;obtain ⟨rfl,hc⟩:=hO;have hc0:(c==0)=false:=beq_eq_false_iff_ne.2 hc;have X:=H3 hD hT hc;clear HO hD hT hc;go_wp2_with fail;go_ret2;exact ⟨rfl,X.out.2.2,X.out.1,X.out.2.1⟩
theorem gz_new {w:World} {d S Mp:Nat} {D:Dm} (h:Dq w d S Mp D) {id:Nat} (h0:0<id) (h1:id<4294967296) {c:Int} {E:Dm} {X:Option (Jm×Sm)} (hX:D.opened id=(c,E,X)):
  Q 77 #[K d,U id] w fun e w'=>NewG w w' d S Mp id e c E X:=by
 cases X with
 |none=>exact bv2 h h0 h1 hX
 |some x=>
  obtain ⟨J,T⟩:=x;obtain ⟨k0,k1,_,k2,k3⟩:=Dm.opened_ok (Dk.n2 h) hX;refine (ea0 (J:=J) (sm:=T) (D:=E) ⟨(Dk.head h).lt,Dk.ltS h,(Dk.map h).lt⟩ ((du6 h h0 h1 hX).mono ?_) k2 k1 k3 h0 h1).mono fun e w' h=>⟨k0,h⟩
  rintro e w1 ⟨hD,hT,hO⟩;unfold OpenedG at hO;obtain ⟨-,lb,o,fl,N,rfl,hn,hN,hb⟩:=hO;exact ⟨lb,o,fl,N,rfl,hn,hN,hb,hD,hT⟩
theorem dc9 {a:Nat} {len:Int} (h:Am.right a len=true) (on:Bool):right ⟨2,0,0,0,a,len,on,0,0⟩=true:=by
 rw [<- ai8];unfold right2;simp [h]
open Classical in
noncomputable def Mr.noted (M:Mr):Nat:=if h:∃ xs:List Pk,xs.Pairwise ltP/\∀ x,x∈xs↔x.ok/\(M.sm.own x).isSome=true then h.choose.length else 0
theorem Mr.noted_is {M:Mr} {xs:List Pk} (h1:xs.Pairwise ltP) (h2:∀ x,x∈xs↔x.ok/\(M.sm.own x).isSome=true):M.noted=xs.length:=by
 have hx:∃ xs:List Pk,xs.Pairwise ltP/\∀ x,x∈xs↔x.ok/\(M.sm.own x).isSome=true:=⟨xs,h1,h2⟩;unfold Mr.noted;rw [dif_pos hx,ar8 bg3 _ xs hx.choose_spec.1 h1 (fun z=>(hx.choose_spec.2 z).trans (h2 z).symm)]
noncomputable def Mr.ownG (M:Mr) (J:Jm) (a:Nat) (len:Int) (on:Bool):Int×Jm×Mr:=
 if Am.right a len=false then (1,J,M)
 else if on=true/\M.owns ⟨a,len⟩=true then (3,J,M)
 else if on=false/\M.owns ⟨a,len⟩=false then (2,J,M)
 else if (M.sm.own ⟨a,len⟩).isSome=false/\16<=M.noted then (5,J,M)
 else
  let x:=J.append M.id M.sm ⟨2,0,0,0,a,len,on,0,0⟩
  (x.1,x.2.1,{ M with sm:=x.2.2 })
theorem gz_own {F:List Nat} {w:World} {R sp:Nat} {J:Jm} {M:Mr} (h:Gz F w R J sp M) {a:Nat} {len:Int} (hp:Pk.ok ⟨a,len⟩) (on:Bool) {X:Int×Jm×Mr} (hX:M.ownG J a len on=X):
  Q 49 #[Pt R,.agg #[U a,I len],O on] w fun e w'=>e= .returned (I X.1)/\Goeg F w R X.2.1 sp X.2.2 w':=by
 obtain ⟨hb,PB⟩:=nw w 28 #[U a,I len];have h1:=h.held hb;go_enter Tryz.func49,Tryz.ntmps49;go_upto_region 1 with fail;generalize w.alloc _=W at*;have HP:=af5 a len hp.1 W;obtain ⟨rg,hrg⟩:∃ q,Am.right a len=q:=⟨_,rfl⟩;rw [hrg] at HP;have p0:W.cell? (Aa w.heap.size 0)=some (U a):=PB.at_ 0;have p1:W.cell? (Aa w.heap.size 1)=some (I len):=PB.at_ 1
 cases rg with
 |false=>
  have E:(1,J,M)=X:=by rw [<- hX]; unfold Mr.ownG; rw [if_pos hrg]
  subst E;have XX:=H2 h hb;clear h hb PB h1 hX hrg hp;go_wp2_with (first|(go_at_call 79; refine HP.mono ?_; rintro e w2 ⟨rfl,hb2⟩)|fail);have hb3:=next XX.out.2 hb2;clear hb2 HP p0 p1;go_ret;exact ⟨rfl,Goeg.stay XX.out.1 hb3⟩
 |true=>
 go_upto_region 3 with (go_at_call 79; refine HP.mono ?_; rintro e w2 ⟨rfl,hb2⟩);have hb3:=next hb hb2;have h2:=h1.held hb2;have PB2:=PB.held hb2;clear HP p0 p1 PB h1 hb2 hb;obtain ⟨is,his⟩:∃ q,M.owns ⟨a,len⟩=q:=⟨_,rfl⟩;obtain ⟨ev,hev⟩:∃ q,(M.sm.own ⟨a,len⟩).isSome=q:=⟨_,rfl⟩;have hS:∀ (d:Nat) (os:Array Obj),Q 24 #[Pt R] (Sort.grow (redrawn w2 d) os) fun e w'=>e= .returned (Pt R)/\Below (Sort.grow (redrawn w2 d) os).heap.size (Sort.grow (redrawn w2 d) os) w':=fun d os=>by
  obtain ⟨o,fl,tb,j,N,n,hR⟩:=(h2.held (below_regrown w2 d os)).rr;exact ac4 hR
 have hO:∀ (d:Nat) (os:Array Obj),Q 80 #[Pt R,.agg #[U a,I len]] (Sort.grow (redrawn w2 d) os) fun e w'=>e= .returned (.tuple #[O is,O ev])/\Below (Sort.grow (redrawn w2 d) os).heap.size (Sort.grow (redrawn w2 d) os) w':=fun d os=>by
  obtain ⟨o,fl,tb,j,N,n,hR⟩:=(h2.held (below_regrown w2 d os)).rr;obtain ⟨cn,cm,hnm,hS⟩:=hR.nt;refine cg0 hS hp ?_ hev;rw [<- his];unfold Mr.owns
  cases M.sm.own ⟨a,len⟩<;>rfl
 have p0:=cell_regrown (PB2.at_ 0);have p1:=cell_regrown (PB2.at_ 1);have XX:=H9 h hb3 PB2 h2 hp hX hrg his hev;clear h hb3 PB2 h2 hp hX hrg his hev;refine wp_region_quiet_below kr kr ?_
 repeat (go_big_quiet_step (first|(go_at_call 24; exact Calls.regrown_of (hS _ _))|(go_at_call 80; exact Calls.regrown_of (hO _ _))))
 refine wpQuiet_nil ?_;intro _ hw';obtain ⟨⟨dq,osq⟩,hw''⟩:=hw';subst hw'';have hbr:=below_regrown w2 dq osq;have hbz:=XX.out.2.1.trans (hbr.mono XX.out.2.1.size);clear hS hO p0 p1;have PB3:=XX.out.2.2.1.held hbr;have h3:=XX.out.2.2.2.1.held hbr;generalize Sort.grow (redrawn w2 dq) osq=W2 at*;have e0:(if Am.right a len=false then ((1,J,M):Int×Jm×Mr) else if on=true/\M.owns ⟨a,len⟩=true then (3,J,M) else if on=false/\M.owns ⟨a,len⟩=false then (2,J,M) else if (M.sm.own ⟨a,len⟩).isSome=false/\16<=M.noted then (5,J,M) else ((J.append M.id M.sm ⟨2,0,0,0,a,len,on,0,0⟩).1,(J.append M.id M.sm ⟨2,0,0,0,a,len,on,0,0⟩).2.1,{ M with sm:=(J.append M.id M.sm ⟨2,0,0,0,a,len,on,0,0⟩).2.2 }))=X:=XX.out.2.2.2.2.2.1;rw [if_neg (by rw [XX.out.2.2.2.2.2.2.1]; decide),XX.out.2.2.2.2.2.2.2.1,XX.out.2.2.2.2.2.2.2.2] at e0;by_cases c3:on=true/\is=true
 ·rw [if_pos c3] at e0
  subst e0;obtain ⟨rfl,rfl⟩:=c3;have G:=Zq (Goeg.stay XX.out.1 hbz);clear hbr hbz PB3 h3 XX;go_wp2_with fail;go_ret;exact ⟨rfl,G.out⟩
 rw [if_neg c3] at e0;by_cases c2:on=false/\is=false
 ·rw [if_pos c2] at e0
  subst e0;obtain ⟨rfl,rfl⟩:=c2;have G:=Zq (Goeg.stay XX.out.1 hbz);clear hbr hbz PB3 h3 XX c3;go_wp2_with fail;go_ret;exact ⟨rfl,G.out⟩
 rw [if_neg c2] at e0;obtain ⟨o,fl,tb,j,N,n,hR⟩:=h3.rr;have HN:=cq0 hR;obtain ⟨AX,hAX⟩:=ey (J.append M.id M.sm ⟨2,0,0,0,a,len,on,0,0⟩);rw [hAX] at e0;have Y:=H5 hbz PB3 h3 e0 hAX;clear hbr hbz PB3 h3 hR e0 hAX;have hon:(on=true/\is=false)\/(on=false/\is=true):=by
  cases on<;>cases is<;>simp_all
 have key:∀ {b1 b2:Bool},(b1=true/\b2=false)\/(b1=false/\b2=true)->(b1 && b2)=false/\(!b1 && !b2)=false:=fun {b1 b2} h=>by
  rcases h with ⟨rfl,rfl⟩|⟨rfl,rfl⟩<;>exact ⟨rfl,rfl⟩
 clear c3 c2 key;by_cases hfull:ev=false/\16<=M.noted
 ·obtain ⟨rfl,h16⟩:=hfull
  have e1:=Y.out.2.2.2.1;rw [if_pos ⟨rfl,h16⟩] at e1;subst e1;have H16:=Zq h16;clear h16;rcases hon with ⟨rfl,rfl⟩|⟨rfl,rfl⟩
  all_goals
   go_wp2_with (first|(go_at_call 81; refine HN.mono ?_; rintro e w3 ⟨xs,rfl,hasc,hmem,hb4⟩; have d16:decide ((16:Int)<=(xs.length:Int))=true:=decide_eq_true (by have:=H16.out; rw [Mr.noted_is hasc hmem] at this; omega))|fail);have G:=Zq (Goeg.stay XX.out.1 (next Y.out.1 hb4));clear HN hmem hasc d16 hb4;go_ret;exact ⟨rfl,G.out⟩
 have e1:=Y.out.2.2.2.1;rw [if_neg hfull] at e1;subst e1;have hlater:ev=true\/(ev=false/\M.noted<16):=by
  cases ev with
  |true=>exact .inl rfl
  |false=>exact .inr ⟨rfl,by by_cases h:16<=M.noted; exact absurd ⟨rfl,h⟩ hfull; omega⟩
 clear hfull;rcases hon with ⟨rfl,rfl⟩|⟨rfl,rfl⟩<;>rcases hlater with rfl|⟨rfl,h16⟩
 all_goals
  try have H16:=Zq h16
  try clear h16
  first
   |(go_upto_region 10 with (go_at_call 81; refine HN.mono ?_; rintro e w3 ⟨xs,rfl,hasc,hmem,hb4⟩; have d16:decide ((16:Int)<=(xs.length:Int))=false:=decide_eq_false (by have:=H16.out; rw [Mr.noted_is hasc hmem] at this; omega))
     clear HN hmem hasc d16)
   |(go_upto_region 10 with fail
     obtain ⟨w3,hw3⟩:=eX W2;have hb4:Below W2.heap.size W2 w3:=by rw [hw3]; exact .refl _ _
     rw [<- hw3];clear hw3 HN)
  have hz4:=Y.out.1.trans (hb4.mono Y.out.1.size);have h4:=Y.out.2.2.1.held hb4;have PB4:=(Y.out.2.1.held hb4).drew;have hpp:=XX.out.2.2.2.2.1;have hfit:∀ on,(⟨2,0,0,0,a,len,on,0,0⟩:Rc).Fits:=fun on=>⟨by show (-9223372036854775808:Int)<=2; decide,by show (2:Int)<=9223372036854775807; decide,by show 0<4294967296; omega,by show 0<4294967296; omega,by show 0<4294967296; omega,hpp.1,hpp.2.1,hpp.2.2,by show 0<4294967296; omega,by show 0<65536; omega⟩
  have HA:=bg8 (h4.held (Below.refl _ _).drew) (hfit _) (dc9 XX.out.2.2.2.2.2.2.1 _) (by decide) Y.out.2.2.2.2;have hbF:w.heap.size∉F:=fun hx=>by have:=XX.out.1.lt hx; omega
  have u0:w3.drew.cell? (Aa w.heap.size 0)=some (U a):=PB4.at_ 0;have u1:w3.drew.cell? (Aa w.heap.size 1)=some (I len):=PB4.at_ 1;have Z:=Zq hz4;clear hz4 h4 PB4 hfit hb4 hpp;refine wp_region_held_drew (S:=fun u=>u.cell? (Aa w.heap.size 0)=some (U a)/\u.cell? (Aa w.heap.size 1)=some (I len)) kr ⟨u0,u1⟩ (fun hHeld=>?_);refine tk 0 (Pt R) rfl hHeld ?_;go_frame;refine tk 1 (Pt R) rfl hHeld ?_;go_frame;refine tk 2 (Pt R) rfl hHeld ?_;go_frame;refine tk 3 (.agg #[U a,I len]) rfl hHeld ?_;go_frame;first
   |(refine aa6 (i:=4) (v:= O true) rfl kr kr kr (fun _ _ _ h=>h) (.inl ⟨rfl,?_⟩) hHeld ?_
     ·(intro w hSw; go_simp))
   |(refine aa6 (i:=4) (v:= O false) rfl kr kr kr (fun _ _ _ h=>h) (.inl ⟨rfl,?_⟩) hHeld ?_
     ·(intro w hSw; go_simp))
  go_frame;first
   |(refine aa6 (i:=5) (v:= .agg #[I 2,U 0,U 0,U 0,U a,I len,O true,U 0,V 0]) rfl kr kr kr (fun _ _ _ h=>h) (.inl ⟨rfl,?_⟩) hHeld ?_
     ·(intro w hSw; go_simp))
   |(refine aa6 (i:=5) (v:= .agg #[I 2,U 0,U 0,U 0,U a,I len,O false,U 0,V 0]) rfl kr kr kr (fun _ _ _ h=>h) (.inl ⟨rfl,?_⟩) hHeld ?_
     ·(intro w hSw; go_simp))
  go_frame;refine rl 6 rfl fun K hK=>?_
  go_simp;refine HA.mono ?_;rintro e w4 ⟨rfl,hG⟩;obtain ⟨F4,hz4,t4,n4⟩:=hG;refine hK.out _ _ ⟨t4.cell u0 hbF,t4.cell u1 hbF⟩ (fun hHeld=>?_);clear hK K HA u0 u1;have G:=Zq (show Goeg F w R _ sp _ w4 from Goeg.before Z.out.drew ⟨F4,hz4,t4,n4⟩);clear hz4 t4 n4;refine tk 7 (I AX.1) rfl hHeld ?_;go_frame;refine wpAnyH_done kr ?_ _;try go_frame
  clear hHeld;go_wp2_with fail;go_ret;exact ⟨rfl,G.out⟩
end
end Go.Proofs.YtafkfnodcemefaaGreat
