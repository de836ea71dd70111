import Derived.Test.YtafkfnodcemefaaGreatB25
set_option maxHeartbeats 8000000
set_option maxRecDepth 100000
namespace Go.Proofs.YtafkfnodcemefaaGreat
open _root_.Go.Proofs.Tryz (prog)
section
open Go.RowKit Go.Maps Rm Fm Sb
end
end Go.Proofs.YtafkfnodcemefaaGreat
namespace Go.Proofs.YtafkfnodcemefaaGreat
open _root_.Go.Proofs.Tryz (prog)
open Go.RowKit Go.Maps Rm
attribute [local go_sem] Oper.semAt_some
def Mr.hear (M:Mr) (fr:Nat) (a:Nat) (len:Int) (id seq met:Nat):Mr:=
 if M.owns ⟨a,len⟩=true\/id=M.id then M
 else if met=65535 then { M with f:=cutR M.f ⟨a,len,fr⟩ }
 else if M.fea a len ⟨fr,id,seq,met,M.now+3⟩=true then { M with f:=putR M.f ⟨a,len,fr⟩ ⟨fr,id,seq,met,M.now+3⟩ }
 else match M.f ⟨a,len,fr⟩ with
  |some old=>if old.id=id then M else { M with f:=cutR M.f ⟨a,len,fr⟩ }
  |none=>M
end Go.Proofs.YtafkfnodcemefaaGreat
set_option maxRecDepth 20000
namespace Go.Proofs.YtafkfnodcemefaaGreat.T
open _root_.Go.Proofs.Tryz (prog)
section
open Go.RowKit Tm
variable {A:Option Addr}{cap n:Nat}{bs:List Nat}{w:World}
def DecR (w:World) (D:Option (List Up)) (lv iv rv:Value) (wr:World):Prop:=
 ∃ (us:List Up) (id:Nat) (A:Option Addr) (k cap:Nat) (x:List Nat),iv= U id/\rv= .slice A k cap/\id<4294967296/\Sl w A k cap x/\Lu w.heap.size lv us wr/\D=(walk id x).map (us++·)/\Bw w wr/\us.length+k<=1024
def lenOf:Value->Nat
 | .slice _ k _=>k
 |_=>0
theorem cz1 (h:Sl w A n cap bs) {id:Nat}:
  ∃ u:Up,∃ r:Bool,(Q 39 #[.slice A n cap,U id] w (Rr0 w (.tuple #[.agg (ucs u.a u.len u.id u.seq u.met),O r])))/\(told bs id).toList=if r then [u] else []:=by
 cases hf:fits bs
 ·exact ⟨⟨0,0,0,0,0⟩,false,bu7 h hf id,by rw [cz0 hf]; rfl⟩
 ·refine ⟨upOf bs id,right (upOf bs id),cc1 h hf rfl rfl,?_⟩
  rw [cp6 hf]
  cases right (upOf bs id)<;>rfl
theorem bi4 (b off n cap k:Nat) (hk:k<=cap) (w:World) {z:Int} (hz:z=k) (h0:0<cap):
  (Instr.slice 45 (Mt b off n cap) none (some (I z)) none).run prog w= .ok (Mt b off k cap) w:=by
 have d1:(k:Int)<=(cap:Int):=G
 have d2:¬ cap=0:=G
 subst hz;go_simp
theorem decode_any (h:Sl w A n cap bs) {D:Option (List Up)} (hD:Tm.decode bs=D):
  Q 13 #[.slice A n cap] w fun e w'=>Below w.heap.size w w'/\((D=none/\e= .returned (.tuple #[.slice none 0 0,O false]))\/∃ us v,D=some us/\e= .returned (.tuple #[v,O true])/\Lu w.heap.size v us w'):=by
 have hl:=h.bytes.1;have hmx:=h.bytes.2.1;have hcap:=h.cap;have hmx':n<=9223372036854775807:=by unfold maxLen at hmx; omega
 clear hmx
 cases hh:headed bs
 ·have HC:=ay5 h hh
  have E:Hid (D=none):=Zq (by rw [<- hD]; unfold Tm.decode; rw [hh]; rfl);clear h hD hh hl;go_enter Tryz.func13,Tryz.ntmps13;go_wp2_with fail;refine HC.mono ?_;rintro e w' ⟨rfl,rfl⟩;go_wp2_with fail;go_ret2;exact ⟨Below.refl _ _,.inl ⟨E.out,rfl⟩⟩
 ·have HC:=ay5 h hh
  have hw:D=walk 0 (bs.drop 4):=by rw [<- hD]; unfold Tm.decode; rw [hh]; rfl
  have hh':=hh;unfold headed at hh';rw [decide_eq_true_eq,hl] at hh';obtain ⟨h4,h1024,-⟩:=hh';obtain ⟨A4,s4,hS4,-⟩:=bn5 h (k:=4) h4 (z:=4) rfl;obtain ⟨m4,hm4⟩:=eX (n - 4);obtain ⟨c4,hc4⟩:=eX (cap - 4);rw [<- hm4,<- hc4] at s4 hS4;have h0:DecR w D (.slice none 0 0) (U (0:Nat)) (.slice A4 m4 c4) w:=⟨[],0,A4,m4,c4,bs.drop 4,rfl,rfl,G,hS4,Lu.nil _ _,by rw [hw]; cases walk 0 (bs.drop 4)<;>simp,Below.refl _ _,by simp; omega⟩;have H0:=Zq h0;clear h hD hh hl hw h4 h1024 hS4 hm4 hc4 h0 hcap hmx';go_enter Tryz.func13,Tryz.ntmps13;go_wp2_with fail;refine HC.mono ?_;rintro e w' ⟨rfl,rfl⟩;clear HC;go_wp2_with fail;clear s4;go_loopw [4,5,6] (fun lv iv rv wr=>DecR w D lv iv rv wr) (fun _ _ rv _=>lenOf rv)
  case atStart=>exact H0.out
  case round=>
   clear H0;obtain ⟨us,id,A5,k,c5,x,rfl,rfl,hid,hS,hU,hw,hB,hbig⟩:=hrel;have hl:=hS.bytes.1;have hck:=hS.cap;by_cases hk:0<k
   ·obtain ⟨b,off,rfl⟩:=hS.plain hk
    have hx0:0<x.length:=G
    obtain ⟨⟨m,r⟩,hp⟩:∃ q,q=pb x:=⟨_,rfl⟩;have hp:=hp.symm;have HP:=bb4 (hS.held hB) hk hp
    cases r
    ·have E:=Zq (And.intro hB (show D=none by rw [hw,cq9 hx0 hp]; rfl))
     clear hS hU hw hB hp hbig;go_wp2_with fail;refine HP.mono ?_;rintro e w' ⟨rfl,rfl⟩;go_wp2_with fail;go_ret2;exact ⟨E.out.1,.inl ⟨E.out.2,rfl⟩⟩
    ·obtain ⟨hm1,hmk,hm2⟩:=cf6 hx0 hp
     rw [hl] at hmk;have hW:=cy4 (id:=id) hx0 hp;have hSp:=hS.part 0 m G;rw [List.drop_zero,Nat.add_zero,Nat.sub_zero] at hSp;have s1:=bi4 b off k c5 m G wr (z:=(m:Int)) rfl G;obtain ⟨A2,hA2⟩:∃ A2:Option Addr,A2=if c5=m then some ⟨b,off,none⟩ else (some (⟨b,off,none⟩:Addr)).map (·.add m):=⟨_,rfl⟩
     obtain ⟨k2,hk2⟩:=eX (k - m);obtain ⟨c2',hc2⟩:=eX (c5 - m);have s2:=ad7 (some ⟨b,off,none⟩) k c5 m hmk hck wr (z:=(m:Int)) rfl hA2 hk2 hc2;have hSr:Sl w A2 k2 c2' (x.drop m):=by
      have:=hS.of_part (k:=m) (m:=k2) (cap':=c2') G G hA2
      rwa [List.take_of_length_le (by rw [List.length_drop,hl]; omega)] at this
     have c0:wr.cell? ⟨b,off,none⟩=some (Yy (x.getD 0 0:Nat)):=(hS.held hB).at_ (k:=0) hk;have hxl:=hS.bytes.lt 0;rw [hW] at hw;have hlt:k2<k:=G
     have hsum:us.length+1+k2<=1024\/m=1:=G
     have hsum0:us.length+k2<=1024:=G
     clear hW hS hp hx0 hl hA2 hk2 hc2;generalize hxe:x.getD 0 0=x0 at*;clear hxe;by_cases e2:x0=2
     ·subst e2
      have d2:((2:Nat):Int)=2:=rfl;rw [d2] at c0;by_cases e6:m=6
      ·have d6:((m:Int)==6)=true:=beq_iff_eq.2 G
       have hb4:((x.take m).drop 2).length=4:=by have:=hSp.bytes.1; rw [List.length_drop,this,e6]
       have hn:named 2 ((x.take m).drop 2) id=Tm.val ((x.take m).drop 2):=by unfold named; rw [if_pos ⟨rfl,hb4⟩]
       have hs:says 2 ((x.take m).drop 2) id=[]:=rfl;have hv:Tm.val ((x.take m).drop 2)<4294967296:=Tm.val_lt 4 _ G (fun c hc=>hSp.bytes.2.2.1 c (List.mem_of_mem_drop hc));rw [hn,hs] at hw;obtain ⟨m3,hm3⟩:=eX (m - 2);obtain ⟨c3,hc3⟩:=eX (c5 - 2);obtain ⟨o3,ho3⟩:=eX (off+2);have s3:=ad7 (some ⟨b,off,none⟩) m c5 2 G G wr (z:=2) rfl (A':=some ⟨b,o3,none⟩) (by rw [if_neg G,ho3]; rfl) hm3 hc3;have HG:=ae1 (hSp.held hB) 2 m3 G G c3;have e4:((x.take m).drop 2).take m3=(x.take m).drop 2:=List.take_of_length_le G;rw [e4,<- ho3] at HG;have R:=Zq (show DecR w D u4 (U (Tm.val ((x.take m).drop 2):Nat)) (.slice A2 k2 c2') wr from ⟨us,_,A2,k2,c2',x.drop m,rfl,rfl,hv,hSr,hU,by rw [hw]; cases walk (Tm.val ((x.take m).drop 2)) (x.drop m)<;>simp,hB,hsum0⟩);clear hw hn hs hSr hU hB hSp hbig hm2 hb4 e4 hm3 hc3 ho3 e6;generalize Tm.val ((x.take m).drop 2)=id2 at*;go_wp2_with fail;refine HP.mono ?_;rintro e w' ⟨rfl,rfl⟩;clear HP;go_wp2_with fail;refine HG.mono ?_;rintro e w' ⟨rfl,rfl⟩;clear HG;go_wp2_with fail;go_roundw
       case rel=>exact R.out
       case measure=>simp only [lenOf]; omega
      ·have d6:((m:Int)==6)=false:=beq_eq_false_iff_ne.2 G
       have hb4:¬ ((x.take m).drop 2).length=4:=by have:=hSp.bytes.1; rw [List.length_drop,this]; omega
       have hn:named 2 ((x.take m).drop 2) id=id:=by unfold named; rw [if_neg (fun h=>hb4 h.2)]
       have hs:says 2 ((x.take m).drop 2) id=[]:=rfl;rw [hn,hs] at hw;have R:=Zq (show DecR w D u4 (U id) (.slice A2 k2 c2') wr from ⟨us,id,A2,k2,c2',x.drop m,rfl,rfl,hid,hSr,hU,by rw [hw]; cases walk id (x.drop m)<;>simp,hB,hsum0⟩);clear hw hn hs hSr hU hB hSp hbig hm2 hb4;go_wp2_with fail;refine HP.mono ?_;rintro e w' ⟨rfl,rfl⟩;clear HP;go_wp2_with fail;go_roundw
       case rel=>exact R.out
       case measure=>simp only [lenOf]; omega
     ·have d2:((x0:Int)==2)=false:=beq_eq_false_iff_ne.2 G
      by_cases e3:x0=3
      ·subst e3
       have d3:((3:Nat):Int)=3:=rfl;rw [d3] at c0 d2;obtain ⟨hm22,-⟩:=hm2 G;obtain ⟨A3,hA3⟩:∃ A3:Option Addr,A3=if c5=2 then some ⟨b,off,none⟩ else (some (⟨b,off,none⟩:Addr)).map (·.add 2):=⟨_,rfl⟩
       obtain ⟨m3,hm3⟩:=eX (m - 2);obtain ⟨c3,hc3⟩:=eX (c5 - 2);have s3:=ad7 (some ⟨b,off,none⟩) m c5 2 hm22 G wr (z:=2) rfl hA3 hm3 hc3;have hSb:Sl wr A3 m3 c3 ((x.take m).drop 2):=by
        have:=(hSp.held hB).of_part (k:=2) (m:=m3) (cap':=c3) G G hA3
        rwa [List.take_of_length_le (by rw [List.length_drop,hSp.bytes.1]; omega)] at this
       obtain ⟨u,r,HT,hsay⟩:=cz1 hSb (id:=id);have hn:named 3 ((x.take m).drop 2) id=id:=rfl;have hs:says 3 ((x.take m).drop 2) id=if r then [u] else []:=by unfold says; rw [if_pos rfl,hsay]
       rw [hn,hs] at hw;have Z:=Zq (And.intro hw (And.intro hSr (And.intro hU (And.intro hB (And.intro hsum0 (show us.length+1+k2<=1024 by omega))))));clear hw hn hs hSr hU hB hSp hbig hm2 hSb hA3 hm3 hc3 hsay;go_wp2_with fail;refine HP.mono ?_;rintro e w' ⟨rfl,rfl⟩;clear HP;go_wp2_with fail;refine HT.mono ?_;rintro e w3 ⟨rfl,hb3⟩;clear HT s1 s2 s3 c0
       cases r
       ·obtain ⟨hw,hSr,hU,hB,hs0,hs1⟩:=Z.out
        have hb4:=next hb3 (aa0 w3 (.cells (ucs u.a u.len u.id u.seq u.met) 71));have R:=Zq (show DecR w D u4 (U id) (.slice A2 k2 c2') (w3.alloc (.cells (ucs u.a u.len u.id u.seq u.met) 71)) from ⟨us,id,A2,k2,c2',x.drop m,rfl,rfl,hid,hSr,hU.held hb4,by rw [hw]; cases walk id (x.drop m)<;>simp,hB.trans (hb4.mono hB.size),hs0⟩);clear hw hSr hU hB hs0 hs1 hb3 hb4 Z;unfold ucs at*;go_wp2_with fail;go_roundw
        case rel=>exact R.out
        case measure=>simp only [lenOf]; omega
       ·unfold ucs
        go_upto_region 18 with (fail);obtain ⟨hw,hSr,hU,hB,hs0,hs1⟩:=Z.out;obtain ⟨p4,cp4,rfl,-⟩:=hU.form;have hX:=Blk.new w3 71 (ucs u.a u.len u.id u.seq u.met);have hb4:=next hb3 (aa0 w3 (.cells (ucs u.a u.len u.id u.seq u.met) 71));have hU4:=hU.held hb4;have hB4:=hB.trans (hb4.mono hB.size);unfold ucs at hX hb4 hU4 hB4;generalize w3.alloc _=W4 at*;have c0:W4.cell? ⟨w3.heap.size,0,none⟩=some (U (u.a:Int)):=hX.at_ 0;have c1:W4.cell? ⟨w3.heap.size,1,none⟩=some (I u.len):=hX.at_ 1;have c2:W4.cell? ⟨w3.heap.size,2,none⟩=some (U (u.id:Int)):=hX.at_ 2;have c3:W4.cell? ⟨w3.heap.size,3,none⟩=some (U (u.seq:Int)):=hX.at_ 3;have c4:W4.cell? ⟨w3.heap.size,4,none⟩=some (V (u.met:Int)):=hX.at_ 4;obtain ⟨hb5,hX5⟩:=nw W4 71 #[U u.a,I u.len,U u.id,U u.seq,V u.met];have hU5:=hU4.held hb5;have hB5:=hB4.trans (hb5.mono hB4.size);have hle:w.heap.size<=(W4.alloc (.cells #[U u.a,I u.len,U u.id,U u.seq,V u.met] 71)).heap.size:=hB5.size;obtain ⟨g',cap',W6,hrun,hU6,hg6,-⟩:=run_us hU5 hle (ad:=⟨W4.heap.size,0,none⟩) (m:=1) (c:=1) (news:=[u]) rfl (fun jj vv hv=>by
         rw [Addr.add_mid,Nat.zero_add,hX5.at_ jj];simpa [ucl,Up.cs,ucs] using hv) G G 48
        have hB6:=hB5.grown hg6 hle (fun kk e=>(hU5.lt e).2);obtain ⟨q',hq'⟩:=eX (us.length+1);rw [<- hq'] at hrun hU6;have R:=Zq (show DecR w D (Lt g' q' cap') (U id) (.slice A2 k2 c2') W6 from ⟨us++[u],id,A2,k2,c2',x.drop m,rfl,rfl,hid,hSr,hU6,by rw [hw]; cases walk id (x.drop m)<;>simp,hB6,by simp; omega⟩);clear hw hSr hU hB hs0 hs1 hb3 hb4 Z hU4 hB4 hb5 hX5 hU5 hB5 hle hU6 hg6 hB6 hq' hX;go_wp2_with (first|(at_builtin; refine Lib.wpList_append_run _ rfl (.tmp 53) (.tmp 55) 48 48 rfl _ _ rfl rfl _ _ hrun ?_)|fail);go_roundw
        case rel=>exact R.out
        case measure=>simp only [lenOf]; omega
      ·have d3:((x0:Int)==3)=false:=beq_eq_false_iff_ne.2 G
       have hn:named x0 ((x.take m).drop 2) id=id:=by unfold named; rw [if_neg G]
       have hs:says x0 ((x.take m).drop 2) id=[]:=by unfold says; rw [if_neg e3]
       rw [hn,hs] at hw;have R:=Zq (show DecR w D u4 (U id) (.slice A2 k2 c2') wr from ⟨us,id,A2,k2,c2',x.drop m,rfl,rfl,hid,hSr,hU,by rw [hw]; cases walk id (x.drop m)<;>simp,hB,hsum0⟩);clear hw hn hs hSr hU hB hSp hbig hm2;go_wp2_with fail;refine HP.mono ?_;rintro e w' ⟨rfl,rfl⟩;clear HP;go_wp2_with fail;go_roundw
       case rel=>exact R.out
       case measure=>simp only [lenOf]; omega
   ·obtain rfl:k=0:=G
    have hx:x=[]:=List.length_eq_zero_iff.1 hl;subst hx;rw [walk_nil] at hw;have HH:=H3 hU hw hB;clear hU hw hB hS hbig hid;obtain ⟨p,cp,rfl,-⟩:=HH.out.1.form;go_wp2_with fail;go_ret2;exact ⟨HH.out.2.2,.inr ⟨us,_,by simpa using HH.out.2.1,rfl,HH.out.1⟩⟩
end
end Go.Proofs.YtafkfnodcemefaaGreat.T
namespace Go.Proofs.YtafkfnodcemefaaGreat
open _root_.Go.Proofs.Tryz (prog)
section
open Go.RowKit Go.Maps Rm
def Mr.hears (M:Mr) (fr:Nat) (us:List T.Tm.Up):Mr:=us.foldl (fun M u=>M.hear fr u.a u.len u.id u.seq u.met) M
theorem Mr.hears_snoc (M:Mr) (fr:Nat) (us:List T.Tm.Up) (u:T.Tm.Up):M.hears fr (us++[u])=(M.hears fr us).hear fr u.a u.len u.id u.seq u.met:=by
 unfold Mr.hears;rw [List.foldl_append];rfl
def Mr.got (M:Mr) (fr:Nat):Option (List T.Tm.Up)->Mr
 |none=>M
 |some us=>M.hears fr us
def Mr.receive (M:Mr) (z:Int) (bs:List Nat):Mr:=if cAt M.c z=0 then M else M.got z.toNat (T.Tm.decode bs)
theorem cm8 {c:Nat->Int} {z:Int} (h:cAt c z≠0):∃ k:Nat,z=k/\k<8:=by
 unfold cAt at h;split at h
 ·exact absurd rfl h
 ·exact ⟨z.toNat,G,G⟩
end
section
open Go.RowKit Go.Maps Rm Fm Sb
theorem dc7 {B B':Nat} {v:Value} {us:List T.Tm.Up} {w:World} (h:T.Lu B v us w) (hB:B'<=B):T.Lu B' v us w:=by
 obtain ⟨⟨h1,h2⟩,h3⟩:=h;refine ⟨⟨h1,?_⟩,h3⟩;rcases h2 with h2|⟨g,cap,cur,rfl,h4,h5⟩
 ·exact .inl h2
 ·exact .inr ⟨g,cap,cur,rfl,Nat.le_trans hB h4,h5⟩
theorem cv3 {w:World} {ad:Addr} {n cap:Nat} {bs:List Nat} (hx:T.BytesAt w (some ad) n bs) (hn:n<=5000):
  Q 43 #[.slice (some ad) n cap] w fun e w'=>∃ g cap',e= .returned (Lt g n cap')/\w.heap.size<=g/\T.Ob w' g cap' bs/\Bw w w':=by
 have hb:=aa0 w (.cells #[] 5);have hO:T.Ob (w.alloc (.cells #[] 5)) w.heap.size 0 []:=⟨#[],Blk.new w _ _,rfl,sn,by unfold maxLen; omega,sn⟩;obtain ⟨g',cap',u',hrun,hO',hT,hg⟩:=T.run_app hO (hx.held hb) (by simp; omega) cap 45;have hq:=Lib.run_eql_slice_nil (P:=prog) w 45 5 (some ad) n cap 0 0 kr;simp only [List.length_nil,Nat.zero_add,List.nil_append] at hrun hO';have hB:Below w.heap.size w u':=hb.trans (hT.below (fun i hi=>by simp at hi; omega) hb.size);have hge:w.heap.size<=g':=by rw [aa1] at hg; omega
 have X:=H3 hO' hB hge;clear hO hO' hT hg hB hge hb hx;go_enter Tryz.func43,Tryz.ntmps43;go_wp2_with (first|(at_builtin; refine Lib.wpList_append_run _ rfl (.tmp 5) (.tmp 6) 45 45 rfl _ _ rfl rfl _ _ hrun ?_)|fail);go_ret;exact ⟨g',cap',rfl,X.out.2.2,X.out.1,X.out.2.1⟩
structure Oe where
 dst:Nat
 g:Nat
 n:Nat
 cap:Nat
def ocl (x:Oe):List Value:=[I x.dst,Lt x.g x.n x.cap]
theorem elemO:Elem prog 118 121 ocl 2 32:=⟨by kernel_rfl,ae2 (z:= .agg #[I 0,.slice none 0 0]) X rfl,G,fun _=>rfl,fun x v hv=>by simp only [ocl,List.mem_cons,List.not_mem_nil,or_false] at hv; rcases hv with rfl|rfl<;>rfl,G⟩
structure Ot (B:Nat) (v:Value) (os:List (Nat×List Nat)) (xs:List Oe) (W:World):Prop where
 own:Ol 121 ocl 2 B v xs W
 len:xs.length=os.length
 row:∀ i (h:i<xs.length) (h':i<os.length),xs[i].dst=os[i].1/\xs[i].n=os[i].2.length/\T.Ob W xs[i].g xs[i].cap os[i].2/\B<=xs[i].g/\v.ownBlock≠some xs[i].g
theorem Ot.nil (B:Nat) (W:World):Ot B (.slice none 0 0) [] [] W:=⟨Ol.nil _ _,rfl,fun i h=>by simp at h⟩
theorem Ot.held {B:Nat} {v:Value} {os:List (Nat×List Nat)} {xs:List Oe} {W W':World} (h:Ot B v os xs W) (hb:Below W.heap.size W W'):Ot B v os xs W':=
 ⟨h.own.held hb,h.len,fun i hi hi'=>by obtain ⟨a,b,c,d⟩:=h.row i hi hi'; exact ⟨a,b,c.held hb,d⟩⟩
theorem Ot.push {B:Nat} {p:Option Addr} {n c:Nat} {os:List (Nat×List Nat)} {xs:List Oe} {W:World} (h:Ot B (.slice p n c) os xs W) (hB:B<=W.heap.size) {k g cap:Nat} {bs:List Nat} (hg:B<=g) (hv:(Value.slice p n c).ownBlock≠some g) (ho:T.Ob W g cap bs) (hbig:os.length<=1000000000):
  ∃ g' cap' W',(Builtin.append_ #[118,118] 118 #[.slice p n c,Lt W.heap.size 1 1]).run prog (W.alloc (.cells #[I k,Lt g bs.length cap] 121))= .ok (Lt g' (os.length+1) cap') W'/\
   Ot B (Lt g' (os.length+1) cap') (os++[(k,bs)]) (xs++[⟨k,g,bs.length,cap⟩]) W'/\Turn (Value.slice p n c).ownBlock.toList W W':=by
 obtain ⟨g',cap',W',hrun,hO,hT,hat⟩:=Ol.push1 elemO h.own hB ⟨k,g,bs.length,cap⟩ (by rw [h.len]; omega) 118;rw [h.len] at hrun hO;refine ⟨g',cap',W',hrun,⟨hO,by simp [h.len],fun i hi hi'=>?_⟩,hT⟩;have away:∀ x,(Value.slice p n c).ownBlock≠some x->x∉(Value.slice p n c).ownBlock.toList:=fun x hx hm=>hx (by simpa using hm)
 have new:∀ x,(Value.slice p n c).ownBlock≠some x->x<W.heap.size->(Value.slice (some (Y g' 0)) (os.length+1) cap').ownBlock≠some x:=fun x hx hl e=>by
  have e2:g'=x:=by simpa [Value.ownBlock] using e
  subst e2;rcases hat with h1|h1
  ·exact hx h1
  ·omega
 by_cases hl:i<xs.length
 ·have hl':i<os.length:=by rw [<- h.len]; exact hl
  obtain ⟨a,b,d,e,f⟩:=h.row i hl hl';rw [List.getElem_append_left hl,List.getElem_append_left hl'];exact ⟨a,b,d.turn hT (away _ f),e,new _ f d.lt⟩
 ·have e1:i=xs.length:=by simp at hi; omega
  subst e1;rw [List.getElem_append_right G,List.getElem_append_right (by rw [h.len]; omega)];simp only [h.len,Nat.sub_self,List.getElem_cons_zero];exact ⟨trivial,trivial,ho.turn hT (away _ hv),hg,new _ hv ho.lt⟩
end
section
open Go.RowKit
variable {P:Program} {α:Type}
def Leads (P:Program) (g:Nat) (lb:Array Value) (encs:α->Array Value) (N:Nat) (S:List α->Prop) (Kq:World->World->Prop) (W:World):Prop:=
 ∀ (l:Nat) (J Jx:List α->World->Prop),OwnFrom W.heap.size J->OwnFrom W.heap.size Jx->
  (∀ pre x W1,J pre W1->W.heap.size<=W1.heap.size->pre.length<N->YieldAt Fence.wide 0 P l (encs x) W1 fun e W'=>∃ b:Bool,e= .returned (O b)/\KeepsFrom W.heap.size W1 W'/\(if b then J (pre++[x]) W'/\Kq W1 W' else Jx (pre++[x]) W'))->
  J [] W->Calls P g (#[.func (.yield l) #[] #[]]++lb) W fun e W'=>(∃ v,e= .returned v)/\((∃ xs,S xs/\J xs W')\/∃ pre,Jx pre W')
theorem ci4 {n:Nat} {g:Operand} {ps:Array Tmp} {assign body:Code} {Q:Exit->Act->World->Prop} {a:Act} {w:World} {gf:Nat} {lb:Array Value}
  (hg:a.eval g= .func (.func gf) #[] lb) (eg:∀ args w,(callFunc gf args).run P w= .ok (.enter gf args) w)
  {encs:α->Array Value} {N:Nat} {S:List α->Prop} {Kq:World->World->Prop} (hseq:∀ W,Below w.heap.size w W->Leads P gf lb encs N S Kq W) (hps:∀ x,(encs x).size=ps.size)
  (hKt:∀ {A B C:World},Kq A B->Kq B C->Kq A C) (hKb:∀ (W:World) (l:Nat) (o o':Obj),w.heap.size<=l->W.heap[l]?=some o->o.isCells=false->o.isWalk=false->Kq W (W.putObj l o'))
  (I Ix:List α->World->Prop) (hI:OwnFrom w.heap.size I) (hIx:OwnFrom w.heap.size Ix) (h0:I [] w) (Ax:α->Act->World->Prop) (hAx:∀ x a',OwnFrom w.heap.size (fun (_:Unit) W=>Ax x a' W))
  (hassign:∀ (l:Nat) (pre:List α) (x:α) (W:World) (K:Act->World->Prop),I pre W->(∀ a' W',KeepsFrom w.heap.size W W'->Kq W W'->I pre W'->Ax x a' W'->K a' W')->
   assign.wpIn (Fence.wide.inRound l) 0 P (Exit.then K (fun _ _ _=>False)) { tmps:=(ps.zip (encs x)).foldl (fun t (p,v)=>t.setIfInBounds p v) a.tmps,defers:=[] } W)
  (hbody:∀ (l:Nat) (pre:List α) (x:α) (a':Act) (W:World),I pre W->Ax x a' W->pre.length<N->body.wpIn (Fence.wide.inRound l) 0 P (fun e _ W'=>KeepsFrom w.heap.size W W'/\((e= .normal/\Kq W W'/\I (pre++[x]) W')\/(e= .ret/\Ix (pre++[x]) W'))) a' W)
  (hdone:∀ (D:Nat) (xs:List α) (W:World),w.heap.size<=D->S xs->I xs W->W.heap[D]?=some (.deferred (some []))->Q .normal { a with defers:={ target:= .collected D,args:=#[] }::a.defers } W)
  (hstop:∀ (D:Nat) (pre:List α) (W:World),w.heap.size<=D->Ix pre W->W.heap[D]?=some (.deferred (some []))->Code.ret.wpIn Fence.wide n P Q { a with defers:={ target:= .collected D,args:=#[] }::a.defers } W):
  (Code.rangeFunc g ps assign body).wpIn Fence.wide n P Q a w:=by
 refine wpIn_rangeFunc fun fn _=>?_
 obtain ⟨R,hR⟩:∃ R:LoopState->Option Code->Loop,R=fun st pe=>{ state:=st,pending:=pe,fn:=fn,tmps:=a.tmps,params:=ps,assign:=assign,body:=body,defers:=w.heap.size }:=⟨_,rfl⟩
 obtain ⟨V,hV⟩:∃ V,V=(w.alloc (.deferred (some []))).alloc (.loop (R .ready none)):=⟨_,rfl⟩;have hb:Below w.heap.size w V:=by rw [hV]; exact next (aa0 _ _) (aa0 _ _)
 have hVs:V.heap.size=w.heap.size+2:=by rw [hV,aa1,aa1]
 have hD:V.heap[w.heap.size]?=some (.deferred (some [])):=by
  rw [hV];exact ((aa0 _ (.loop (R .ready none))).block _ (by rw [aa1]; omega)).trans (World.alloc_heap_new w _)
 have hL:V.heap[w.heap.size+1]?=some (.loop (R .ready none)):=by
  have:=World.alloc_heap_new (w.alloc (.deferred (some []))) (.loop (R .ready none));rw [aa1] at this;rw [hV];exact this
 have hI0:I [] V:=by rw [hV]; exact hI.alloc _ (hI.alloc _ h0)
 refine ⟨w.heap.size+1,[{ target:= .collected w.heap.size,args:=#[] }],V,{ target:= .fn (.func gf) lb,args:=#[.func (.yield (w.heap.size+1)) #[] #[]] },V,gf,#[.func (.yield (w.heap.size+1)) #[] #[]]++lb,V,?_,?_,(fun _ _=>trivial),?_,(fun h=>by cases h),?_⟩
 ·rw [hV,hR]; exact run_enterLoop_outer _ _ _ _ _
 ·simp only [resolve,hg]
  simp [go_sem]
 ·simp [invoke,go_sem,eg]
 refine aa7 ((hseq V hb (w.heap.size+1) (fun pre W=>I pre W/\W.heap[w.heap.size+1]?=some (.loop (R .ready none))/\W.heap[w.heap.size]?=some (.deferred (some []))) (fun pre W=>Ix pre W/\W.heap[w.heap.size+1]?=some (.loop (R .done (some .ret)))/\W.heap[w.heap.size]?=some (.deferred (some []))) ?_ ?_ ?_ ⟨hI0,hL,hD⟩).mono ?_)
 ·intro s X Y row hs hgr hr
  exact ⟨hI s X Y row hs.1 hgr (fun r e=>⟨by have:=(hr r e).1; omega,(hr r e).2⟩),ac0 hgr hr G hs.2.1,ac0 hgr hr G hs.2.2⟩
 ·intro s X Y row hs hgr hr
  exact ⟨hIx s X Y row hs.1 hgr (fun r e=>⟨by have:=(hr r e).1; omega,(hr r e).2⟩),ac0 hgr hr G hs.2.1,ac0 hgr hr G hs.2.2⟩
 ·rintro pre x W ⟨hi,hl,hd⟩ hsz hlen
  have hy:=run_yield (P:=P) (args:=encs x) hl (by rw [hR]; exact hps x);rw [hR] at hy;refine ⟨fn,_,assign,body,hy,roundIn_of_wpIn trivial (hassign _ pre x W _ hi ?_)⟩;intro a' W2 hk2 hq2 hi2 hax2;have hl2:=hk2.same _ _ G hl rfl;have hd2:=hk2.same _ _ G hd rfl;refine ⟨_,run_beginRound hl2 (by rw [hR]),?_⟩;obtain ⟨W3,hW3⟩:∃ W3,W3=W2.putObj (w.heap.size+1) (.loop { R .ready none with state:= .busy }):=⟨_,rfl⟩;have hl3:W3.heap[w.heap.size+1]?=some (.loop { R .ready none with state:= .busy }):=by rw [hW3]; exact World.putObj_heap_same (Array.getElem?_eq_some_iff.1 hl2).1
  have hd3:W3.heap[w.heap.size]?=some (.deferred (some [])):=by rw [hW3]; exact (World.putObj_heap_other G).trans hd2
  have hi3:I pre W3:=by rw [hW3]; exact hI.putObj _ hi2 G hl2 rfl
  have hax3:Ax x a' W3:=by rw [hW3]; exact (hAx x a').putObj (s:=()) _ hax2 G hl2 rfl
  have hq3:Kq W2 W3:=by rw [hW3]; exact hKb _ _ _ _ G hl2 rfl rfl
  have hk3:KeepsFrom V.heap.size W2 W3:=by rw [hW3]; exact KeepsFrom.of_grownBy (grownBy_putObj' _ _ _) (fun j e=>by cases e; omega)
  rw [<- hW3];refine wpIn_mono (hbody _ pre x a' W3 hi3 hax3 hlen) ?_;rintro e a4 W4 ⟨hk4,hp⟩;have hl4:=hk4.same _ _ G hl3 rfl;have hd4:=hk4.same _ _ G hd3 rfl;have fin:∀ (jump:Option Code),∃ W5,(Instr.endRound (w.heap.size+1) jump).run P W4= .ok (O jump.isNone) W5/\W5=W4.putObj (w.heap.size+1) (.loop (R (if jump.isNone then .ready else .done) jump)):=fun jump=>by
   have hrun:=run_endRound (P:=P) jump hl4;refine ⟨_,?_,rfl⟩;rw [hR] at hrun ⊢;exact hrun
  have h5k:∀ (o:Obj),KeepsFrom V.heap.size W2 (W4.putObj (w.heap.size+1) o):=fun o=>by
   have h5:KeepsFrom V.heap.size W4 (W4.putObj (w.heap.size+1) o):=KeepsFrom.of_grownBy (grownBy_putObj' _ _ _) (fun j e=>by cases e; omega);exact (hk3.trans (KeepsFrom.mono hk4 G)).trans h5
  rcases hp with ⟨rfl,hq4,hi4⟩|⟨rfl,hi4⟩
  ·obtain ⟨W5,hend,hW5⟩:=fin none
   refine ⟨_,_,hend,true,rfl,?_,?_⟩
   ·rw [hW5]; exact (KeepsFrom.mono hk2 G).trans (h5k _)
   rw [if_pos rfl];refine ⟨⟨?_,?_,?_⟩,?_⟩
   ·rw [hW5]; exact hI.putObj _ hi4 G hl4 rfl
   ·rw [hW5]; exact World.putObj_heap_same (Array.getElem?_eq_some_iff.1 hl4).1
   ·rw [hW5]; exact (World.putObj_heap_other G).trans hd4
   ·refine hKt (hKt (hKt hq2 hq3) hq4) ?_
    rw [hW5];exact hKb _ _ _ _ G hl4 rfl rfl
  ·obtain ⟨W5,hend,hW5⟩:=fin (some .ret)
   refine ⟨_,_,hend,false,rfl,?_,?_⟩
   ·rw [hW5]; exact (KeepsFrom.mono hk2 G).trans (h5k _)
   rw [if_neg (by decide)];refine ⟨?_,?_,?_⟩
   ·rw [hW5]; exact hIx.putObj _ hi4 G hl4 rfl
   ·rw [hW5]; exact World.putObj_heap_same (Array.getElem?_eq_some_iff.1 hl4).1
   ·rw [hW5]; exact (World.putObj_heap_other G).trans hd4
 ·rintro e W ⟨⟨v,rfl⟩,⟨xs,hS,hi,hl,hd⟩|⟨pre,hi,hl,hd⟩⟩
  ·have hend:=run_endLoop (P:=P) hl (by rw [hR]; simp)
   refine ⟨_,_,hend,?_⟩;have hp:(R .ready none).pending=none:=by rw [hR]
   rw [hp];exact hdone _ xs _ (Nat.le_refl _) hS (hI.putObj _ hi G hl rfl) ((World.putObj_heap_other G).trans hd)
  ·have hend:=run_endLoop (P:=P) hl (by rw [hR]; simp)
   refine ⟨_,_,hend,?_⟩;have hp:(R .done (some .ret)).pending=some .ret:=by rw [hR]
   rw [hp];exact hstop _ pre _ (Nat.le_refl _) (hIx.putObj _ hi G hl rfl) ((World.putObj_heap_other G).trans hd)
end
section
open Go.RowKit Go.Maps
theorem bx3 {W0:World} {B1 B2 B3 n:Nat} {v:Value} {o:Option Nat} {f:Pk->Option Bool} {xs:List Pk} {es:List (ElP f)} (h:ItP W0 B1 B2 v o n f xs) (hE:EsP f xs es)
  (h3:Blk 222 W0 B3 #[.func (.func 156) #[] #[K B1,K B2]]) (W:World) (hW:Below W0.heap.size W0 W):
  Leads prog 125 #[K B3] arO es.length (fun ys=>ys=es) (KqO (itL B1 B2 v o)) W:=fun l J Jx hJ hJx hY h0=>by
 refine (callsIn_wide.1 (owns1 (h.held hW) hE (h3.held hW) (.loop l) J Jx hJ hJx (fun pre x W1 hj hs hl=>?_) h0 0)).mono ?_
 ·refine Fv.At.mono (R:=_) (hY pre x W1 hj hs hl) ?_
  rintro e W' ⟨b,rfl,h1,h2⟩;refine ⟨b,rfl,h1,?_⟩
  cases b with
  |true=>
   rw [if_pos rfl] at h2 ⊢;exact ⟨h2.1,h2.2.1,h2.2.2⟩
  |false=>
   rw [if_neg (by decide)] at h2 ⊢;exact h2
 ·rintro e W' ⟨h1,h2|h2⟩
  ·exact ⟨h1,.inl ⟨es,rfl,h2⟩⟩
  ·exact ⟨h1,.inr h2⟩
end
section
open Go.RowKit Go.Maps Rm Fm Sb
attribute [local go_sem] Oper.semAt_some
theorem bk8 {w:World} {R:Nat} {o fl tb:Option Nat} {j:Jr} {N n:Nat} {M:Mr} (h:Rr w R o fl tb j N n M):
  Q 84 #[Pt R] w fun e w'=>∃ q:Bool,e= .returned (O q)/\(q=true↔∃ p:Pk,p.ok/\M.sm.own p=some true)/\Bw w w':=by
 obtain ⟨hb1,hBx⟩:=nw w 4 #[O false];have h1:=h.held hb1;have HST:=ac4 h1;have HR:=Z h;refine (callsIn_wide (n:=9)).1 ?_;refine callsIn_of_wp_marks Tryz.func84 rfl trivial ?_ rfl;simp only [Tryz.ntmps84,List.size_toArray,List.length_cons,List.length_nil,Nat.reduceAdd,Nat.reduceSub,Array.replicate_succ,Array.replicate_zero,List.push_toArray,List.append_toArray,List.nil_append,List.cons_append];clear h
 gi_wp2
 have hz:(w.alloc (.cells #[O false] 4)).heap.size=w.heap.size+1:=aa1 w _;generalize w.alloc _=w1 at*;refine ⟨trivial,(aa7 HST).mono ?_⟩;rintro e w1' ⟨rfl,hb1'⟩;have hR1:=h1.held hb1';obtain ⟨cn,cm,hnm,hS⟩:=hR1.nt;have HO:=bb5 hS;clear HST
 gi_wp2
 refine ⟨trivial,(aa7 HO).mono ?_⟩;rintro e w2 ⟨B1,B2,B3,v1,oo,xs,rfl,hI,h3,hfr,hB3,hB⟩;clear HO
 gi_wp2
 have hbb:=next hb1' hB;have hsz2:=hbb.size;have hsz1:=hb1'.size;obtain ⟨es,hE⟩:=bt7 (f:=M.sm.own) (fun _ _ _=>rfl) xs (fun x hx=>(hI.mem x).1 hx);have hxs:es.length=xs.length:=by rw [<- show es.map (·.key)=xs from hE]; simp
 have h1w:w.heap.size<=w.heap.size:=Nat.le_refl _;refine ci4 (α:=ElP M.sm.own) rfl am8 (bx3 hI hE h3) (fun _=>rfl) (fun h k=>⟨h.1.trans k.1,fun b C hb=>k.2 b C (h.2 b C hb)⟩) (fun W l o o' hl h hc hw=>⟨af8 hI.lt W l o o' hl h hc hw,KeepT.put W l o o' h hc⟩)
  (fun pre W=>(Blk 4 W w.heap.size #[O false]/\Bw w W)/\∀ x∈pre,x.val=false)
  (fun pre W=>(Blk 4 W w.heap.size #[O true]/\Bw w W)/\∃ p:Pk,p.ok/\M.sm.own p=some true)
  (OwnFrom.and (OwnFrom.and (fun _ _ _ _ hs hg hr=>hs.grown hg hr) (ownFrom_below h1w G)) (ownFrom_pure _ _)) (OwnFrom.and (OwnFrom.and (fun _ _ _ _ hs hg hr=>hs.grown hg hr) (ownFrom_below h1w G)) (ownFrom_pure _ _)) ⟨⟨hBx.held hbb,next hb1 hbb⟩,fun _ h=>by cases h⟩
  (fun x a' W=>a'={ tmps:=#[Pt R,undef,Pt w.heap.size,undef,O x.val,Pt R,Pt R,.func (.func 125) #[] #[Pt B3],.agg #[U x.key.a,I x.key.n],O x.val,undef],defers:=[] })
  ?_ ?assign ?body ?done ?stop
 ·rintro x a' s W W' row rfl hg hr
  rfl
 case assign=>
  rintro l pre ⟨⟨xa,xn⟩,y,hok,hfit,hhas⟩ W K hL hK;simp only [arO,clP]
  gi_wp2
  exact hK _ _ (KeepsFrom.refl _ _) ⟨⟨Keep.refl _ _,Nat.le_refl _⟩,fun _ _ h=>h⟩ hL rfl
 case body=>
  rintro l pre ⟨⟨xa,xn⟩,y,hok,hfit,hhas⟩ a' W ⟨⟨hL,hbw⟩,hall⟩ rfl hlt;have p0:=hL.at_ 0;have f0:=hL.free 0;have X:=H3 hL hbw hall;clear hL hbw hall
  cases y with
  |true=>
   gi_wp2
   exact ⟨(KeepsOthers.setCell _ _ _).from _,⟨X.out.1.store 0 (O true),X.out.2.1.setCell (Nat.le_refl _) _⟩,⟨⟨xa,xn⟩,hok,hhas⟩⟩
  |false=>
   gi_wp2
   refine ⟨KeepsFrom.refl _ _,⟨⟨Keep.refl _ _,Nat.le_refl _⟩,fun _ _ h=>h⟩,⟨X.out.1,X.out.2.1⟩,fun x hx=>?_⟩;rcases hx with h|h
   ·exact X.out.2.2 x h
   ·rw [h]
 case done=>
  rintro D es' W hD rfl ⟨⟨hL,hbw⟩,hall⟩ hK;have p0:=hL.at_ 0;have f0:=hL.free 0;have hnone:¬ ∃ p:Pk,p.ok/\M.sm.own p=some true:=by
   rintro ⟨p,hp,ho⟩;have hm:=(hI.mem p).2 ⟨hp,by show (M.sm.own p).isSome=true; rw [ho]; rfl⟩;rw [<- show es'.map (·.key)=xs from hE] at hm;obtain ⟨x,hx,rfl⟩:=List.mem_map.1 hm;have h1:=hall x hx;have h2:=x.has;rw [h1] at h2;rw [ho] at h2
   cases h2
  gi_wp2
  have hDne:D≠w.heap.size:=G
  have hK2:=(Below.heap_setCell W ⟨w.heap.size,0,none⟩ (O false) D hDne).trans hK;have hL3:Blk 4 ((W.setCell (Y w.heap.size 0) (O false)).putObj D (.deferred none)) w.heap.size #[O false]:=(World.putObj_heap_other G).trans (hL.store 0 (O false));have q0:=hL3.at_ 0;refine ⟨by simp,.inl ⟨_,_,rfl,run_takeDeferred hK2,O false,?_,false,rfl,⟨fun h=>(by cases h),fun h=>absurd h hnone⟩,?_⟩⟩
  ·simp [results,Tryz.results84,go_sem,q0]
  ·exact (hbw.setCell (Nat.le_refl _) _).grown (grownBy_putObj' _ _ _) (Nat.le_trans hbw.size (by simp [World.setCell])) (fun k e=>by cases e; omega)
 case stop=>
  rintro D pre W hD ⟨⟨hL,hbw⟩,hex⟩ hK;have p0:=hL.at_ 0;have f0:=hL.free 0
  gi_wp2
  have hL3:Blk 4 (W.putObj D (.deferred none)) w.heap.size #[O true]:=(World.putObj_heap_other G).trans hL;have q0:=hL3.at_ 0;refine ⟨by simp,.inl ⟨_,_,rfl,run_takeDeferred hK,O true,?_,true,rfl,⟨fun _=>hex,fun _=>rfl⟩,?_⟩⟩
  ·simp [results,Tryz.results84,go_sem,q0]
  ·exact hbw.grown (grownBy_putObj' _ _ _) hbw.size (fun k e=>by cases e; omega)
def Mr.aged (M:Mr):Mr:={ M with now:=M.now+1,f:=lessF M.f (deadAt M.f (M.now+1)) }
def Mr.ownsAny (M:Mr):Prop:=∃ p:Pk,p.ok/\M.sm.own p=some true
def Ticks (M M2:Mr):Prop:=(M.aged.ownsAny/\M2=M.aged.advance)\/(¬ M.aged.ownsAny/\M2=M.aged)
def sends (c:Nat->Int) (ds:List (List Nat)) (k:Nat):List (Nat×List Nat):=(List.range k).flatMap fun i=>if c i=0 then [] else ds.map fun d=>(i,d)
theorem ap3 (c:Nat->Int) (ds:List (List Nat)) (k:Nat):sends c ds (k+1)=sends c ds k++if c k=0 then [] else ds.map fun d=>(k,d):=by
 unfold sends;rw [List.range_succ,List.flatMap_append];simp
theorem cd6 (c:Nat->Int) (ds:List (List Nat)) (k:Nat):(sends c ds k).length<=k*ds.length:=by
 induction k with
 |zero=>simp [sends]
 |succ k ih=>
  rw [ap3,List.length_append,Nat.add_mul,Nat.one_mul];split
  ·simp; omega
  ·simp; omega
theorem Mr.Good.aged {M:Mr} (h:M.Good):M.aged.Good:=fun k r hk=>h k r (bc7 hk)
theorem ch0 (M:Mr) (t:Int) (o fl:Option Nat) (j:Jr) (tb:Option Nat):(M.C o fl j tb).setIfInBounds 19 (I t)=({ M with now:=t }:Mr).C o fl j tb:=rfl
def TkR (w7:World) (c:Nat->Int) (ds:List (List Nat)) (k j:Nat) (v:Value) (wr:World):Prop:=
 ∃ xs,Ot w7.heap.size v (sends c ds k++(ds.take j).map fun d=>(k,d)) xs wr/\Bw w7 wr
theorem az8 {ds:List (List Nat)} {k jj Ld:Nat} {bs:List Nat} (h:jj<Ld) (hl:ds.length=Ld) (hb:bs=ds[jj]'og):((ds.take (jj+1)).map fun d=>(k,d))=((ds.take jj).map fun d=>(k,d))++[(k,bs)]:=by
 subst hl;rw [List.take_add_one,List.map_append,List.getElem?_eq_getElem h,hb];rfl
theorem ah5:∀ (l:List T.Tm.Up) (cur:List Nat) (id:Nat),(T.Tm.pages cur id l).length<=l.length+1
 |[],cur,id=>by rw [T.Tm.pages]; split<;>simp
 |u::r,cur,id=>by
  rw [T.Tm.pages];have h1:=ah5 r cur id;have h2:=ah5 r (T.Tm.parts u 0) u.id;have h3:=ah5 r (cur++T.Tm.parts u id) u.id;split
  ·simp; omega
  ·split
   ·simp; omega
   ·simp; omega
theorem bz3 (l:List T.Tm.Up):(T.Tm.encode l).length<=l.length+1:=by unfold T.Tm.encode; rw [List.length_map]; exact ah5 l [] 0
theorem ax9 (c:Nat->Int) {k:Nat} (hk:k<8) (w:World):(Instr.index 86 (.agg #[I (c 0),I (c 1),I (c 2),I (c 3),I (c 4),I (c 5),I (c 6),I (c 7)]) (I (k:Int))).run prog w= .ok (I (c k)) w:=by
 have:k=0\/k=1\/k=2\/k=3\/k=4\/k=5\/k=6\/k=7:=G
 rcases this with rfl|rfl|rfl|rfl|rfl|rfl|rfl|rfl<;>(show _=_; kernel_rfl)
end
end Go.Proofs.YtafkfnodcemefaaGreat
