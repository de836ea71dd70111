import Derived.Test.YtafkfnodcemefaaGreatB09
import Derived.StillTailTactics
import Derived.Deep.DeepCutAuto
set_option maxHeartbeats 8000000
set_option maxRecDepth 100000
set_option maxRecDepth 20000
namespace Go.Proofs.YtafkfnodcemefaaGreat.T
open _root_.Go.Proofs.Tryz (prog)
open Go.RowKit Tm
theorem ad7 (A:Option Addr) (n cap k:Nat) (hk:k<=n) (hcap:n<=cap) (w:World) {z:Int} (hz:z=k) {A':Option Addr} (hA:A'=if cap=k then A else A.map (·.add k)) {m c:Nat} (hm:m=n - k) (hc:c=cap - k):
  (Instr.slice 45 (.slice A n cap) (some (I z)) none none).run prog w= .ok (.slice A' m c) w:=by
 subst hA hm hc;have d1:(k:Int)<=(n:Int):=G
 subst hz;by_cases e:cap=k
 ·rw [if_pos e]; subst e; go_simp
 ·rw [if_neg e]; go_simp
theorem ae5 (b off n cap k l:Nat) (hk:k<l) (hl:l<=cap) (w:World) {z y:Int} (hz:z=k) (hy:y=l) {o' m c:Nat} (ho:o'=off+k) (hm:m=l - k) (hc:c=cap - k):
  (Instr.slice 45 (Mt b off n cap) (some (I z)) (some (I y)) none).run prog w= .ok (Mt b o' m c) w:=by
 subst hm hc ho;have d1:(k:Int)<=(l:Int):=G
 have d2:(l:Int)<=(cap:Int):=G
 have d3:¬ cap=k:=G
 subst hz hy;go_simp
theorem Sl.turn {w w':World} {b off n cap:Nat} {bs:List Nat} {L:List Nat} (h:Sl w (some (Y b off)) n cap bs) (t:Turn L w w') (hb:b∉L):Sl w' (some (Y b off)) n cap bs:=
 ⟨⟨h.bytes.1,h.bytes.2.1,h.bytes.2.2.1,fun k hk=>by
  obtain ⟨ad,e,hc⟩:=h.bytes.2.2.2 k hk
  cases e;exact ⟨_,rfl,t.cell hc (by rw [add_block]; exact hb)⟩⟩,h.cap,h.plain⟩
theorem Sl.lt {w:World} {b off n cap:Nat} {bs:List Nat} (h:Sl w (some (Y b off)) n cap bs) (h0:0<n):b<w.heap.size:=aw8 (h.at_ (k:=0) h0)
theorem Sl.drew {w:World} {A:Option Addr} {n cap:Nat} {bs:List Nat} (h:Sl w A n cap bs):Sl w.drew A n cap bs:=⟨h.bytes,h.cap,h.plain⟩
structure Gets (b off cap g:Nat) (n:Nat) (bs:List Nat) (a s m:Nat):Prop where
 ga:∀ wx:World,Blk 143 wx g (cls ((bs.drop 7++[0,0,0,0]).take 4))->Q 38 #[Lt g 4 4] wx fun e w'=>e= .returned (U (a:Nat))/\wx=w'
 gs:∀ wx:World,Sl wx (some (Y b off)) n cap bs->Q 38 #[Mt b (off+1) 4 (cap - 1)] wx fun e w'=>e= .returned (U (s:Nat))/\wx=w'
 gm:∀ wx:World,Sl wx (some (Y b off)) n cap bs->Q 38 #[Mt b (off+5) 2 (cap - 5)] wx fun e w'=>e= .returned (U (m:Nat))/\wx=w'
theorem gets (b off cap g n:Nat) (bs:List Nat) (h7:7<=n) (hb:∀ c∈bs,c<256):Gets b off cap g n bs (Tm.val ((bs.drop 7++[0,0,0,0]).take 4)) (Tm.val ((bs.drop 1).take 4)) (Tm.val ((bs.drop 5).take 2)):=
 ⟨fun wx h=>by
  have hl:((bs.drop 7++[0,0,0,0]).take 4).length=4:=sn;have h4:=BytesAt.cls h (fun c hc=>by
   rcases List.mem_append.1 (List.mem_of_mem_take hc) with h'|h'
   ·exact hb c (List.mem_of_mem_drop h')
   ·simp at h'; omega) G
  rw [hl] at h4;exact am6 _ 4 4 _ wx h4 G,
  fun wx h=>ae1 h 1 4 G G (cap - 1),fun wx h=>ae1 h 5 2 G G (cap - 5)⟩
theorem cc1 {A:Option Addr} {n cap:Nat} {bs:List Nat} {w:World} (h:Sl w A n cap bs) (hf:fits bs=true) {id:Nat} {u:Up} (hu:upOf bs id=u) {r:Bool} (hr:right u=r):
  Q 39 #[.slice A n cap,Uu id] w (Rr0 w (.tuple #[.agg u.cs,O r])):=by
 have hl:=h.bytes.1;have hmx:=h.bytes.2.1;have hcap:=h.cap;have hmx':n<=9223372036854775807:=by unfold maxLen at hmx; omega
 clear hmx;unfold fits at hf;simp only [Bool.and_eq_true,decide_eq_true_eq,hl] at hf;obtain ⟨h7,hn⟩:=hf;obtain ⟨b,off,rfl⟩:=h.plain og;have d1:=df ((n:Int)<7);have hbl:=h.lt og;have hx:=h.bytes.lt 0;have hZ:Blk 71 (w.alloc (.cells #[Uu 0,I 0,Uu 0,Uu 0,Vv 0] 71)) w.heap.size (ucs 0 0 0 0 0):=Blk.new w _ _;have hb:=aa0 w (.cells #[Uu 0,I 0,Uu 0,Uu 0,Vv 0] 71);have hsz:=aa1 w (.cells #[Uu 0,I 0,Uu 0,Uu 0,Vv 0] 71);have h1:=h.held hb;have c0:(w.alloc (.cells #[Uu 0,I 0,Uu 0,Uu 0,Vv 0] 71)).cell? ⟨b,off,none⟩=some (Yy (bs.getD 0 0:Nat)):=h1.at_ (k:=0) og;have hup:u=⟨Tm.val ((bs.drop 7++[0,0,0,0]).take 4),bs.getD 0 0,if Tm.val ((bs.drop 5).take 2)=65535 then 0 else id,Tm.val ((bs.drop 1).take 4),Tm.val ((bs.drop 5).take 2)⟩:=hu ▸ rfl;clear hu;generalize hxx:bs.getD 0 0=x0 at*;have d2:((n:Int)==((7+nb x0:Nat):Int))=true:=beq_iff_eq.2 og;have ha4:Tm.val ((bs.drop 7++[0,0,0,0]).take 4)<4294967296:=Tm.val_lt 4 _ sn (fun c hc=>by
  rcases List.mem_append.1 (List.mem_of_mem_take hc) with h'|h'
  ·exact h.bytes.2.2.1 c (List.mem_of_mem_drop h')
  ·simp at h'; omega)
 have hm2:Tm.val ((bs.drop 5).take 2)<65536:=Tm.val_lt 2 _ (by simp; omega) (fun c hc=>h.bytes.2.2.1 c (List.mem_of_mem_drop (List.mem_of_mem_take hc)));have V:=H6 hZ hb h1 hup hr hl;clear hZ hb h h1 hup hr hn hl;go_enter Tryz.func39,Tryz.ntmps39;go_wp2_with fail;generalize w.alloc _=w2 at*;refine (ai2 x0 og _).mono ?_;rintro e w' ⟨rfl,rfl⟩;generalize 7+nb x0=q at*;go_wp2_with fail;obtain ⟨hZ,hb,h1,hup,hr,hl⟩:=V.out;obtain ⟨hbn,hG⟩:=nw w2 143 #[Yy 0,Yy 0,Yy 0,Yy 0];have hG4:Blk 143 (w2.alloc (.cells #[Yy 0,Yy 0,Yy 0,Yy 0] 143)) w2.heap.size (cls [0,0,0,0]):=hG;rw [hsz] at hG4;have hZ2:=hZ.held hbn;have hb2:=next hb hbn;have h2:=h1.held hbn;have hsz2:=aa1 w2 (.cells #[Yy 0,Yy 0,Yy 0,Yy 0] 143);rw [hsz] at hsz2;clear hG hbn hZ hb h1 V;generalize w2.alloc _=W at*;obtain ⟨A',hA'⟩:∃ A':Option Addr,A'=if cap=7 then some ⟨b,off,none⟩ else (some (⟨b,off,none⟩:Addr)).map (·.add 7):=⟨_,rfl⟩
 obtain ⟨m,hm⟩:=eX (n - 7);obtain ⟨c,hc⟩:=eX (cap - 7);have s7:=ad7 (some ⟨b,off,none⟩) n cap 7 h7 hcap W (z:=7) rfl hA' hm hc;have s7':=ad7 (some ⟨b,off,none⟩) n cap 7 h7 hcap W.drew (z:=7) rfl hA' hm hc;have hS7:Sl W.drew A' m c (bs.drop 7):=by
  have:=h2.of_part (k:=7) (m:=m) (cap':=c) og og hA';rw [List.take_of_length_le (by rw [List.length_drop,hl]; omega)] at this;exact ⟨this.bytes,this.cap,this.plain⟩
 obtain ⟨w3,hcp,hG3,hT3⟩:=cl9 (w:=W.drew) hG4 hS7 3;have hbn:b∉[w.heap.size+1]:=by simp; omega
 have X:=Zq (And.intro (hZ2.drew.turn hT3 sn) (And.intro (hb2.drew.trans (hT3.below (B:=w.heap.size) sn (by show w.heap.size<=W.heap.size; omega))) (And.intro (h2.drew.turn hT3 hbn) (And.intro hup (And.intro hr (And.intro hG3 (And.intro hT3.size hl)))))));clear hG4 hZ2 hb2 h2 hS7 hG3 hT3 hA' hm hc hup hr hl;clear c0 hsz;go_region;obtain ⟨hZ3,hb3,h3,hup,hr,hG3,hT3,hl⟩:=X.out;have hT3':w.heap.size+1+1<=w3.heap.size:=by rw [<- hsz2]; exact hT3
 clear s7 s7' hcp X hT3 hsz2;have G:=gets b off cap (w.heap.size+1) n bs h7 h3.bytes.2.2.1;have s1:∀ W:World,(Instr.slice 45 (Mt b off n cap) (some (I 1)) (some (I 5)) none).run prog W= .ok (Mt b (off+1) 4 (cap - 1)) W:=fun W=>ae5 b off n cap 1 5 og og W rfl rfl rfl rfl rfl
 have s5:∀ W:World,(Instr.slice 45 (Mt b off n cap) (some (I 5)) (some (I 7)) none).run prog W= .ok (Mt b (off+5) 2 (cap - 5)) W:=fun W=>ae5 b off n cap 5 7 og og W rfl rfl rfl rfl rfl
 have c0:w3.cell? ⟨b,off,none⟩=some (Yy (bs.getD 0 0:Nat)):=h3.at_ (k:=0) og;have hx0:bs.getD 0 0=x0:=hxx;rw [hx0] at c0;have hBd:=h3.drew;have hBe:Sl (w3.alloc (.cells #[Uu 0,I 0,Uu 0,Uu 0,Vv 0] 71)).drew (some ⟨b,off,none⟩) n cap bs:=(h3.held (aa0 _ _)).drew;have hGd:Blk 143 w3.drew (w.heap.size+1) (cls ((bs.drop 7++[0,0,0,0]).take 4)):=hG3;have hGe:Blk 143 (w3.alloc (.cells #[Uu 0,I 0,Uu 0,Uu 0,Vv 0] 71)).drew (w.heap.size+1) (cls ((bs.drop 7++[0,0,0,0]).take 4)):=(hG3.held (aa0 _ _)).drew;have Z:=H5 hZ3 hb3 hup hr hT3';clear hZ3 hb3 hup hr hT3';generalize Tm.val ((bs.drop 7++[0,0,0,0]).take 4)=av at*;generalize Tm.val ((bs.drop 1).take 4)=sv at*;generalize Tm.val ((bs.drop 5).take 2)=mv at*;have q0:IntKind.i64.wrap (x0:Int)=x0:=by rw [IntKind.wrap_i64]; omega
 have q2:IntKind.u16.wrap (mv:Int)=mv:=by simp [IntKind.wrap,IntKind.bits,IntKind.signed]; omega
 replace G:=Zq G;have hn0:0<n:=og;have hn1:(0:Int)<(n:Int):=og;go_wp2_with fail;go_region_held3 (fun w'=>w'.cell? ⟨b,off,none⟩=some (Yy (x0:Nat)))
  (first|exact c0|exact held (aa0 _ _) c0|go_keep)
  (first|(go_at_call 38; with_reducible refine (G.out.ga _ (by first|exact hGd|exact hGe)).mono ?_; rintro e w' ⟨rfl,rfl⟩)|(go_at_call 38; with_reducible refine (G.out.gs _ (by first|exact hBd|exact hBe)).mono ?_; rintro e w' ⟨rfl,rfl⟩)|(go_at_call 38; with_reducible refine (G.out.gm _ (by first|exact hBd|exact hBe)).mono ?_; rintro e w' ⟨rfl,rfl⟩))
 all_goals
  obtain ⟨hZ3,hb3,hup,hr,hT3⟩:=Z.out;have hX:Blk 71 (w3.alloc (.cells #[Uu av,I x0,Uu 0,Uu sv,Vv mv] 71)).drew w3.heap.size #[Uu av,I x0,Uu 0,Uu sv,Vv mv]:=(Blk.new w3 _ _).drew;have hY:Blk 71 (w3.alloc (.cells #[Uu av,I x0,Uu 0,Uu sv,Vv mv] 71)).drew w.heap.size (ucs 0 0 0 0 0):=(hZ3.more _).drew;have hb4:=(next hb3 (aa0 w3 (.cells #[Uu av,I x0,Uu 0,Uu sv,Vv mv] 71))).drew;generalize (w3.alloc (.cells #[Uu av,I x0,Uu 0,Uu sv,Vv mv] 71)).drew=x at*;have hne:w3.heap.size≠w.heap.size:=og;have hge:w.heap.size<=w3.heap.size:=og;clear hZ3 hb3 hT3 Z q0 q2 s1 s5 hBd hBe hGd hGe h3 hG3 c0 hn0 hn1 h7 hcap hmx' d1 hbn hl hbl hx0;generalize w3.heap.size=g at*;have c3:x.cell? ⟨g,3,none⟩=some (Uu sv):=hX.at_ 3;have c4:x.cell? ⟨g,4,none⟩=some (Vv mv):=hX.at_ 4;have N:=H6 hup hr hne hX hY hb4;clear hup hr hne hX hY hb4
  cases hm:((mv:Int)==65535)
  ·have M:=Zq hm
   clear hm;go_wp2_with fail;refine (af6 M.out _).mono ?_;rintro e x2 ⟨rfl,hb5⟩;obtain ⟨hup,hr,hne,hX,hY,hb4⟩:=N.out;have hX2:=(hX.held hb5).store 2 (Uu (id:Int));have f2:=(hX.held hb5).free 2;have c2:=(hX.held hb5).at_ 2;have hY2:=(hY.held hb5).away (p:=⟨g,2,none⟩) (by show w.heap.size≠g; omega) (Uu (id:Int));have hb6:=(next hb4 hb5).setCell (p:=⟨g,2,none⟩) hge (Uu (id:Int));have hm':¬ mv=65535:=fun e=>by subst e; cases M.out
   rw [if_neg hm'] at hup;have N2:=H6 hup hr hne hX2 hY2 hb6;clear hup hr hne hX hY hb4 hb5 hX2 hY2 hb6 c3 c4 N M hm';go_wp2_with fail;clear c2 f2;generalize x2.setCell ⟨g,2,none⟩ (Uu (id:Int))=y at*;obtain ⟨hup,hr,hne,hX,hY,hb4⟩:=N2.out;have TR:=ap1 av x0 id sv mv ha4 y.drew;rw [<- hup,hr] at TR;have x0c:y.drew.cell? ⟨g,0,none⟩=some (Uu av):=hX.at_ 0;have x1c:y.drew.cell? ⟨g,1,none⟩=some (I x0):=hX.at_ 1;have x2c:y.drew.cell? ⟨g,2,none⟩=some (Uu id):=hX.at_ 2;have x3c:y.drew.cell? ⟨g,3,none⟩=some (Uu sv):=hX.at_ 3;have x4c:y.drew.cell? ⟨g,4,none⟩=some (Vv mv):=hX.at_ 4;have Y:=H2 hY.drew hb4.drew;have U:=Zq hup;clear hup hr hne hX hY hb4 N2;go_region_with (go_at_call 71; refine TR.mono ?_; rintro e y2 ⟨rfl,hb6⟩; have k0:=held hb6 x0c; have k1:=held hb6 x1c; have k2:=held hb6 x2c; have k3:=held hb6 x3c; have k4:=held hb6 x4c; have hY2:=Y.out.1.held hb6; have hb7:=next Y.out.2 hb6; have z0:y2.cell? ⟨w.heap.size,0,none⟩=some (Uu ((0:Nat):Int)):=hY2.at_ 0; have z1:y2.cell? ⟨w.heap.size,1,none⟩=some (I ((0:Nat):Int)):=hY2.at_ 1; have z2:y2.cell? ⟨w.heap.size,2,none⟩=some (Uu ((0:Nat):Int)):=hY2.at_ 2; have z3:y2.cell? ⟨w.heap.size,3,none⟩=some (Uu ((0:Nat):Int)):=hY2.at_ 3; have z4:y2.cell? ⟨w.heap.size,4,none⟩=some (Vv ((0:Nat):Int)):=hY2.at_ 4; have f0:=hY2.free 0; have f1:=hY2.free 1; have f2:=hY2.free 2; have f3:=hY2.free 3; have f4:=hY2.free 4; have Y2:=H2 hY2 hb7; clear hb6 hY2 hb7);all_goals
    go_wp2_with fail;have L:=((((Y2.out.1.store 0 (Uu (av:Int))).store 1 (I (x0:Int))).store 2 (Uu (id:Int))).store 3 (Uu (sv:Int))).store 4 (Vv (mv:Int));have L2:Blk 71 _ w.heap.size (ucs av x0 id sv mv):=L;have eu:=U.out;subst eu;refine bodyPost_ret (v:= .tuple #[.agg (ucs av x0 id sv mv),O r]) (ak3 (p:=4) (u:=5) kr rfl rfl L2) rfl ⟨rfl,?_⟩;exact ((((Y2.out.2.setCell (p:=⟨w.heap.size,0,none⟩) (Nat.le_refl _) _).setCell (p:=⟨w.heap.size,1,none⟩) (Nat.le_refl _) _).setCell (p:=⟨w.heap.size,2,none⟩) (Nat.le_refl _) _).setCell (p:=⟨w.heap.size,3,none⟩) (Nat.le_refl _) _).setCell (p:=⟨w.heap.size,4,none⟩) (Nat.le_refl _) _
  ·have M:=Zq hm
   clear hm;go_wp2_with fail;refine (af6 M.out _).mono ?_;rintro e y ⟨rfl,hb5⟩;obtain ⟨hup,hr,hne,hX,hY,hb4⟩:=N.out;have hm':mv=65535:=by have:=beq_iff_eq.1 M.out; omega
   rw [if_pos hm'] at hup;have N2:=H6 hup hr hne (hX.held hb5) (hY.held hb5) (next hb4 hb5);clear hup hr hne hX hY hb4 hb5 c3 c4 N M hm';go_wp2_with fail;obtain ⟨hup,hr,hne,hX,hY,hb4⟩:=N2.out;have TR:=ap1 av x0 0 sv mv ha4 y.drew;rw [<- hup,hr] at TR;have x0c:y.drew.cell? ⟨g,0,none⟩=some (Uu av):=hX.at_ 0;have x1c:y.drew.cell? ⟨g,1,none⟩=some (I x0):=hX.at_ 1;have x2c:y.drew.cell? ⟨g,2,none⟩=some (Uu ((0:Nat):Int)):=hX.at_ 2;have x3c:y.drew.cell? ⟨g,3,none⟩=some (Uu sv):=hX.at_ 3;have x4c:y.drew.cell? ⟨g,4,none⟩=some (Vv mv):=hX.at_ 4;have Y:=H2 hY.drew hb4.drew;have U:=Zq hup;clear hup hr hne hX hY hb4 N2;go_region_with (go_at_call 71; refine TR.mono ?_; rintro e y2 ⟨rfl,hb6⟩; have k0:=held hb6 x0c; have k1:=held hb6 x1c; have k2:=held hb6 x2c; have k3:=held hb6 x3c; have k4:=held hb6 x4c; have hY2:=Y.out.1.held hb6; have hb7:=next Y.out.2 hb6; have z0:y2.cell? ⟨w.heap.size,0,none⟩=some (Uu ((0:Nat):Int)):=hY2.at_ 0; have z1:y2.cell? ⟨w.heap.size,1,none⟩=some (I ((0:Nat):Int)):=hY2.at_ 1; have z2:y2.cell? ⟨w.heap.size,2,none⟩=some (Uu ((0:Nat):Int)):=hY2.at_ 2; have z3:y2.cell? ⟨w.heap.size,3,none⟩=some (Uu ((0:Nat):Int)):=hY2.at_ 3; have z4:y2.cell? ⟨w.heap.size,4,none⟩=some (Vv ((0:Nat):Int)):=hY2.at_ 4; have f0:=hY2.free 0; have f1:=hY2.free 1; have f2:=hY2.free 2; have f3:=hY2.free 3; have f4:=hY2.free 4; have Y2:=H2 hY2 hb7; clear hb6 hY2 hb7);all_goals
    go_wp2_with fail;have L:=((((Y2.out.1.store 0 (Uu (av:Int))).store 1 (I (x0:Int))).store 2 (Uu ((0:Nat):Int))).store 3 (Uu (sv:Int))).store 4 (Vv (mv:Int));have L2:Blk 71 _ w.heap.size (ucs av x0 0 sv mv):=L;have eu:=U.out;subst eu;refine bodyPost_ret (v:= .tuple #[.agg (ucs av x0 0 sv mv),O r]) (ak3 (p:=4) (u:=5) kr rfl rfl L2) rfl ⟨rfl,?_⟩;exact ((((Y2.out.2.setCell (p:=⟨w.heap.size,0,none⟩) (Nat.le_refl _) _).setCell (p:=⟨w.heap.size,1,none⟩) (Nat.le_refl _) _).setCell (p:=⟨w.heap.size,2,none⟩) (Nat.le_refl _) _).setCell (p:=⟨w.heap.size,3,none⟩) (Nat.le_refl _) _).setCell (p:=⟨w.heap.size,4,none⟩) (Nat.le_refl _) _
end Go.Proofs.YtafkfnodcemefaaGreat.T
set_option maxRecDepth 20000
namespace Go.Proofs.YtafkfnodcemefaaGreat.T
open _root_.Go.Proofs.Tryz (prog)
open Go.RowKit Tm
def ucl (u:Up):List Value:=u.cs.toList
theorem ak0 (u:Up):(ucl u).length=5:=rfl
theorem cy7 (us:List Up):∀ v∈us.flatMap ucl,v.oneCell'=true:=by
 intro v hv;obtain ⟨u,-,h⟩:=List.mem_flatMap.1 hv;simp only [ucl,Up.cs,ucs,List.mem_cons,List.not_mem_nil,or_false] at h;rcases h with rfl|rfl|rfl|rfl|rfl<;>rfl
theorem bm9 (us:List Up):(us.flatMap ucl).length=us.length*5:=by
 induction us with
 |nil=>rfl
 |cons u r ih=>rw [List.flatMap_cons,List.length_append,ih,ak0,List.length_cons]; omega
theorem flat_get {us:List Up} {i j:Nat} (hi:i<us.length) (hj:j<5):(us.flatMap ucl)[5*i+j]?=(us[i].cs)[j]?:=by
 induction us generalizing i with
 |nil=>simp at hi
 |cons u r ih=>
  rw [List.flatMap_cons]
  cases i with
  |zero=>rw [Nat.mul_zero,Nat.zero_add,List.getElem?_append_left (by rw [ak0]; exact hj)]; simp [ucl]
  |succ i=>
   rw [List.getElem?_append_right (by rw [ak0]; omega),ak0,show 5*(i+1)+j - 5=5*i+j by omega];simpa using ih (by simpa using hi)
theorem infoUp:(prog.info? 71).map (fun i=>(i.zero,i.size,i.bytes))=some (some (.agg #[U 0,I 0,U 0,U 0,V 0]),5,32):=X
def Lu (B:Nat) (v:Value) (us:List Up) (W:World):Prop:=W.ownsRow B 71 5 v us.length (us.flatMap ucl)/\(v= .slice none 0 0↔us=[])
section
variable {B:Nat} {v:Value} {us:List Up} {W W':World}
theorem Lu.nil (B:Nat) (W:World):Lu B (.slice none 0 0) [] W:=⟨⟨rfl,.inl ⟨rfl,rfl⟩⟩,sn⟩
theorem Lu.of_block (h:Lu B v us W) (hb:∀ b,v.ownBlock=some b->W'.heap[b]?=W.heap[b]?):Lu B v us W':=by
 obtain ⟨⟨h1,h2⟩,h3⟩:=h;refine ⟨⟨h1,?_⟩,h3⟩;rcases h2 with h2|⟨g,cap,cur,rfl,h4,h5,h6⟩
 ·exact .inl h2
 ·exact .inr ⟨g,cap,cur,rfl,h4,(hb g rfl).trans h5,h6⟩
theorem Lu.lt (h:Lu B v us W) {b:Nat} (hb:v.ownBlock=some b):b<W.heap.size/\B<=b:=by
 rcases h.1.2 with ⟨rfl,_⟩|⟨g,cap,cur,rfl,h4,h5,_⟩
 ·cases hb
 ·cases hb
  exact ⟨(Array.getElem?_eq_some_iff.1 h5).1,h4⟩
theorem Lu.held (h:Lu B v us W) (hb:Below W.heap.size W W'):Lu B v us W':=h.of_block fun b e=>hb.block b (h.lt e).1
theorem Lu.turn {L:List Nat} (h:Lu B v us W) (t:Turn L W W') (hL:∀ b,v.ownBlock=some b->b∉L):Lu B v us W':=h.of_block fun b e=>t.block b (h.lt e).1 (hL b e)
theorem Lu.form (h:Lu B v us W):∃ p cap,v= .slice p us.length cap/\us.length<=cap:=by
 rcases h.1.2 with ⟨rfl,h0⟩|⟨g,cap,cur,rfl,_,_,h6,_⟩
 ·exact ⟨none,0,by rw [h0],G⟩
 ·exact ⟨_,cap,rfl,h6⟩
theorem run_us (h:Lu B v us W) (hB:B<=W.heap.size) {ad:Addr} {m c:Nat} {news:List Up} (hm:news.length=m) (hnews:∀ j u,(news.flatMap ucl)[j]?=some u->W.cell? (ad.add j)=some u) (h0:0<m) (hbig:us.length+m<=1000000000) (ty:TypeId):
  ∃ g' cap' W',(Builtin.append_ #[48,48] ty #[v,.slice (some ad) m c]).run prog W= .ok (Lt g' (us.length+m) cap') W'/\Lu B (Lt g' (us.length+m) cap') (us++news) W'/\W.grownBy W' v.ownBlock/\(v.ownBlock=some g'\/g'=W.heap.size):=by
 obtain ⟨i0,hi,hz0,hz1,hz2⟩:=info_parts infoUp;obtain ⟨v',W',hr,hown,hgr,hnil,hat⟩:=run_append_own_at (P:=prog) W B 48 ty 71 i0 _ 5 32 X hi hz0 hz1 hz2 rfl (by decide) v us.length (us.flatMap ucl) h.1 ad m c (news.flatMap ucl) (by rw [bm9,hm]) hnews (cy7 _)
  (by unfold maxLen; omega) G hB
 have hne:¬ v'= .slice none 0 0:=fun e=>by have:=(hnil.1 e).2; omega
 rcases hown.2 with ⟨rfl,_⟩|⟨g',cap',cur,rfl,h4,h5,h6,h7,h8,h9⟩
 ·exact absurd rfl hne
 ·refine ⟨g',cap',W',hr,⟨⟨by rw [List.length_append,hm,List.flatMap_append]; exact hown.1,.inr ⟨g',cap',cur,by rw [List.length_append,hm],h4,h5,by rw [List.length_append,hm]; exact h6,h7,h8,by rw [List.length_append,hm,List.flatMap_append]; exact h9⟩⟩,?_⟩,hgr,?_⟩
  ·constructor
   ·intro e; cases e
   ·intro e
    have:(us++news).length=0:=by rw [e]; rfl
    rw [List.length_append] at this; omega
  ·rcases hat with h|h
   ·exact .inl (h.symm.trans rfl)
   ·exact .inr (by simpa [Value.ownBlock] using h)
end
theorem cq9 {x:List Nat} {m id:Nat} (h0:0<x.length) (h:pb x=(m,false)):walk id x=none:=by
 match x,h0 with
 |k::r,_=>
  unfold pb at h;simp only [List.getD_cons_zero] at h;rw [walk.eq_def];simp only;by_cases hk:k=0
  ·rw [if_pos hk] at h; cases h
  ·rw [if_neg hk] at h ⊢
   match r with
   |[]=>rfl
   |n::r=>
    simp only [List.length_cons,List.getD_cons_succ,List.getD_cons_zero] at h;rw [if_neg G] at h;have h2:=(Prod.mk.inj h).2;rw [decide_eq_false_iff_not] at h2;simp only;rw [if_pos G]
theorem cf6 {x:List Nat} {m:Nat} (h0:0<x.length) (h:pb x=(m,true)):1<=m/\m<=x.length/\(x.getD 0 0≠0->2<=m/\m=2+x.getD 1 0):=by
 unfold pb at h;split at h
 ·cases h
  exact ⟨by omega,G,fun e=>absurd (by assumption) e⟩
 ·split at h
  ·cases h
  ·have h1:=(Prod.mk.inj h).1
   have h2:=(Prod.mk.inj h).2;rw [decide_eq_true_eq] at h2;exact ⟨by omega,G,fun _=>⟨by omega,h1.symm⟩⟩
def Tm.named (k:Nat) (body:List Nat) (id:Nat):Nat:=if k=2/\body.length=4 then Tm.val body else id
def Tm.says (k:Nat) (body:List Nat) (id:Nat):List Up:=if k=3 then (told body id).toList else []
theorem cy4 {x:List Nat} {m id:Nat} (h0:0<x.length) (h:pb x=(m,true)):
  walk id x=(walk (named (x.getD 0 0) ((x.take m).drop 2) id) (x.drop m)).map (says (x.getD 0 0) ((x.take m).drop 2) id++·):=by
 match x,h0 with
 |k::r,_=>
  obtain ⟨h1,h2,h3⟩:=cf6 sn h;simp only [List.getD_cons_zero,List.length_cons] at h1 h2 h3 ⊢;by_cases hk:k=0
  ·subst hk
   have hm:m=1:=by unfold pb at h; simp at h; exact h.symm
   subst hm;rw [cb6];simp only [List.drop_succ_cons,List.drop_zero,named,says];rw [if_neg G,if_neg G]
   cases walk id r<;>rfl
  ·obtain ⟨h4,h5⟩:=h3 hk
   match r with
   |[]=>simp at h2; omega
   |n::r=>
    simp only [List.getD_cons_succ,List.getD_cons_zero,List.length_cons] at h5 h2;subst h5;have e1:((k::n::r).take (2+n)).drop 2=r.take n:=by rw [Nat.add_comm]; rfl
    have e2:(k::n::r).drop (2+n)=r.drop n:=by rw [Nat.add_comm]; rfl
    rw [e1,e2];have hl:(r.take n).length=n:=by rw [List.length_take]; omega
    have:=at0 id k n (r.take n) (r.drop n) hk hl;rw [List.take_append_drop] at this;rw [this];unfold named says;rw [hl];by_cases k3:k=3
    ·rw [if_pos k3,if_pos k3,if_neg G]
    ·rw [if_neg k3,if_neg k3]
end Go.Proofs.YtafkfnodcemefaaGreat.T
set_option maxRecDepth 20000
namespace Go.Proofs.YtafkfnodcemefaaGreat.T
open _root_.Go.Proofs.Tryz (prog)
open Go.RowKit Tm
theorem ai0 (B:List Nat) (i x:Nat):(cls B).setIfInBounds i (cell x)=cls (B.set i x):=by
 apply Array.ext_getElem?;intro j;simp only [cls,Array.getElem?_setIfInBounds,List.size_toArray,List.length_map,List.getElem?_toArray,List.getElem?_map,List.getElem?_set];by_cases h:i=j
 ·subst h
  by_cases h2:i<B.length<;>simp [h2]
 ·simp [h]
def set4 (B:List Nat) (o v:Nat):List Nat:=(((B.set o (v / 16777216 % 256)).set (o+1) (v / 65536 % 256)).set (o+2) (v / 256 % 256)).set (o+3) (v % 256)
def set2 (B:List Nat) (o v:Nat):List Nat:=(B.set o (v / 256 % 256)).set (o+1) (v % 256)
theorem bk0 (B:List Nat) (o v:Nat):(set4 B o v).length=B.length:=by simp [set4]
theorem bk3 (B:List Nat) (o v:Nat):(set2 B o v).length=B.length:=by simp [set2]
theorem bq7 {t:TypeId} {g off cap v:Nat} (hv:v<4294967296) {B:List Nat} {w:World} (h:Blk t w g (cls B)) (hs:off+4<=B.length):
  Q 57 #[Mt g off 4 cap,U v] w fun e w'=>e= .returned (.tuple #[])/\Blk t w' g (cls (set4 B off v))/\Turn [g] w w':=by
 have fin:∀ w':World,w'=(((w.setCell (Y g off) (cell (v / 16777216 % 256))).setCell (Y g (off+1)) (cell (v / 65536 % 256))).setCell (Y g (off+2)) (cell (v / 256 % 256))).setCell (Y g (off+3)) (cell (v % 256))->
   Blk t w' g (cls (set4 B off v))/\Turn [g] w w':=fun w' e=>by
  subst e;refine ⟨?_,(((Turn.setCell w sn _).trans (Turn.setCell _ sn _)).trans (Turn.setCell _ sn _)).trans (Turn.setCell _ sn _)⟩;unfold set4;rw [<- ai0,<- ai0,<- ai0,<- ai0];exact (((h.store _ _).store _ _).store _ _).store _ _
 have C:∀ k,k<B.length->w.cell? (Y g k)=some (cell (B.getD k 0)):=fun k hk=>(h.at_ k).trans (ao3 B k hk)
 have c0:=C off G;have c1:=C (off+1) G;have c2:=C (off+2) G;have c3:=C (off+3) G;have f0:=h.free off;have f1:=h.free (off+1);have f2:=h.free (off+2);have f3:=h.free (off+3);have F:=Z fin;clear h C fin hs;generalize cell (B.getD off 0)=v0 at*;generalize cell (B.getD (off+1) 0)=v1 at*;generalize cell (B.getD (off+2) 0)=v2 at*;generalize cell (B.getD (off+3) 0)=v3 at*;go_enter Tryz.func57,Tryz.ntmps57;go_wp2;refine wp_loop_rounds 5 ?_
 iterate 5
  rw [rounds_succ];go_wp2
 go_end0;refine ⟨rfl,F.out _ ?_⟩;unfold cell;rw [show ((v / 16777216 % 256:Nat):Int)=(v:Int) / 16777216 by omega,show ((v / 65536 % 256:Nat):Int)=(v:Int) / 65536 % 256 by omega,show ((v / 256 % 256:Nat):Int)=(v:Int) / 256 % 256 by omega,show ((v % 256:Nat):Int)=(v:Int) % 256 by omega]
theorem cq4 {t:TypeId} {g off cap v:Nat} (hv:v<65536) {B:List Nat} {w:World} (h:Blk t w g (cls B)) (hs:off+2<=B.length):
  Q 57 #[Mt g off 2 cap,U v] w fun e w'=>e= .returned (.tuple #[])/\Blk t w' g (cls (set2 B off v))/\Turn [g] w w':=by
 have fin:∀ w':World,w'=(w.setCell (Y g off) (cell (v / 256 % 256))).setCell (Y g (off+1)) (cell (v % 256))->
   Blk t w' g (cls (set2 B off v))/\Turn [g] w w':=fun w' e=>by
  subst e;refine ⟨?_,(Turn.setCell w sn _).trans (Turn.setCell _ sn _)⟩;unfold set2;rw [<- ai0,<- ai0];exact (h.store _ _).store _ _
 have C:∀ k,k<B.length->w.cell? (Y g k)=some (cell (B.getD k 0)):=fun k hk=>(h.at_ k).trans (ao3 B k hk)
 have c0:=C off G;have c1:=C (off+1) G;have f0:=h.free off;have f1:=h.free (off+1);have F:=Z fin;clear h C fin hs;generalize cell (B.getD off 0)=v0 at*;generalize cell (B.getD (off+1) 0)=v1 at*;go_enter Tryz.func57,Tryz.ntmps57;go_wp2;refine wp_loop_rounds 3 ?_
 iterate 3
  rw [rounds_succ];go_wp2
 go_end0;refine ⟨rfl,F.out _ ?_⟩;unfold cell;try rw [show ((v / 256 % 256:Nat):Int)=(v:Int) / 256 by omega,show ((v % 256:Nat):Int)=(v:Int) % 256 by omega]
theorem bb8 (n:Nat) (hn:n<=5000) (w:World):(Instr.makeSlice 45 (I (n:Int)) (I (n:Int))).run prog w= .ok (Lt w.heap.size n n) (w.alloc (.cells (cls (List.replicate n 0)) 5)):=by
 obtain ⟨i,h1,h2,h3,h4⟩:=info_parts ah2;have h:=run_make (P:=prog) w 45 5 i _ X h1 h2 .i64 .i64 (n:Int) (n:Int) G G (by rw [h4]; omega) G;rw [h];simp only [Int.toNat_natCast,h3,Nat.mul_one];congr 3;apply Array.ext
 ·simp [madeCells,cls]
 ·intro k h5 h6
  simp [madeCells,cls,cell,Value.cells,Nat.mod_one]
theorem cl8 {w:World} {g ga L:Nat} {B:List Nat} {a:Nat} (hg:Blk 5 w g (cls B)) (hB:B.length=L) (h7:7<=L) (h11:L<=11) (ha:Blk 143 w ga (cls (four a))) {A':Option Addr} (hA:A'=if L=7 then some ⟨g,0,none⟩ else (some (⟨g,0,none⟩:Addr)).map (·.add 7)) {m c:Nat} (hm:m=L - 7) (ty:TypeId):
  ∃ w',(Builtin.copy_ #[45,45] ty #[.slice A' m c,Lt ga 4 4]).run prog w= .ok (I (m:Nat)) w'/\Blk 5 w' g (cls (B.take 7++(four a).take m))/\Turn [g] w w':=by
 by_cases h0:L=7
 ·have hm0:m=0:=G
  subst hm0;have e:B.take 7++(four a).take 0=B:=by rw [List.take_zero,List.append_nil,List.take_of_length_le G]
  rw [e];refine ⟨w,?_,hg,.refl _ _⟩;rw [run_copy_none (P:=prog) w 45 45 ty 5 A' (some ⟨ga,0,none⟩) 0 c 4 4 X az6 sn];rfl
 ·rw [if_neg h0] at hA
  simp only [Option.map_some,Addr.add_mid,Nat.zero_add] at hA;subst hA;have hm4:m<=4:=G
  have hl:(((four a).take m).map cell).length=m:=by simp [ah9]; omega
  have hrun:=run_copy_row (P:=prog) w 45 45 ty 5 g 7 m c ⟨ga,0,none⟩ 4 4 (cls B) 5 (((four a).take m).map cell) X az6 hg (by rw [hl]; exact (Nat.min_eq_right hm4).symm)
   (fun j v hv=>by
    rw [Addr.add_mid,Nat.zero_add,ha.at_ j];rw [List.getElem?_map,List.getElem?_take] at hv;split at hv
    ·simpa [cls] using hv
    ·cases hv) (by rw [hl]; simp [cls]; omega) (al6 _)
  refine ⟨_,?_,setRow_heap w g _ _ _ _ hg,⟨rfl,rfl,rfl,by simp [World.setRow],fun i _ hn=>setRow_other w g i _ (by simpa using hn)⟩⟩;rw [hrun,hl];congr 1;congr 1;rw [show cls (B.take 7++(four a).take m)=((B.take 7++(four a).take m).map cell).toArray from rfl];congr 1;have hz:(cls B).toList=B.map cell:=by simp [cls]
  rw [hz,List.map_append,List.map_take,List.map_take,List.drop_of_length_le (by simp; omega),List.append_nil]
end Go.Proofs.YtafkfnodcemefaaGreat.T
set_option maxRecDepth 20000
namespace Go.Proofs.YtafkfnodcemefaaGreat.T
open _root_.Go.Proofs.Tryz (prog)
open Go.RowKit Tm
theorem cn1 {a n id seq met k:Nat} (hk:k=nb n):((set2 (set4 ((List.replicate (7+k) 0).set 0 n) 1 seq) 5 met).take 7++(four a).take k)=body ⟨a,(n:Nat),id,seq,met⟩:=by
 subst hk;have e:List.replicate (7+nb n) 0=0::0::0::0::0::0::0::List.replicate (nb n) 0:=by rw [Nat.add_comm]; rfl
 rw [e];rfl
theorem cu7 (a:Nat):set4 [0,0,0,0] 0 a=four a:=rfl
theorem cv5 (a n id seq met:Nat) (ha:a<4294967296) (hn:n<=32) (hs:seq<4294967296) (hm:met<65536) (w:World):
  Q 151 #[.agg #[U a,I (n:Nat),U id,U seq,V met]] w fun e w'=>∃ g L,e= .returned (Lt g L L)/\L=7+nb n/\w.heap.size<=g/\Blk 5 w' g (cls (body ⟨a,(n:Nat),id,seq,met⟩))/\Bw w w':=by
 obtain ⟨hb,hX⟩:=nw w 71 #[U a,I (n:Nat),U id,U seq,V met];have hsz:=aa1 w (.cells #[U a,I (n:Nat),U id,U seq,V met] 71);have hnb:=bx7 hn;go_enter Tryz.func151,Tryz.ntmps151;go_wp2_with fail;generalize w.alloc _=W at*;refine (ai2 n G _).mono ?_;rintro e w' ⟨rfl,rfl⟩;obtain ⟨L,hL⟩:=eX (7+nb n);rw [<- hL];have mk:=bb8 L G;have X:=H4 hX hb hsz hL;have hL1:(0:Int)<(L:Int):=G
 have hL2:L<=1000:=G
 have hL3:7<=L:=G
 have hL4:L<=11:=G
 clear hX hb hsz hL hnb;go_upto_region 2 with (fail);obtain ⟨hX,hb,hsz,hL⟩:=X.out;have hG:=Blk.new W 5 (cls (List.replicate L 0));have hX2:=hX.more (.cells (cls (List.replicate L 0)) 5);have hb2:=next hb (aa0 W (.cells (cls (List.replicate L 0)) 5));have hsz2:=aa1 W (.cells (cls (List.replicate L 0)) 5);rw [hsz] at hG hsz2;rw [hsz];generalize hW2:W.alloc (.cells (cls (List.replicate L 0)) 5)=W2 at*;clear hW2 mk X hX hb hsz;have c1:W2.cell? ⟨w.heap.size,1,none⟩=some (I (n:Nat)):=hX2.at_ 1;have z0:W2.cell? ⟨w.heap.size+1,0,none⟩=some (cell 0):=by rw [hG.at_ 0,ao3 _ 0 (by simp; omega)]; congr 2; simp [show 0<L by omega]
 have f0:=hG.free 0;have q0:IntKind.u8.wrap (n:Int)=(n:Int):=by simp [IntKind.wrap,IntKind.bits,IntKind.signed]; omega
 have hle:w.heap.size<=w.heap.size+1:=G
 have hG3:Blk 5 (W2.setCell ⟨w.heap.size+1,0,none⟩ (Yy (n:Int))) (w.heap.size+1) (cls ((List.replicate L 0).set 0 n)):=by rw [<- ai0]; exact hG.store 0 _
 have hX3:=hX2.away (p:=⟨w.heap.size+1,0,none⟩) (by show w.heap.size≠w.heap.size+1; omega) (Yy (n:Int));have hb3:=hb2.setCell (p:=⟨w.heap.size+1,0,none⟩) hle (Yy (n:Int));have X:=H5 hX3 hb3 hG3 hL hsz2;clear hX2 hb2 hG hX3 hb3 hG3 hL hsz2;go_upto_region 3 with (fail);generalize W2.setCell ⟨w.heap.size+1,0,none⟩ (Yy (n:Int))=W3 at*;obtain ⟨hX3,hb3,hG3,hL,hsz2⟩:=X.out;clear X c1 z0 f0 q0 hsz2;have s1:∀ W:World,(Instr.slice 45 (Lt (w.heap.size+1) L L) (some (I 1)) (some (I 5)) none).run prog W= .ok (Mt (w.heap.size+1) 1 4 (L - 1)) W:=fun W=>ae5 (w.heap.size+1) 0 L L 1 5 G G W rfl rfl rfl rfl rfl
 have c3:W3.cell? ⟨w.heap.size,3,none⟩=some (U seq):=hX3.at_ 3;have P1:=bq7 (w:=W3.drew) (off:=1) (cap:=L - 1) hs hG3 (by simp; omega);have X:=H4 hX3 hb3 hG3 hL;clear hX3 hb3 hG3 hL;go_still_tail 5,kr;change wpList _ _ _ _ _ W3.drew;go_wp2_with fail;refine P1.mono ?_;rintro e w3 ⟨rfl,hG4,hT4⟩;clear P1 s1 c3;obtain ⟨hX3,hb3,hG3,hL⟩:=X.out;have hX4:=hX3.drew.turn hT4 sn;have hb4:=hb3.drew.trans (hT4.below (B:=w.heap.size) sn hb3.size);clear X hX3 hb3 hG3 hT4;generalize hB4:set4 ((List.replicate L 0).set 0 n) 1 seq=B4 at*;have hB4l:B4.length=L:=by rw [<- hB4,bk0]; simp
 have s2:∀ W:World,(Instr.slice 45 (Lt (w.heap.size+1) L L) (some (I 5)) (some (I 7)) none).run prog W= .ok (Mt (w.heap.size+1) 5 2 (L - 5)) W:=fun W=>ae5 (w.heap.size+1) 0 L L 5 7 G G W rfl rfl rfl rfl rfl
 have c4:w3.cell? ⟨w.heap.size,4,none⟩=some (V met):=hX4.at_ 4;have P2:=cq4 (w:=w3.drew) (off:=5) (cap:=L - 5) hm hG4 G;have q2:IntKind.u32.wrap (met:Int)=met:=by simp [IntKind.wrap,IntKind.bits,IntKind.signed]; omega
 have X:=H5 hX4 hb4 hL hB4 hB4l;clear hX4 hb4 hL hB4 hB4l hG4;go_upto_region 4 with (fail);go_still_tail 6,kr;change wpList _ _ _ _ _ w3.drew;go_wp2_with fail;refine P2.mono ?_;rintro e w4 ⟨rfl,hG5,hT5⟩;clear P2 s2 c4 q2;obtain ⟨hX4,hb4,hL,hB4,hB4l⟩:=X.out;have hX5:=hX4.drew.turn hT5 sn;have hb5:=hb4.drew.trans (hT5.below (B:=w.heap.size) sn hb4.size);clear X hX4 hb4 hT5;generalize hB5:set2 B4 5 met=B5 at*;have hB5l:B5.length=L:=by rw [<- hB5,bk3]; exact hB4l
 subst hB4;have X:=H6 hX5 hb5 hL hB5 hB5l hG5;clear hX5 hb5 hL hB5 hB5l hG5;go_upto_region 6 with (fail);obtain ⟨hX5,hb5,hL,hB5,hB5l,hG5⟩:=X.out;have hN6:=Blk.new w4 143 (cls [0,0,0,0]);have hsz:=hX5.lt;have hX6:=hX5.more (.cells (cls [0,0,0,0]) 143);have hG6:=hG5.more (.cells (cls [0,0,0,0]) 143);have hb6:=next hb5 (aa0 w4 (.cells (cls [0,0,0,0]) 143));have hne:w4.heap.size≠w.heap.size:=G
 have hne1:w4.heap.size≠w.heap.size+1:=by have:=hG5.lt; omega
 change Code.wp _ _ _ _ (w4.alloc (.cells (cls [0,0,0,0]) 143));generalize w4.alloc _=W6 at*;have hle6:w.heap.size<=w4.heap.size:=G
 clear X hX5 hb5 hG5 hsz;generalize w4.heap.size=ga at*;have c0:W6.cell? ⟨w.heap.size,0,none⟩=some (U a):=hX6.at_ 0;have P3:=bq7 (w:=W6.drew) (off:=0) (cap:=4) ha hN6 sn;rw [cu7] at P3;have X:=H6 hX6 hb6 hL hB5 hB5l hG6;clear hX6 hb6 hL hB5 hB5l hG6;go_still_tail 4,kr;change wpList _ _ _ _ _ W6.drew;go_wp2_with fail;refine P3.mono ?_;rintro e w7 ⟨rfl,hN7,hT7⟩;clear P3 c0 hN6;obtain ⟨hX6,hb6,hL,hB5,hB5l,hG6⟩:=X.out;have hX7:=hX6.drew.turn hT7 (by simp; omega);have hG7:=hG6.drew.turn hT7 (by simp; omega);have hb7:=hb6.drew.trans (hT7.below (B:=w.heap.size) (by simp; omega) hb6.size);clear X hX6 hb6 hG6 hT7;obtain ⟨A',hA'⟩:∃ A':Option Addr,A'=if L=7 then some ⟨w.heap.size+1,0,none⟩ else (some (⟨w.heap.size+1,0,none⟩:Addr)).map (·.add 7):=⟨_,rfl⟩
 obtain ⟨m,hm7⟩:=eX (L - 7);have s7:∀ W:World,(Instr.slice 45 (Lt (w.heap.size+1) L L) (some (I 7)) none none).run prog W= .ok (.slice A' m m) W:=fun W=>ad7 _ L L 7 G G W (z:=7) rfl hA' hm7 hm7
 obtain ⟨w8,hrun,hG8,hT8⟩:=cl8 (w:=w7.drew) hG7.drew hB5l hL3 hL4 hN7.drew hA' (c:=m) hm7 3;have hb8:=hb7.drew.trans (hT8.below (B:=w.heap.size) sn hb7.size);rw [hm7] at hG8;have hmk:L - 7=nb n:=G
 rw [hmk,<- hB5,hL,cn1 (id:=id) rfl] at hG8;have X:=H3 hG8 hb8 hL;clear hX7 hG7 hb7 hN7 hL hB5 hB5l hG8 hT8 hb8 hA' hmk hm7;go_upto_region 7 with (fail);go_still_tail 3,kr;change wpList _ _ _ _ _ w7.drew;go_wp2_with fail;go_ret;obtain ⟨hG8,hb8,hL⟩:=X.out;exact ⟨w.heap.size+1,L,rfl,hL,hle,hG8,hb8⟩
end Go.Proofs.YtafkfnodcemefaaGreat.T
set_option maxRecDepth 20000
namespace Go.Proofs.YtafkfnodcemefaaGreat.T
open _root_.Go.Proofs.Tryz (prog)
open Go.RowKit Tm
def Lb (B:Nat) (v:Value) (bs:List Nat) (W:World):Prop:=W.ownsRow B 5 1 v bs.length (bs.map cell)
section
variable {B:Nat} {v:Value} {bs:List Nat} {W W':World}
theorem Lb.nil (B:Nat) (W:World):Lb B (.slice none 0 0) [] W:=⟨rfl,.inl ⟨rfl,rfl⟩⟩
theorem Lb.of_block (h:Lb B v bs W) (hb:∀ b,v.ownBlock=some b->W'.heap[b]?=W.heap[b]?):Lb B v bs W':=by
 obtain ⟨h1,h2⟩:=h;refine ⟨h1,?_⟩;rcases h2 with h2|⟨g,cap,cur,rfl,h4,h5,h6⟩
 ·exact .inl h2
 ·exact .inr ⟨g,cap,cur,rfl,h4,(hb g rfl).trans h5,h6⟩
theorem Lb.lt (h:Lb B v bs W) {b:Nat} (hb:v.ownBlock=some b):b<W.heap.size/\B<=b:=by
 rcases h.2 with ⟨rfl,_⟩|⟨g,cap,cur,rfl,h4,h5,_⟩
 ·cases hb
 ·cases hb
  exact ⟨(Array.getElem?_eq_some_iff.1 h5).1,h4⟩
theorem Lb.held (h:Lb B v bs W) (hb:Below W.heap.size W W'):Lb B v bs W':=h.of_block fun b e=>hb.block b (h.lt e).1
theorem Lb.form (h:Lb B v bs W):∃ p cap,v= .slice p bs.length cap/\bs.length<=cap:=by
 rcases h.2 with ⟨rfl,h0⟩|⟨g,cap,cur,rfl,_,_,h6,_⟩
 ·exact ⟨none,0,by rw [h0],G⟩
 ·exact ⟨_,cap,rfl,h6⟩
theorem Lb.of_ob {g cap:Nat} (h:Ob W g cap bs) (hB:B<=g):Lb B (Lt g bs.length cap) bs W:=by
 obtain ⟨cur,h1,h2,h3,h4,h5⟩:=h;exact ⟨by simp,.inr ⟨g,cap,cur,rfl,hB,h1,h3,h4,G,by rw [Nat.mul_one]; exact h5⟩⟩
theorem cw8 (h:Lb B v bs W) (hB:B<=W.heap.size) {A:Option Addr} {m:Nat} {news:List Nat} (hx:BytesAt W A m news) (h0:0<m) (hm:bs.length+m<=5000) (c:Nat) (ty:TypeId):
  ∃ g' cap' W',(Builtin.append_ #[45,45] ty #[v,.slice A m c]).run prog W= .ok (Lt g' (bs.length+m) cap') W'/\Ob W' g' cap' (bs++news)/\W.grownBy W' v.ownBlock/\B<=g'/\(v.ownBlock=some g'\/g'=W.heap.size):=by
 obtain ⟨i0,hi,hz0,hz1,hz2⟩:=info_parts ah2;obtain ⟨ad,rfl⟩:∃ ad,A=some ad:=by
  obtain ⟨_,_,_,hc⟩:=hx;obtain ⟨ad',e,_⟩:=hc 0 h0;exact ⟨_,e⟩
 obtain ⟨v',u',hr,hown,hgr,hnil,hat⟩:=run_append_own_at (P:=prog) W B 45 ty 5 i0 (Yy 0) 1 1 X hi hz0 hz1 hz2 rfl (by decide) v _ _ h ad m c (news.map cell) (by simp [hx.1]) (fun j v hv=>by
   obtain ⟨hl,-,-,hc⟩:=hx;have hj:j<m:=by
    have:=(List.getElem?_eq_some_iff.1 hv).1;simp at this; omega
   obtain ⟨ad',e,h'⟩:=hc j hj
   cases e;rw [h',<- hv];have hj':j<news.length:=G
   simp [hj',cell]) (al6 _) (aa5 hm) G hB
 rcases hown.2 with ⟨rfl,h1⟩|⟨g',cap',cur,rfl,h4,hg,h1,h2,h3,h5⟩
 ·have:=(hnil.1 rfl).2
  omega
 ·refine ⟨g',cap',u',hr,⟨cur,hg,G,by simp [hx.1]; omega,h2,?_⟩,hgr,h4,?_⟩
  ·rw [List.length_append,hx.1,List.map_append,<- h5,Nat.mul_one]
  ·rcases hat with h|h
   ·exact .inl (h.symm.trans rfl)
   ·exact .inr (by simpa [Value.ownBlock] using h)
end
theorem Ob.setCell {u:World} {g cap:Nat} {bs:List Nat} (h:Ob u g cap bs) (i:Nat) (x:Nat):Ob (u.setCell (Y g i) (cell x)) g cap (bs.set i x):=by
 obtain ⟨cur,h1,h2,h3,h4,h5⟩:=h;refine ⟨_,h1.store i (cell x),by simpa using h2,by simpa using h3,h4,?_⟩;rw [List.length_set,Array.toList_setIfInBounds,List.take_set,h5,List.map_set]
theorem db1 {u:World} {g cap:Nat} {bs:List Nat} (h:Ob u g cap bs) {off v:Nat} (hv:v<4294967296) (hs:off+4<=bs.length) (c:Nat):
  Q 57 #[Mt g off 4 c,U v] u fun e w'=>e= .returned (.tuple #[])/\Ob w' g cap (set4 bs off v)/\Turn [g] u w':=by
 obtain ⟨cur,h1,h2,h3,h4,h5⟩:=id h;refine (an5 g off c v hv cur u h1 G).mono ?_;rintro e w' ⟨rfl,rfl⟩;exact ⟨rfl,(((h.setCell _ _).setCell _ _).setCell _ _).setCell _ _,(((Turn.setCell u sn _).trans (Turn.setCell _ sn _)).trans (Turn.setCell _ sn _)).trans (Turn.setCell _ sn _)⟩
theorem db2 {u:World} {g cap:Nat} {bs:List Nat} (h:Ob u g cap bs) {off v:Nat} (hv:v<65536) (hs:off+2<=bs.length) (c:Nat):
  Q 57 #[Mt g off 2 c,U v] u fun e w'=>e= .returned (.tuple #[])/\Ob w' g cap (set2 bs off v)/\Turn [g] u w':=by
 obtain ⟨cur,h1,h2,h3,h4,h5⟩:=id h;refine (au7 g off c v hv cur u h1 G).mono ?_;rintro e w' ⟨rfl,rfl⟩;exact ⟨rfl,(h.setCell _ _).setCell _ _,(Turn.setCell u sn _).trans (Turn.setCell _ sn _)⟩
theorem au8 {u:Up} (hr:right u=true) (hf:u.Fits) {id:Nat} (hid:id<4294967296) (w:World):
  Q 118 #[.agg (ucs u.a u.len u.id u.seq u.met),U id] w fun e w'=>∃ g cap L,e= .returned (Lt g L cap)/\L=(parts u id).length/\w.heap.size<=g/\Ob w' g cap (parts u id)/\Bw w w':=by
 obtain ⟨n,hn⟩:∃ n:Nat,u.len=(n:Int):=⟨u.len.toNat,by have:=Tm.right_len hr; omega⟩;have hn32:n<=32:=by have:=Tm.right_len hr; omega
 obtain ⟨a,len,uid,seq,met⟩:=u;simp only at hn;subst hn;obtain ⟨ha,-,-,hu,hs,hm⟩:=hf;simp only at ha hu hs hm;simp only;unfold ucs;obtain ⟨hb,hX⟩:=nw w 71 #[U a,I (n:Nat),U uid,U seq,V met];have hsz:=aa1 w (.cells #[U a,I (n:Nat),U uid,U seq,V met] 71);have c1:(w.alloc (.cells #[U a,I (n:Nat),U uid,U seq,V met] 71)).cell? (Aa w.heap.size 2)=some (U uid):=hX.at_ 2;have X:=H3 hX hb hsz;clear hX hb hsz;have hpa:parts ⟨a,(n:Nat),uid,seq,met⟩ id=(if uid=id then [] else 2::4::four uid)++3::(7+nb n)::body ⟨a,(n:Nat),uid,seq,met⟩:=rfl;obtain ⟨PP,hPP⟩:=eX (parts ⟨a,(n:Nat),uid,seq,met⟩ id);rw [<- hPP];rw [<- hPP] at hpa;have PH:=Zq hpa;clear hPP hpa;go_enter Tryz.func118,Tryz.ntmps118;go_upto_if 10 with (fail);generalize w.alloc _=W1 at*;go_cut [5] from 7 (fun v u=>Lb w.heap.size v (if uid=id then [] else 2::4::four uid) u/\Blk 71 u w.heap.size #[U a,I (n:Nat),U uid,U seq,V met]/\Bw w u)
 case first=>
  cases he:((uid:Int) !=(id:Int))
  ·have e:uid=id:=by
    have h2:(uid:Int)=id:=by simpa using he
    omega
   go_wp2_with fail;go_meet
   case rel=>
    obtain ⟨hX,hb,-⟩:=X.out;rw [if_pos e];exact ⟨Lb.nil _ _,hX,hb⟩
  ·have e:¬ uid=id:=fun e=>by subst e; simp at he
   clear he;obtain ⟨hX,hb,hsz⟩:=X.out;obtain ⟨o,ho⟩:=eX (Obj.cells #[Yy 2,Yy 4,Yy 0,Yy 0,Yy 0,Yy 0] 5);have hN:Blk 5 (W1.alloc o) W1.heap.size (cls [2,4,0,0,0,0]):=by rw [ho]; exact Blk.new W1 _ _
   have hX2:=hX.more o;have hb2:=next hb (aa0 W1 o);have hle:=hb2.size;have hBy:=BytesAt.cls hN (by decide) (by decide);obtain ⟨g',cap',W3,hrun,hO3,hg3,hB3,hat⟩:=cw8 (B:=w.heap.size) (Lb.nil w.heap.size (W1.alloc o)) hle (c:=6) hBy sn sn 45;have hrun2:(Builtin.append_ #[45,45] 45 #[.slice none 0 0,Lt W1.heap.size 6 6]).run prog (W1.alloc (.cells #[Yy 2,Yy 4,Yy 0,Yy 0,Yy 0,Yy 0] 5))= .ok (Lt g' 6 cap') W3:=by rw [<- ho]; exact hrun
   have hO3':Ob W3 g' cap' [2,4,0,0,0,0]:=hO3;obtain ⟨A',hA'⟩:=eX (some (Aa g' 2));obtain ⟨c',hc'⟩:=eX (cap' - 2);have hcap':6<=cap':=by obtain ⟨_,_,_,h,_⟩:=hO3'; simpa using h
   have s2:∀ W:World,(Instr.slice 45 (Lt g' 6 cap') (some (I 2)) none none).run prog W= .ok (Mt g' 2 4 c') W:=fun W=>ad7 _ 6 cap' 2 G hcap' W (z:=2) rfl (by rw [if_neg G]; rfl) rfl hc'
   have hX3:Blk 71 W3 w.heap.size #[U a,I (n:Nat),U uid,U seq,V met]:=(hg3.block _ hX2.lt (by simp [Value.ownBlock])).trans hX2;have hb3:=hb2.grown hg3 hle (fun kk e=>by cases e);have hne:g'≠w.heap.size:=by
    rcases hat with h|h
    ·cases h
    ·have:=hX2.lt
     omega
   have c3:W3.cell? (Aa w.heap.size (1+1))=some (U uid):=hX3.at_ 2;have P:=db1 (u:=W3.drew) hO3'.drew (off:=2) hu sn c';have Y:=H4 hX3 hb3 hne hB3;clear hN hX2 hb2 hle hBy hrun hO3 hO3' hg3 hat hA' A' hX3 hb3 hne hc' hcap' hX hb hsz;go_wp2_with (first|(at_builtin; refine Lib.wpList_append_run _ rfl (.tmp 11) (.tmp 12) 45 45 rfl _ _ rfl rfl _ _ hrun2 ?_)|fail);go_still_tail 4,kr;change wpList _ _ _ _ _ W3.drew;go_wp2_with fail;refine P.mono ?_;rintro e w4 ⟨rfl,hO4,hT4⟩;go_wp2_with fail;go_meet
   case rel=>
    obtain ⟨hX3,hb3,hne,hB3⟩:=Y.out;rw [if_neg e];exact ⟨Lb.of_ob hO4 hB3,hX3.drew.turn hT4 (by simp; omega),hb3.drew.trans (hT4.below (B:=w.heap.size) (by simp; omega) hb3.size)⟩
 case rest=>
  clear X c1;obtain ⟨hL,hX,hb⟩:=hcut;have hbl:(body ⟨a,(n:Nat),uid,seq,met⟩).length=7+nb n:=ac1 hr;have hbt:=an0 hr;have hnb:=bx7 hn32;have hpa:=PH.out;clear PH;have hpl:(if uid=id then ([]:List Nat) else 2::4::four uid).length<=6:=by split<;>simp [ah9]
  generalize (if uid=id then ([]:List Nat) else 2::4::four uid)=pre at*;obtain ⟨p,cap,hv,hcap⟩:=hL.form;obtain ⟨q,hq⟩:=eX pre.length;rw [<- hq] at hv hpl hcap;subst hv;have c0:wc.cell? (Aa w.heap.size 0)=some (U a):=hX.at_ 0;have c1:wc.cell? (Aa w.heap.size 1)=some (I (n:Nat)):=hX.at_ 1;have c2:wc.cell? (Aa w.heap.size 2)=some (U uid):=hX.at_ 2;have c3:wc.cell? (Aa w.heap.size 3)=some (U seq):=hX.at_ 3;have c4:wc.cell? (Aa w.heap.size 4)=some (V met):=hX.at_ 4;have B:=cv5 a n uid seq met ha hn32 hs hm wc;generalize body ⟨a,(n:Nat),uid,seq,met⟩=bd at*;have PH:=Zq hpa;have Y:=H6 hL hb hbl hbt hq hcap;clear hpa hL hb hbl hbt hq hcap hX hr;go_wp2_with fail;refine B.mono ?_;rintro e w5 ⟨g5,L5,rfl,hL5,hg5,hG5,hb5⟩;clear B c0 c1 c2 c3 c4;obtain ⟨hL,hb,hbl,hbt,hq,hcap⟩:=Y.out;have hL2:=hL.held hb5;have hb2:=next hb hb5;have hlt:∀ b,(Value.slice p q cap).ownBlock=some b->b≠g5:=fun b e h=>by have:=(hL.lt e).1; omega
  clear Y hL hb hg5 hb5;rw [<- hL5] at hbl;have hL5a:L5<=11:=G
  have hL57:7<=L5:=G
  have q5:IntKind.u8.wrap (L5:Int)=L5:=by simp [IntKind.wrap,IntKind.bits,IntKind.signed]; omega
  obtain ⟨o,ho⟩:=eX (Obj.cells #[Yy 3,Yy (L5:Nat)] 5);have hN:Blk 5 (w5.alloc o) w5.heap.size (cls [3,L5]):=by rw [ho]; exact Blk.new w5 _ _
  have hL3:=hL2.held (aa0 w5 o);have hG3:=hG5.more o;have hb3:=next hb2 (aa0 w5 o);have hle:=hb3.size;have hBy:=BytesAt.cls hN (by intro c hc; simp at hc; omega) sn;obtain ⟨g6,cap6,W6,hrun,hO6,hg6,hB6,hat⟩:=cw8 hL3 hle (c:=2) hBy sn (by simp; omega) 45;have hrun2:(Builtin.append_ #[45,45] 45 #[.slice p q cap,Lt w5.heap.size 2 2]).run prog (w5.alloc (.cells #[Yy 3,Yy (L5:Nat)] 5))= .ok (Lt g6 (q+2) cap6) W6:=by rw [<- ho,hq]; rw [hq] at hrun; exact hrun
  have hG6:Blk 5 W6 g5 (cls bd):=(hg6.block _ hG3.lt (fun e=>hlt _ e.symm rfl)).trans hG3;have hb6:=hb3.grown hg6 hle (fun kk e=>(hL3.lt e).2);have hBd:BytesAt W6 (some (Aa g5 0)) L5 bd:=by rw [<- hbl]; exact BytesAt.cls hG6 hbt G
  obtain ⟨g7,cap7,W7,hrun3,hO7,hT7,hat7⟩:=run_app hO6 hBd (by simp; omega) L5 45;have hb7:=hb6.trans (hT7.below (B:=w.heap.size) (by simp; exact hB6) hb6.size);have hB7:w.heap.size<=g7:=by rcases hat7 with rfl|h; exact hB6; exact Nat.le_trans hb6.size h
  obtain ⟨q7,hq7⟩:=eX (q+2+L5);have hrun4:(Builtin.append_ #[45,45] 45 #[Lt g6 (q+2) cap6,Lt g5 L5 L5]).run prog W6= .ok (Lt g7 q7 cap7) W7:=by
   rw [hq7,hq]; simpa using hrun3
  have hql:q7=(pre++3::L5::bd).length:=by rw [hq7,hq]; simp; omega
  have hO8:Ob W7 g7 cap7 (pre++3::L5::bd):=by simpa using hO7
  have Z:=H5 hL5 hql hB7 hO8 hb7;obtain ⟨q6,hq6⟩:=eX (q+2);rw [<- hq6] at hrun2 hrun4;clear hL5 hG5 hbl hbt hq hcap hL2 hb2 hlt hN hL3 hG3 hb3 hle hBy hrun hO6 hg6 hB6 hat hG6 hb6 hBd hrun3 hO7 hT7 hat7 hb7 hB7 hq7 hql hO8 hq6;go_wp2_with (first
   |(at_builtin; refine Lib.wpList_append_run _ rfl (.tmp 21) (.tmp 25) 45 45 rfl _ _ rfl rfl _ _ hrun2 ?_)
   |(at_builtin; refine Lib.wpList_append_run _ rfl (.tmp 27) (.tmp 28) 45 45 rfl _ _ rfl rfl _ _ hrun4 ?_)
   |fail)
  go_ret;obtain ⟨hL5,hql,hB7,hO8,hb7⟩:=Z.out;rw [PH.out,<- hL5];exact ⟨g7,cap7,q7,rfl,hql,hB7,hO8,hb7⟩
end Go.Proofs.YtafkfnodcemefaaGreat.T
set_option maxRecDepth 20000
namespace Go.Proofs.YtafkfnodcemefaaGreat.T
open _root_.Go.Proofs.Tryz (prog)
open Go.RowKit Tm
def rv (g cap:Nat->Nat) (rows:List (List Nat)) (i:Nat):Value:= Lt (g i) (rows.getD i []).length (cap i)
def rvs (g cap:Nat->Nat) (rows:List (List Nat)):List Value:=(List.range rows.length).map (rv g cap rows)
theorem ag5 (g cap:Nat->Nat) (rows:List (List Nat)):(rvs g cap rows).length=rows.length:=by simp [rvs]
theorem ap4 {g cap:Nat->Nat} {rows:List (List Nat)} {i:Nat} (hi:i<rows.length):(rvs g cap rows)[i]?=some (rv g cap rows i):=by simp [rvs,hi]
theorem infoSl:(prog.info? 45).map (fun i=>(i.zero,i.size,i.bytes))=some (some (.slice none 0 0),1,24):=X
structure Lag (B:Nat) (v:Value) (rows:List (List Nat)) (g cap:Nat->Nat) (W:World):Prop where
 own:W.ownsRow B 45 1 v rows.length (rvs g cap rows)
 ob:∀ i,i<rows.length->Ob W (g i) (cap i) (rows.getD i [])
 ge:∀ i,i<rows.length->B<=g i
 inj:∀ i j,i<rows.length->j<rows.length->g i=g j->i=j
 out:∀ i,i<rows.length->v.ownBlock≠some (g i)
def Las (B:Nat) (v:Value) (rows:List (List Nat)) (W:World):Prop:=∃ g cap,Lag B v rows g cap W
section
variable {B:Nat} {v:Value} {rows:List (List Nat)} {g cap:Nat->Nat} {W W':World}
theorem Las.nil (B:Nat) (W:World):Las B (.slice none 0 0) [] W:=⟨fun _=>0,fun _=>0,⟨rfl,.inl ⟨rfl,rfl⟩⟩,fun i h=>by simp at h,fun i h=>by simp at h,fun i j h=>by simp at h,fun i h=>by simp at h⟩
theorem Lag.of_block (h:Lag B v rows g cap W) (hb:∀ b,v.ownBlock=some b->W'.heap[b]?=W.heap[b]?) (hg:∀ i,i<rows.length->W'.heap[g i]?=W.heap[g i]?):Lag B v rows g cap W':=by
 refine ⟨⟨h.own.1,?_⟩,fun i hi=>(h.ob i hi).of_block (hg i hi),h.ge,h.inj,h.out⟩;rcases h.own.2 with h2|⟨gb,cp,cur,rfl,h4,h5,h6⟩
 ·exact .inl h2
 ·exact .inr ⟨gb,cp,cur,rfl,h4,(hb gb rfl).trans h5,h6⟩
theorem Lag.lt (h:Lag B v rows g cap W) {b:Nat} (hb:v.ownBlock=some b):b<W.heap.size/\B<=b:=by
 rcases h.own.2 with ⟨rfl,_⟩|⟨gb,cp,cur,rfl,h4,h5,_⟩
 ·cases hb
 ·cases hb
  exact ⟨(Array.getElem?_eq_some_iff.1 h5).1,h4⟩
theorem Lag.held (h:Lag B v rows g cap W) (hb:Below W.heap.size W W'):Lag B v rows g cap W':=h.of_block (fun b e=>hb.block b (h.lt e).1) (fun i hi=>hb.block _ (h.ob i hi).lt)
theorem Las.held (h:Las B v rows W) (hb:Below W.heap.size W W'):Las B v rows W':=by obtain ⟨g,cap,h⟩:=h; exact ⟨g,cap,h.held hb⟩
theorem Lag.form (h:Lag B v rows g cap W):∃ p cp,v= .slice p rows.length cp/\rows.length<=cp:=by
 rcases h.own.2 with ⟨rfl,h0⟩|⟨gb,cp,cur,rfl,_,_,h6,_⟩
 ·exact ⟨none,0,by rw [h0],G⟩
 ·exact ⟨_,cp,rfl,h6⟩
theorem Las.form (h:Las B v rows W):∃ p cp,v= .slice p rows.length cp/\rows.length<=cp:=by obtain ⟨g,cap,h⟩:=h; exact h.form
theorem Lag.block (h:Lag B v rows g cap W) (h0:0<rows.length):∃ gb cp cur,v= Lt gb rows.length cp/\B<=gb/\Blk 45 W gb cur/\rows.length<=cp/\cp<=maxLen/\cur.size=cp/\cur.toList.take rows.length=rvs g cap rows:=by
 rcases h.own.2 with ⟨rfl,h1⟩|⟨gb,cp,cur,rfl,h4,h5,h6,h7,h8,h9⟩
 ·omega
 ·exact ⟨gb,cp,cur,rfl,h4,h5,h6,h7,G,by rw [Nat.mul_one] at h9; exact h9⟩
theorem take_at {cur:Array Value} {l:List Value} {n i:Nat} (h:cur.toList.take n=l) (hi:i<n):cur[i]?=l[i]?:=by
 rw [<- h,List.getElem?_take,if_pos hi]; simp
theorem Las.push (h:Las B v rows W) (hb:Below W.heap.size W W') (hB:B<=W.heap.size) {ad:Addr} {gn cn c:Nat} {new:List Nat} (hc:W'.cell? ad=some (.slice (some (Y gn 0)) new.length cn)) (hO:Ob W' gn cn new) (hn:W.heap.size<=gn) (hl:rows.length<=1000000000) (ty:TypeId):
  ∃ g' cap' W2,(Builtin.append_ #[163,163] ty #[v,.slice (some ad) 1 c]).run prog W'= .ok (.slice (some (Y g' 0)) (rows.length+1) cap') W2/\Las B (.slice (some (Y g' 0)) (rows.length+1) cap') (rows++[new]) W2/\Below B W W2/\∀ x t C,Blk t W' x C->t≠45->Blk t W2 x C:=by
 obtain ⟨g,cap,h⟩:=h;obtain ⟨i0,hi,hz0,hz1,hz2⟩:=info_parts infoSl;have h':=h.held hb;have hB':B<=W'.heap.size:=Nat.le_trans hB hb.size;obtain ⟨v',W2,hr,hown,hgr,hnil,hat⟩:=run_append_own_at (P:=prog) W' B 163 ty 45 i0 _ 1 24 X hi hz0 hz1 hz2 rfl (by decide) v rows.length (rvs g cap rows) h'.own ad 1 c [.slice (some (Y gn 0)) new.length cn] rfl (fun j u hu=>by
   match j,hu with
   |0,hu=>
    rw [show ad.add 0=ad by cases ad; simp [Addr.add]; try (split<;>rfl),hc];simpa using hu
   |j+1,hu=>simp at hu) (by simp [Value.oneCell']) (by unfold maxLen; omega) G hB'
 have hne:¬ v'= .slice none 0 0:=fun e=>by have:=(hnil.1 e).2; omega
 have hbl:∀ k,v.ownBlock=some k->B<=k:=fun k e=>(h'.lt e).2
 have hlt:=hO.lt;have hf:∀ i,i<rows.length->g i≠gn:=fun i hi e=>by have:=(h.ob i hi).lt; omega
 have hfo:v.ownBlock≠some gn:=fun e=>by have:=(h.lt e).1; omega
 have ho:∀ b,b<W'.heap.size->v.ownBlock≠some b->v'.ownBlock≠some b:=fun b hb hv e=>by
  rcases hat with h1|h1
  ·rw [h1] at e; exact hv e
  ·rw [h1] at e; cases e; omega
 rcases hown.2 with ⟨rfl,_⟩|⟨g',cap',cur,rfl,h4,h5,h6,h7,h8,h9⟩
 ·exact absurd rfl hne
 ·have hgt:∀ (b x:Nat),(fun i=>if i=rows.length then x else g i) rows.length=x:=fun _ x=>by simp
  refine ⟨g',cap',W2,hr,⟨fun i=>if i=rows.length then gn else g i,fun i=>if i=rows.length then cn else cap i,?_,?_,?_,?_,?_⟩,(hb.mono hB).grown hgr hB' hbl,fun x t C hx ht=>(hgr.block x hx.lt (fun e=>by
   rcases h'.own.2 with ⟨rfl,_⟩|⟨gq,_,curq,rfl,_,hq,_⟩
   ·cases e
   ·cases e
    have e2:=hx.symm.trans hq
    cases e2;exact ht rfl)).trans hx⟩
  ·have e:rvs (fun i=>if i=rows.length then gn else g i) (fun i=>if i=rows.length then cn else cap i) (rows++[new])=rvs g cap rows++[.slice (some (Y gn 0)) new.length cn]:=by
    simp only [rvs,List.length_append,List.length_cons,List.length_nil,Nat.zero_add,List.range_succ,List.map_append,List.map_cons,List.map_nil];congr 1
    ·refine List.map_congr_left fun i hi=>?_
     have hi':i<rows.length:=by simpa using hi
     have:i≠rows.length:=G
     simp [rv,this,List.getD,List.getElem?_append_left hi']
    ·simp [rv,List.getD]
   rw [List.length_append,e];exact hown
  ·intro i hi
   rw [List.length_append] at hi;by_cases e:i=rows.length
   ·subst e
    simp only [if_true];rw [show (rows++[new]).getD rows.length []=new by simp [List.getD]];exact hO.of_block (hgr.block _ hlt (fun e=>hfo e.symm))
   ·have hi':i<rows.length:=by simp at hi; omega
    simp only [if_neg e];rw [show (rows++[new]).getD i []=rows.getD i [] by simp [List.getD,List.getElem?_append_left hi']];exact (h'.ob i hi').of_block (hgr.block _ (h'.ob i hi').lt (fun e=>h.out i hi' e.symm))
  ·intro i hi
   rw [List.length_append] at hi;split
   ·omega
   ·exact h.ge i (by simp at hi; omega)
  ·intro i j hi hj e
   rw [List.length_append] at hi hj;simp only [List.length_cons,List.length_nil] at hi hj e;split at e<;>split at e
   ·omega
   ·exact absurd e.symm (hf j G)
   ·exact absurd e (hf i G)
   ·exact h.inj i j G G e
  ·intro i hi
   rw [List.length_append] at hi;simp only [List.length_cons,List.length_nil] at hi;split
   ·exact ho _ hlt hfo
   ·exact ho _ (h'.ob i G).lt (h.out i G)
theorem Las.app {gb n cp:Nat} (h:Las B (Lt gb n cp) rows W) {i:Nat} (hi:i<rows.length) (hBW:B<=W.heap.size) {ad:Addr} {m:Nat} {news:List Nat} (hx:BytesAt W (some ad) m news) (hm:(rows.getD i []).length+m<=5000) (c:Nat) (ty:TypeId):
  ∃ gi ci g' cap' W1,W.cell? (Y gb i)=Xp gi (rows.getD i []).length ci/\
   (Builtin.append_ #[45,45] ty #[Lt gi (rows.getD i []).length ci,.slice (some ad) m c]).run prog W= .ok (Lt g' ((rows.getD i []).length+m) cap') W1/\
   W1.cell? (Y gb i)=Xp gi (rows.getD i []).length ci/\W1.frozen? (Y gb i)=false/\
   Las B (Lt gb n cp) (rows.set i (rows.getD i []++news)) (W1.setCell (Y gb i) (Lt g' ((rows.getD i []).length+m) cap'))/\
   Below B W (W1.setCell (Y gb i) (Lt g' ((rows.getD i []).length+m) cap'))/\
   ∀ x t C,Blk t W x C->t≠5->t≠45->Blk t (W1.setCell (Y gb i) (Lt g' ((rows.getD i []).length+m) cap')) x C:=by
 obtain ⟨g,cap,h⟩:=h;obtain ⟨gb',cp',cur,hv,hB,hblk,hle,hmx,hsz,htk⟩:=h.block G;simp only [Value.slice.injEq,Option.some.injEq,Addr.mk.injEq,and_true] at hv;obtain ⟨rfl,rfl,rfl⟩:=hv;have hci:W.cell? (Y gb i)=some (rv g cap rows i):=by rw [hblk.at_ i,take_at htk hi,ap4 hi]
 obtain ⟨g',cap',W1,hr,hO,hT,hat⟩:=run_app (h.ob i hi) hx hm c ty;have hgb:gb≠g i:=fun e=>h.out i hi (by rw [e]; rfl)
 have hblk1:Blk 45 W1 gb cur:=hblk.turn hT (by simpa using hgb);have hlt':g'<W1.heap.size:=hO.lt;have hg'B:B<=g':=by rcases hat with e|e; exact e ▸ h.ge i hi; omega
 have hg'gb:gb≠g':=by
  rcases hat with e|e
  ·rw [e]; exact hgb
  ·have:=hblk.lt; omega
 have hg'j:∀ j,j<rows.length->j≠i->g j≠g':=fun j hj hne=>by
  rcases hat with e|e
  ·rw [e]; exact fun e2=>hne (h.inj j i hj hi e2)
  ·have:=(h.ob j hj).lt; omega
 refine ⟨g i,cap i,g',cap',W1,hci,hr,by rw [hblk1.at_ i,take_at htk hi,ap4 hi]; rfl,hblk1.free i,⟨fun j=>if j=i then g' else g j,fun j=>if j=i then cap' else cap j,?_,?_,?_,?_,?_⟩,?_,fun x t C hx ht ht2=>?_⟩
 ·rw [List.length_set]
  refine ⟨by rw [ag5,List.length_set,Nat.mul_one],.inr ⟨gb,cp,_,rfl,hB,hblk1.store i _,hle,hmx,by simpa using hsz,?_⟩⟩;rw [Nat.mul_one,Array.toList_setIfInBounds,List.take_set,htk];refine List.ext_getElem? fun j=>?_
  by_cases hj:j<rows.length
  ·rw [ap4 (rows:=rows.set i _) (by simpa using hj),List.getElem?_set]
   by_cases e:i=j
   ·subst e
    rw [if_pos rfl,if_pos (by rw [ag5]; exact hi)];simp [rv,List.getD,hi,hx.1]
   ·rw [if_neg e,ap4 hj]
    have e':¬ j=i:=fun e2=>e e2.symm
    simp [rv,List.getD,e,e']
  ·rw [List.getElem?_eq_none (by simp [ag5]; omega),List.getElem?_eq_none (by simp [ag5]; omega)]
 ·intro j hj
  rw [List.length_set] at hj;by_cases e:j=i
  ·subst e
   simp only [if_true];rw [show (rows.set j (rows.getD j []++news)).getD j []=rows.getD j []++news by simp [List.getD,hj]];exact hO.of_block (Below.heap_setCell _ _ _ _ (fun e=>hg'gb e.symm))
  ·simp only [if_neg e]
   have e':¬ i=j:=fun e2=>e e2.symm
   rw [show (rows.set i (rows.getD i []++news)).getD j []=rows.getD j [] by simp [List.getD,e']];refine (h.ob j hj).of_block ?_;rw [Below.heap_setCell _ _ _ _ (fun e2=>h.out j hj (by rw [e2]; rfl))];exact hT.block _ (h.ob j hj).lt (by simp; exact fun e2=>e (h.inj j i hj hi e2))
 ·intro j hj
  split
  ·exact hg'B
  ·exact h.ge j (by simpa using hj)
 ·intro j k hj hk e
  rw [List.length_set] at hj hk;split at e<;>split at e
  ·omega
  ·exact absurd e.symm (hg'j k hk (by assumption))
  ·exact absurd e (hg'j j hj (by assumption))
  ·exact h.inj j k hj hk e
 ·intro j hj
  split
  ·simpa [Value.ownBlock] using hg'gb
  ·exact h.out j (by simpa using hj)
 ·refine Below.setCell ?_ (p:=⟨gb,i,none⟩) hB _
  exact hT.below (B:=B) (by simpa using h.ge i hi) hBW
 ·have n1:x≠g i:=fun e=>by
   obtain ⟨_,h1,_⟩:=h.ob i hi;subst e;have e2:=hx.symm.trans h1
   cases e2;exact ht rfl
  have n2:x≠gb:=fun e=>by
   subst e;have e2:=hx.symm.trans hblk
   cases e2;exact ht2 rfl
  exact (hx.turn hT (by simpa using n1)).away (p:=⟨gb,i,none⟩) n2 _
end
end Go.Proofs.YtafkfnodcemefaaGreat.T
set_option maxRecDepth 20000
namespace Go.Proofs.YtafkfnodcemefaaGreat.T
open _root_.Go.Proofs.Tryz (prog)
section
open Go.RowKit Tm
variable {B cap g id:Nat}{v:Value}{r us:List Up}{W w:World}{bs cur:List Nat}{u:Up}{rows:List (List Nat)}
structure Ul (w:World) (A:Option Addr) (n cap:Nat) (us:List Up):Prop where
 len:us.length=n
 max:n<=1000000000
 cap:n<=cap
 plain:0<n->∃ b off,A=some ⟨b,off,none⟩
 cells:∀ b off,A=some ⟨b,off,none⟩->∀ i (_:i<us.length),∀ j,j<5->w.cell? (Y b (off+(5*i+j)))=(us[i].cs)[j]?
 fits:∀ u∈us,u.Fits
theorem Ul.held {w w':World} {A:Option Addr} {n cap:Nat} {us:List Up} (h:Ul w A n cap us) (hb:Below w.heap.size w w'):Ul w' A n cap us:=by
 refine ⟨h.len,h.max,h.cap,h.plain,fun b off e i hi j hj=>?_,h.fits⟩;have h1:=h.cells b off e i hi j hj;have hj':j<(us[i].cs).size:=hj;rw [Array.getElem?_eq_getElem hj'] at h1 ⊢;exact Go.Proofs.YtafkfnodcemefaaGreat.held hb h1
theorem Ul.at_ {w:World} {b off n cap:Nat} {us:List Up} (h:Ul w (some (Y b off)) n cap us) {k:Nat} (hk:k<us.length) {a:Nat} {len:Int} {id seq met:Nat} (e:us[k]=⟨a,len,id,seq,met⟩):
  w.cell? (Y b (off+k*5))=some (U a)/\w.cell? (Y b (off+k*5+1))=some (I len)/\w.cell? (Y b (off+k*5+2))=some (U id)/\w.cell? (Y b (off+k*5+3))=some (U seq)/\w.cell? (Y b (off+k*5+4))=some (V met):=by
 have H:=h.cells b off rfl k hk;rw [e] at H;exact ⟨(by rw [show off+k*5=off+(5*k+0) by omega,H 0 G]; rfl),(by rw [show off+k*5+1=off+(5*k+1) by omega,H 1 G]; rfl),(by rw [show off+k*5+2=off+(5*k+2) by omega,H 2 G]; rfl),(by rw [show off+k*5+3=off+(5*k+3) by omega,H 3 G]; rfl),(by rw [show off+k*5+4=off+(5*k+4) by omega,H 4 G]; rfl)⟩
theorem Lu.ul (h:Lu B v us w) (hf:∀ u∈us,u.Fits) (hm:us.length<=1000000000):∃ A cap,v= .slice A us.length cap/\Ul w A us.length cap us:=by
 rcases h.1.2 with ⟨rfl,h0⟩|⟨g,cap,cur,rfl,h4,h5,h6,h7,h8,h9⟩
 ·rw [h0]
  exact ⟨none,0,rfl,h0,G,G,fun h=>by omega,fun _ _ e=>(by cases e),hf⟩
 ·refine ⟨some (Y g 0),cap,rfl,rfl,hm,h6,fun _=>⟨_,_,rfl⟩,fun b off e i hi j hj=>?_,hf⟩
  cases e;have h5':Blk 71 w g cur:=h5;rw [Nat.zero_add,h5'.at_];have e2:=flat_get (us:=us) hi hj;rw [<- h9,List.getElem?_take,if_pos G] at e2;rw [<- e2];simp
theorem bx2 (h:right u=false):pages cur id (u::r)=pages cur id r:=by rw [pages,if_pos h]
theorem ct5 (h:right u=true) (hc:cur.length+(parts u id).length+4<=1024):pages cur id (u::r)=pages (cur++parts u id) u.id r:=by
 rw [pages,if_neg (by rw [h]; decide),if_neg G]
theorem cf9 (h:right u=true) (hc:1024<cur.length+(parts u id).length+4):pages cur id (u::r)=cur::pages (parts u 0) u.id r:=by
 rw [pages,if_neg (by rw [h]; decide),if_pos hc]
def z4 (b:List Nat):List Nat:=0::0::0::0::b
def rowsOf (D:List (List Nat)) (cur:List Nat):List (List Nat):=if cur=[] then [] else (D++[cur]).map z4
structure EncS (w:World) (us:List Up) (i:Nat) (D:List (List Nat)) (cur:List Nat) (id:Nat) (v:Value) (W:World):Prop where
 le:i<=us.length
 idlt:id<4294967296
 las:Las w.heap.size v (rowsOf D cur) W
 below:Below w.heap.size w W
 eq:pages [] 0 us=D++pages cur id (us.drop i)
 nil:cur=[]->D=[]/\id=0
 room:cur.length+4<=1024
 few:(rowsOf D cur).length<=i
def EncR (w:World) (us:List Up) (v l d k:Value) (W:World):Prop:=
 ∃ (i:Nat) (D:List (List Nat)) (cur:List Nat) (id:Nat),k= I i/\l= I (((rowsOf D cur).length:Int) - 1)/\d= U id/\EncS w us i D cur id v W
structure EncT (w:World) (us:List Up) (i:Nat) (u:Up) (D:List (List Nat)) (cur:List Nat) (P:List Nat) (gp cp:Nat) (v:Value) (W:World):Prop where
 las:Las w.heap.size v ((D++[cur]).map z4) W
 below:Below w.heap.size w W
 eq:pages [] 0 us=D++pages (cur++P) u.id (us.drop (i+1))
 ob:Ob W gp cp P
 ne:P≠[]
 lt:∀ c∈P,c<256
 room:cur.length+P.length+4<=1024
 few:D.length<=i
theorem EncT.step {i:Nat} {D:List (List Nat)} {P:List Nat} {gp cp:Nat} (T:EncT w us i u D cur P gp cp v W) (hu:u.Fits) (hi:i<us.length) (L:Nat) (hL:L=P.length):
  ∃ gb N capv gi ci g' cap' W1 q,v= Lt gb N capv/\D.length<N/\q=cur.length+4/\W.cell? (Y gb D.length)=Xp gi q ci/\
   (Builtin.append_ #[45,45] 45 #[Lt gi q ci,Lt gp L cp]).run prog W= .ok (Lt g' (q+L) cap') W1/\
   W1.cell? (Y gb D.length)=Xp gi q ci/\W1.frozen? (Y gb D.length)=false/\
   EncR w us v (I (D.length:Nat)) (U u.id) (I ((i+1:Nat):Int)) (W1.setCell (Y gb D.length) (Lt g' (q+L) cap'))/\
   ∀ x t C,Blk t W x C->t≠5->t≠45->Blk t (W1.setCell (Y gb D.length) (Lt g' (q+L) cap')) x C:=by
 subst hL;obtain ⟨gb,capv,hv⟩:∃ gb capv,v= Lt gb ((D++[cur]).map z4).length capv:=by
  obtain ⟨g,cap,h⟩:=T.las;obtain ⟨gb,cp',_,hv,_⟩:=h.block sn;exact ⟨gb,cp',hv⟩
 have hlen:((D++[cur]).map z4).length=D.length+1:=sn;have hget:((D++[cur]).map z4).getD D.length []=z4 cur:=by simp [List.getD]
 have hrm:=T.room;have hl:=T.las;rw [hv] at hl;obtain ⟨gi,ci,g',cap',W1,h1,h2,h3,h4,h5,h6,h7⟩:=hl.app (i:=D.length) (by rw [hlen]; omega) T.below.size (T.ob.bytes T.lt G) (by rw [hget]; simp [z4]; omega) cp 45;rw [hget] at h1 h2 h3 h5 h6 h7;refine ⟨gb,_,capv,gi,ci,g',cap',W1,(z4 cur).length,hv,by rw [hlen]; omega,by simp [z4],h1,h2,h3,h4,?_,h7⟩;have hne:cur++P≠[]:=by simp [T.ne]
 have hrows:rowsOf D (cur++P)=((D++[cur]).map z4).set D.length (z4 cur++P):=by
  unfold rowsOf;rw [if_neg hne,List.map_append,List.map_append,List.set_append_right _ _ sn];simp [z4]
 have hrl:(rowsOf D (cur++P)).length=D.length+1:=by rw [hrows,List.length_set,hlen]
 refine ⟨i+1,D,cur++P,u.id,rfl,by rw [hrl]; congr 1; omega,rfl,⟨by omega,hu.id,?_,T.below.trans h6,T.eq,fun e=>absurd e hne,by simp; omega,by rw [hrl]; have:=T.few; omega⟩⟩;rw [hrows,hv];exact h5
theorem Las.row_at (h:Las B v rows W) {i:Nat} (hi:i<rows.length):
  ∃ gb cp gi ci,v= Lt gb rows.length cp/\W.cell? (Y gb i)=Xp gi (rows.getD i []).length ci:=by
 obtain ⟨g,cap,h⟩:=h;obtain ⟨gb,cp,cur,hv,hB,hblk,hle,hmx,hsz,htk⟩:=h.block G;exact ⟨gb,cp,g i,cap i,hv,by rw [hblk.at_ i,take_at htk hi,ap4 hi]; rfl⟩
theorem Las.fresh (h:Las B v rows W) (hB:B<=W.heap.size) (hl:rows.length<=1000000000):
  ∃ g' cap' W2,(Builtin.append_ #[163,163] 163 #[v,Lt (W.heap.size+1) 1 1]).run prog ((W.alloc (.cells #[Yy 0,Yy 0,Yy 0,Yy 0] 5)).alloc (.cells #[Lt W.heap.size 4 4] 45))= .ok (Lt g' (rows.length+1) cap') W2/\
   Las B (Lt g' (rows.length+1) cap') (rows++[z4 []]) W2/\Below B W W2/\∀ x t C,Blk t W x C->t≠45->Blk t W2 x C:=by
 have hZ:=Blk.new W 5 (cls [0,0,0,0]);have hb:=aa0 W (.cells (cls [0,0,0,0]) 5);have hs:=aa1 W (.cells (cls [0,0,0,0]) 5);have hN:=Blk.new (W.alloc (.cells (cls [0,0,0,0]) 5)) 45 #[Lt W.heap.size 4 4];have hb2:=aa0 (W.alloc (.cells (cls [0,0,0,0]) 5)) (.cells #[Lt W.heap.size 4 4] 45);have hZ2:=hZ.held hb2;rw [hs] at hN;obtain ⟨g',cap',W2,h1,h2,h3,h4⟩:=h.push (next hb hb2) hB (new:=z4 []) (ad:=⟨W.heap.size+1,0,none⟩) (c:=1) (hN.at_ 0) (Ob.of_blk (bs:=[0,0,0,0]) hZ2 sn) (Nat.le_refl _) hl 163;exact ⟨g',cap',W2,h1,h2,h3,fun x t C hx ht=>h4 x t C ((hx.held hb).held hb2) ht⟩
theorem Ob.cell {u:World} (h:Ob u g cap bs) {k:Nat} (hk:k<bs.length):u.cell? (Y g k)=some (Go.Proofs.YtafkfnodcemefaaGreat.T.cell (bs.getD k 0)):=by
 obtain ⟨cur,h1,h2,h3,h4,h5⟩:=h;rw [h1.at_ k];have e:(cur.toList.take bs.length)[k]?=some (Go.Proofs.YtafkfnodcemefaaGreat.T.cell (bs.getD k 0)):=by rw [h5]; simp [hk]
 rw [List.getElem?_take,if_pos hk] at e;simpa using e
theorem Ob.free {u:World} (h:Ob u g cap bs) (k:Nat):u.frozen? (Y g k)=false:=by
 obtain ⟨cur,h1,_⟩:=h;exact h1.free k
theorem Las.inplace (h:Las B v rows W) {i:Nat} (hi:i<rows.length):
  ∃ gb cp gi ci,v= Lt gb rows.length cp/\W.cell? (Y gb i)=Xp gi (rows.getD i []).length ci/\Ob W gi ci (rows.getD i [])/\B<=gi/\
   ∀ W' new,Turn [gi] W W'->Ob W' gi ci new->new.length=(rows.getD i []).length->Las B v (rows.set i new) W':=by
 obtain ⟨g,cap,h⟩:=h;obtain ⟨gb,cp,cur,hv,hB,hblk,hle,hmx,hsz,htk⟩:=h.block G;refine ⟨gb,cp,g i,cap i,hv,by rw [hblk.at_ i,take_at htk hi,ap4 hi]; rfl,h.ob i hi,h.ge i hi,fun W' new hT hO hl=>⟨g,cap,?_⟩⟩;have hgb:gb≠g i:=fun e=>h.out i hi (by rw [hv,e]; rfl)
 have hblk1:=hblk.turn hT (by simpa using hgb);have e:rvs g cap (rows.set i new)=rvs g cap rows:=by
  unfold rvs;rw [List.length_set];refine List.map_congr_left fun j hj=>?_
  have hj':j<rows.length:=by simpa using hj
  by_cases e:i=j
  ·subst e
   simp [rv,List.getD,hi] at hl ⊢;exact hl
  ·simp [rv,List.getD,e]
 refine ⟨?_,fun j hj=>?_,fun j hj=>h.ge j (by simpa using hj),fun j k hj hk=>h.inj j k (by simpa using hj) (by simpa using hk),fun j hj=>h.out j (by simpa using hj)⟩
 ·rw [e,List.length_set]
  refine ⟨by rw [ag5,Nat.mul_one],.inr ⟨gb,cp,cur,hv,hB,hblk1,hle,hmx,G,by rw [Nat.mul_one]; exact htk⟩⟩
 ·rw [List.length_set] at hj
  by_cases e:i=j
  ·subst e
   rw [show (rows.set i new).getD i []=new by simp [List.getD,hj]];exact hO
  ·rw [show (rows.set i new).getD j []=rows.getD j [] by simp [List.getD,e]]
   exact (h.ob j hj).of_block (hT.block _ (h.ob j hj).lt (by simp; exact fun e2=>e (h.inj i j hi hj e2.symm)))
def HeadR (w:World) (PG:List (List Nat)) (v k:Value) (W:World):Prop:=
 ∃ m:Nat,k= I m/\m<=PG.length/\Las w.heap.size v ((PG.take m).map page++(PG.drop m).map z4) W/\Bw w W
theorem cj3 {PG:List (List Nat)} {m:Nat} (hm:m<PG.length):
  ((PG.take m).map page++(PG.drop m).map z4).getD m []=z4 PG[m]/\((PG.take m).map page++(PG.drop m).map z4).length=PG.length/\
   ((PG.take m).map page++(PG.drop m).map z4).set m (page PG[m])=(PG.take (m+1)).map page++(PG.drop (m+1)).map z4:=by
 have hl:((PG.take m).map page).length=m:=by simp; omega
 have hd:PG.drop m=PG[m]::PG.drop (m+1):=List.drop_eq_getElem_cons hm;refine ⟨?_,by simp; omega,?_⟩
 ·rw [hd,List.map_cons,List.getD,List.getElem?_append_right G,hl,Nat.sub_self]
  rfl
 ·rw [hd,List.map_cons,List.set_append_right _ _ G,hl,Nat.sub_self,List.set_cons_zero,List.take_succ_eq_append_getElem hm,List.map_append,List.append_assoc]
  rfl
theorem encode_any {A:Option Addr} {n:Nat} (h:Ul w A n cap us):
  Q 86 #[.slice A n cap] w fun e w'=>∃ v,e= .returned v/\Las w.heap.size v (Tm.encode us) w'/\Bw w w':=by
 have hn:=h.len;have hmx:=h.max;have hcap:=h.cap;have H:=Zq h;obtain ⟨ee,hee⟩:=eX (Tm.encode us);rw [<- hee];have EE:=Zq hee;clear h hee;go_enter Tryz.func86,Tryz.ntmps86;go_wp2_with fail;go_loopw [3,4,5,13] (fun v l d k wr=>EncR w us v l d k wr) (fun _ _ _ k _=>n - (intOf k).toNat)
 case atStart=>exact ⟨0,[],[],0,rfl,rfl,rfl,⟨by omega,G,Las.nil _ _,Below.refl _ _,sn,fun _=>⟨rfl,rfl⟩,sn,by simp [rowsOf]⟩⟩
 case round=>
  obtain ⟨i,D,cur,id,rfl,rfl,rfl,E⟩:=hrel;have hi:=E.le;rw [hn] at hi;by_cases hlt:i<n
  ·obtain ⟨b,off,rfl⟩:=H.out.plain G
   have hk:i<us.length:=G
   have hfit:=H.out.fits us[i] (List.getElem_mem hk);have hdrop:us.drop i=us[i]::us.drop (i+1):=List.drop_eq_getElem_cons hk;generalize hu:us[i]=u at*;obtain ⟨c0,c1,c2,c3,c4⟩:=(H.out.held E.below).at_ hk (a:=u.a) (len:=u.len) (id:=u.id) (seq:=u.seq) (met:=u.met) hu;have R:=ap1 u.a u.len u.id u.seq u.met hfit.a (wr.alloc (.cells #[U u.a,I u.len,U u.id,U u.seq,Vv u.met] 71));have X:=H4 E hu hdrop hfit;clear hfit hdrop hu E;have q1:IntKind.i64.wrap ((i:Int)+1)=((i+1:Nat):Int):=by rw [IntKind.wrap_i64]; omega
   have q2:IntKind.i64.wrap (((rowsOf D cur).length:Int) - 1+1)=((rowsOf D cur).length:Int):=by have:=X.out.1.few; rw [IntKind.wrap_i64]; omega
   go_upto_region 6 with (fail);clear c0 c1 c2 c3 c4;obtain ⟨hb1,hA⟩:=nw wr 71 #[U u.a,I u.len,U u.id,U u.seq,Vv u.met];generalize wr.alloc _=W1 at*;obtain ⟨gu,hgu⟩:=eX wr.heap.size;rw [<- hgu] at hA ⊢;have hguB:w.heap.size<=gu:=by rw [hgu]; exact X.out.1.below.size
   have c0:W1.cell? (Aa gu 0)=some (U u.a):=hA.at_ 0;have c1:W1.cell? (Aa gu (0+1))=some (I u.len):=hA.at_ 1;have c2:W1.cell? (Aa gu (0+2))=some (U u.id):=hA.at_ 2;have c3:W1.cell? (Aa gu (0+3))=some (U u.seq):=hA.at_ 3;have c4:W1.cell? (Aa gu (0+4))=some (Vv u.met):=hA.at_ 4;have Y:=H3 hA hb1 hguB;clear hA hb1 hguB hgu;go_wp2_with fail;refine R.mono ?_;rintro e W2 ⟨rfl,hb2⟩;clear R c0 c1 c2 c3 c4;have hr':right ⟨u.a,u.len,u.id,u.seq,u.met⟩=right u:=rfl;rw [hr'];clear hr'
   cases hr:right u
   ·obtain ⟨E,hu,hdrop,hfit⟩:=X.out
    obtain ⟨hA,hb1,hguB⟩:=Y.out;have hb3:=next hb1 hb2;have Z:=Zq (show EncR w us u3 (I (((rowsOf D cur).length:Int) - 1)) (U id) (I ((i+1:Nat):Int)) W2 from ⟨i+1,D,cur,id,rfl,rfl,rfl,⟨by omega,E.idlt,E.las.held hb3,E.below.trans (hb3.mono E.below.size),by rw [E.eq,hdrop,bx2 hr],E.nil,E.room,by have:=E.few; omega⟩⟩);clear X Y hr hb2 E hu hdrop hfit hA hb1 hguB hb3;go_wp2_with fail;go_roundw
    case rel=>exact Z.out
    case measure=>simp only [intOf]; omega
   ·obtain ⟨E,hu,hdrop,hfit⟩:=X.out
    obtain ⟨hA,hb1,hguB⟩:=Y.out;have hb3:=next hb1 hb2;have hA2:=hA.held hb2;have c0:W2.cell? (Aa gu 0)=some (U u.a):=hA2.at_ 0;have c1:W2.cell? (Aa gu (0+1))=some (I u.len):=hA2.at_ 1;have c2:W2.cell? (Aa gu (0+2))=some (U u.id):=hA2.at_ 2;have c3:W2.cell? (Aa gu (0+3))=some (U u.seq):=hA2.at_ 3;have c4:W2.cell? (Aa gu (0+4))=some (Vv u.met):=hA2.at_ 4;have P1:=au8 hr hfit E.idlt W2;have hB2:=E.below.trans (hb3.mono E.below.size);have X2:=H9 E hu hdrop hfit hr hb3 hB2 hA2 hguB;clear X Y hr hb2 E hu hdrop hfit hA hb1 hguB hb3 hA2 hB2;unfold ucs at P1;go_wp2_with fail;refine P1.mono ?_;rintro e W3 ⟨gp,cp,L,rfl,hL,hgp,hO,hb4⟩;clear P1 c0 c1 c2 c3 c4;obtain ⟨E,hu,hdrop,hfit,hr,hb3,hB2,hA2,hguB⟩:=X2.out;have hL5:L<=19:=hL ▸ bd9 hr id;have hPlt:=as2 hr id;have hPlt0:=as2 hr 0;have hPle0:=bd9 hr 0;have hPne:=cq7 u id;have hPne0:=cq7 u 0;have hA3:=hA2.held hb4;have hB3:=hB2.trans (hb4.mono hB2.size);have hLas:=(E.las.held hb3).held hb4;by_cases hcur:cur=[]
    ·obtain ⟨hD0,hid0⟩:=E.nil hcur
     obtain ⟨D',hD'⟩:∃ D':List (List Nat),D'=[]:=⟨_,rfl⟩;have hDl:D'.length=(rowsOf D cur).length:=by rw [hD',hcur]; rfl
     have hrows:rowsOf D cur++[z4 []]=(D'++[[]]).map z4:=by rw [hD',hcur]; rfl
     have heq:pages [] 0 us=D'++pages ([]++parts u 0) u.id (us.drop (i+1)):=by rw [E.eq,hdrop,hcur,hid0,ct5 hr (by simp; omega),hD0,hD']
     have hneg:decide (((D'.length:Nat):Int) - 1<0)=true:=by rw [hD']; rfl
     clear hD0 hid0;obtain ⟨g9,cap9,W5,hrun9,hLas5,hb5,hk5⟩:=hLas.fresh hB3.size (by have:=E.few; omega);have hA5:=hk5 gu _ _ hA3 (by decide);have hB5:=hB3.trans hb5;rw [hrows] at hLas5;have c0:W5.cell? (Aa gu 0)=some (U u.a):=hA5.at_ 0;have c1:W5.cell? (Aa gu (0+1))=some (I u.len):=hA5.at_ 1;have c2:W5.cell? (Aa gu (0+2))=some (U u.id):=hA5.at_ 2;have c3:W5.cell? (Aa gu (0+3))=some (U u.seq):=hA5.at_ 3;have c4:W5.cell? (Aa gu (0+4))=some (Vv u.met):=hA5.at_ 4;have P2:=au8 hr hfit (id:=0) G W5;unfold ucs at P2;have hDf:D'.length<=i:=by rw [hDl]; exact E.few
     have hDf2:D'.length<=1000000000:=G
     have q2b:IntKind.i64.wrap ((D'.length:Nat):Int)=(D'.length:Nat):=by rw [IntKind.wrap_i64]; omega
     rw [<- hDl] at q2 hrun9 hLas5 ⊢;obtain ⟨N9,hN9⟩:=eX (D'.length+1);rw [<- hN9] at hrun9 hLas5;have mk:∀ W:World,(Instr.makeSlice 45 (I 4) (I 4)).run prog W= .ok (Lt W.heap.size 4 4) (W.alloc (.cells #[Yy 0,Yy 0,Yy 0,Yy 0] 5)):=fun W=>bb8 4 G W
     have Z:=H10 hfit heq hLas5 hB5 hA5 hPlt0 hPle0 hPne0 hDf hN9;clear X2 E hu hdrop hfit hr hb3 hB2 hA2 hguB hL hPlt hPlt0 hPle0 hPne hPne0 hA3 hB3 hLas hO hb4 hgp hk5 hA5 hB5 hLas5 hrows hDl heq hb5 hN9 hDf;clear hD';go_wp2_with (first|(at_builtin; refine Lib.wpList_append_run _ rfl (.tmp 36) (.tmp 38) 163 163 rfl _ _ rfl rfl _ _ hrun9 ?_)|fail);refine P2.mono ?_;rintro e W6 ⟨gp2,cp2,L2,rfl,hL2,hgp2,hO2,hb6⟩;clear P2 c0 c1 c2 c3 c4 hrun9 mk;obtain ⟨hfit,heq,hLas5,hB5,hA5,hPlt0,hPle0,hPne0,hDf,hN9⟩:=Z.out;clear Z;have hA6:=hA5.held hb6;have T:EncT w us i u D' [] (parts u 0) gp2 cp2 (Lt g9 N9 cap9) W6:=⟨hLas5.held hb6,hB5.trans (hb6.mono hB5.size),heq,hO2,hPne0,hPlt0,by simp; omega,hDf⟩;obtain ⟨gb,N,capv,gi,ci,g',cap',W7,q,hvv,hDN,hq2,h1,h2,h3,h4,h5,h6⟩:=T.step hfit hk L2 hL2;have hA8:=h6 gu _ _ hA6 (by decide) (by decide);have c2:(W7.setCell (Aa gb D'.length) (Lt g' (q+L2) cap')).cell? (Aa gu (0+2))=some (U u.id):=hA8.at_ 2;have R5:=Zq h5;have hq3:q+L2<=1024:=by simp at hq2; omega
     clear hq2
     cases hvv;clear hfit heq hLas5 hB5 hA5 hPlt0 hPle0 hPne0 hDf hA6 T h5 h6 hA8 hO2 hb6 hgp2 hL2 hN9;go_wp2_with (first|(at_builtin; refine Lib.wpList_append_run _ rfl (.tmp 49) (.tmp 50) 45 45 rfl _ _ rfl rfl _ _ h2 ?_)|fail);go_roundw
     case rel=>exact R5.out
     case measure=>simp only [intOf]; omega
    ·have hro:rowsOf D cur=(D++[cur]).map z4:=by unfold rowsOf; rw [if_neg hcur]
     have hrl:(rowsOf D cur).length=D.length+1:=by rw [hro]; simp
     by_cases hfits:cur.length+L+4<=1024
     ·have T:EncT w us i u D cur (parts u id) gp cp u3 W3:=⟨hro ▸ hLas,hB3,by rw [E.eq,hdrop,ct5 hr G],hO,hPne,hPlt,G,by have:=E.few; omega⟩
      obtain ⟨gb,N,capv,gi,ci,g',cap',W7,q,rfl,hDN,hq2,h1,h2,h3,h4,h5,h6⟩:=T.step hfit hk L hL;have hA8:=h6 gu _ _ hA3 (by decide) (by decide);have c2:(W7.setCell (Aa gb D.length) (Lt g' (q+L) cap')).cell? (Aa gu (0+2))=some (U u.id):=hA8.at_ 2;have R5:=Zq h5;have hq3:q+L<=1024:=G
      clear hq2;rw [hrl] at q2 ⊢;have e1:((D.length+1:Nat):Int) - 1=(D.length:Nat):=G
      rw [e1];clear X2 E hu hdrop hfit hr hb3 hB2 hA2 hguB hL hPlt hPlt0 hPle0 hPne hPne0 hA3 hB3 hLas hro hrl hfits T h5 h6 hA8 hO hb4 hgp q2 e1;go_wp2_with (first|(at_builtin; refine Lib.wpList_append_run _ rfl (.tmp 49) (.tmp 50) 45 45 rfl _ _ rfl rfl _ _ h2 ?_)|fail);go_roundw
      case rel=>exact R5.out
      case measure=>simp only [intOf]; omega
     ·obtain ⟨D',hD'⟩:∃ D':List (List Nat),D'=D++[cur]:=⟨_,rfl⟩
      have hDl:D'.length=(rowsOf D cur).length:=by rw [hD',hrl]; simp
      have hrows:rowsOf D cur++[z4 []]=(D'++[[]]).map z4:=by rw [hD',hro]; simp
      have heq:pages [] 0 us=D'++pages ([]++parts u 0) u.id (us.drop (i+1)):=by rw [E.eq,hdrop,cf9 hr G,hD']; simp
      obtain ⟨gb0,cp0,gi0,ci0,hv0,k0⟩:=hLas.row_at (i:=D.length) G;have hq0:((rowsOf D cur).getD D.length []).length=cur.length+4:=by rw [hro]; simp [List.getD,z4]
      rw [hq0] at k0;obtain ⟨q0,hq0'⟩:=eX (cur.length+4);rw [<- hq0'] at k0;have hq1:1024<q0+L:=G
      have hq1b:q0<=1024:=by have:=E.room; omega
      have hDD:D'.length=D.length+1:=by rw [hDl,hrl]
      rw [<- hDl] at hv0;obtain ⟨d0,hd0⟩:=eX D.length;rw [<- hd0] at k0 hDD;have hm1:(((D'.length:Nat):Int) - 1)=(d0:Int):=G
      have hd1:d0<D'.length:=G
      clear hq0 hq0' hro hfits hd0;obtain ⟨g9,cap9,W5,hrun9,hLas5,hb5,hk5⟩:=hLas.fresh hB3.size (by have:=E.few; omega);have hA5:=hk5 gu _ _ hA3 (by decide);have hB5:=hB3.trans hb5;rw [hrows] at hLas5;have c0:W5.cell? (Aa gu 0)=some (U u.a):=hA5.at_ 0;have c1:W5.cell? (Aa gu (0+1))=some (I u.len):=hA5.at_ 1;have c2:W5.cell? (Aa gu (0+2))=some (U u.id):=hA5.at_ 2;have c3:W5.cell? (Aa gu (0+3))=some (U u.seq):=hA5.at_ 3;have c4:W5.cell? (Aa gu (0+4))=some (Vv u.met):=hA5.at_ 4;have P2:=au8 hr hfit (id:=0) G W5;unfold ucs at P2;have hDf:D'.length<=i:=by rw [hDl]; exact E.few
      have hDf2:D'.length<=1000000000:=G
      have q2b:IntKind.i64.wrap ((D'.length:Nat):Int)=(D'.length:Nat):=by rw [IntKind.wrap_i64]; omega
      rw [<- hDl] at q2 hrun9 hLas5 ⊢;obtain ⟨N9,hN9⟩:=eX (D'.length+1);rw [<- hN9] at hrun9 hLas5;have mk:∀ W:World,(Instr.makeSlice 45 (I 4) (I 4)).run prog W= .ok (Lt W.heap.size 4 4) (W.alloc (.cells #[Yy 0,Yy 0,Yy 0,Yy 0] 5)):=fun W=>bb8 4 G W
      have Z:=H10 hfit heq hLas5 hB5 hA5 hPlt0 hPle0 hPne0 hDf hN9;clear X2 E hu hdrop hfit hr hb3 hB2 hA2 hguB hL hPlt hPlt0 hPle0 hPne hPne0 hA3 hB3 hLas hO hb4 hgp hk5 hA5 hB5 hLas5 hrows hDl heq hb5 hN9 hDf;subst hv0;have q2':IntKind.i64.wrap ((d0:Int)+1)=(D'.length:Nat):=by rw [<- hm1]; exact q2
      rw [hm1];clear hm1 q2 hD' hrl hDD;go_wp2_with (first|(at_builtin; refine Lib.wpList_append_run _ rfl (.tmp 36) (.tmp 38) 163 163 rfl _ _ rfl rfl _ _ hrun9 ?_)|fail);refine P2.mono ?_;rintro e W6 ⟨gp2,cp2,L2,rfl,hL2,hgp2,hO2,hb6⟩;clear P2 c0 c1 c2 c3 c4 hrun9 mk;obtain ⟨hfit,heq,hLas5,hB5,hA5,hPlt0,hPle0,hPne0,hDf,hN9⟩:=Z.out;clear Z;have hA6:=hA5.held hb6;have T:EncT w us i u D' [] (parts u 0) gp2 cp2 (Lt g9 N9 cap9) W6:=⟨hLas5.held hb6,hB5.trans (hb6.mono hB5.size),heq,hO2,hPne0,hPlt0,by simp; omega,hDf⟩;obtain ⟨gb,N,capv,gi,ci,g',cap',W7,q,hvv,hDN,hq2,h1,h2,h3,h4,h5,h6⟩:=T.step hfit hk L2 hL2;have hA8:=h6 gu _ _ hA6 (by decide) (by decide);have c2:(W7.setCell (Aa gb D'.length) (Lt g' (q+L2) cap')).cell? (Aa gu (0+2))=some (U u.id):=hA8.at_ 2;have R5:=Zq h5;have hq3:q+L2<=1024:=by simp at hq2; omega
      clear hq2
      cases hvv;clear hfit heq hLas5 hB5 hA5 hPlt0 hPle0 hPne0 hDf hA6 T h5 h6 hA8 hO2 hb6 hgp2 hL2 hN9;go_wp2_with (first|(at_builtin; refine Lib.wpList_append_run _ rfl (.tmp 49) (.tmp 50) 45 45 rfl _ _ rfl rfl _ _ h2 ?_)|fail);go_roundw
      case rel=>exact R5.out
      case measure=>simp only [intOf]; omega
  ·have hin:i=n:=G
   have hPG:rowsOf D cur=(pages [] 0 us).map z4:=by
    rw [E.eq,List.drop_of_length_le G];unfold rowsOf;rw [pages];by_cases hc:cur=[]
    ·rw [if_pos hc,if_pos hc,(E.nil hc).1]; rfl
    ·rw [if_neg hc,if_neg hc]
   have hlas:=E.las;have hB:=E.below;rw [hPG] at hlas ⊢;have hfine:=ag7 us [] 0 sn sn;have hen:ee=(pages [] 0 us).map page:=EE.out;have hPn:(pages [] 0 us).length<=1000000000:=by have:=E.few; rw [hPG,List.length_map] at this; omega
   clear EE;generalize pages [] 0 us=PG at*;obtain ⟨p,cp,rfl,hcp⟩:=hlas.form;rw [List.length_map] at hcp ⊢;have h0:HeadR w PG (.slice p PG.length cp) (I (0:Nat)) wr:=⟨0,rfl,G,by simpa using hlas,hB⟩;have Z:=H3 h0 hfine hen;clear hlas hB hfine h0 hPG E H hcap hn hen hi hcp hin;obtain ⟨np,hnp⟩:=eX PG.length;rw [<- hnp] at hPn ⊢;have NP:=Zq hnp;clear hnp;go_wp2_with fail;go_loopw [58] (fun k wr=>HeadR w PG (.slice p np cp) k wr) (fun k _=>np - (intOf k).toNat)
   case atStart=>exact NP.out ▸ Z.out.1
   case round=>
    obtain ⟨m,rfl,hm,hL,hB⟩:=hrel;have hnp:=NP.out;by_cases hlt:m<np
    ·obtain ⟨hR1,hR2,hR3⟩:=cj3 (PG:=PG) (m:=m) G
     obtain ⟨gb,cp2,gi,ci,hv,k0,hO,hBg,hup⟩:=hL.inplace (i:=m) G;obtain ⟨-,hf1,hf2⟩:=Z.out.2.1 PG[m] (List.getElem_mem _);rw [hR1] at k0 hO hup;generalize PG[m]=b at*;rw [hR2,<- hnp] at hv
     cases hv;obtain ⟨q,hq⟩:∃ q,q=(z4 b).length:=⟨_,rfl⟩;rw [<- hq] at k0 hup;have hqb:q=b.length+4:=by rw [hq]; simp [z4]
     have c0:=hO.cell (k:=0) G;have c1:=hO.cell (k:=1) G;have f0:=hO.free 0;have f1:=hO.free 1;have hO1:=(hO.setCell 0 87).setCell 1 1;have hT1:Turn [gi] wr ((wr.setCell (Aa gi 0) (cell 87)).setCell (Aa gi 1) (cell 1)):=(Turn.setCell wr sn _).trans (Turn.setCell _ sn _);have l0:(0:Int)<(q:Int):=G
     have l1:(1:Int)<(q:Int):=G
     have hci:q<=ci:=by obtain ⟨_,_,_,h,_⟩:=hO; omega
     obtain ⟨bl,hbl⟩:=eX b.length;rw [<- hbl] at hqb;have e1:IntKind.i64.wrap ((q:Int) - 4)=(bl:Int):=by rw [IntKind.wrap_i64]; omega
     have e2:IntKind.u32.wrap (bl:Int)=(bl:Int):=by simp [IntKind.wrap,IntKind.bits,IntKind.signed]; omega
     have e3:IntKind.i64.wrap ((m:Int)+1)=((m+1:Nat):Int):=by rw [IntKind.wrap_i64]; omega
     obtain ⟨c4,hc4⟩:=eX (ci - 2);have s24:∀ W:World,(Instr.slice 45 (Lt gi q ci) (some (I 2)) (some (I 4)) none).run prog W= .ok (Mt gi 2 2 c4) W:=fun W=>ae5 gi 0 q ci 2 4 G G W rfl rfl rfl rfl hc4
     have P:=db2 hO1 (off:=2) (v:=bl) G (by simp [z4]) c4;have hnew:set2 (((z4 b).set 0 87).set 1 1) 2 bl=page b:=by rw [hbl]; rfl
     rw [hnew] at P;have Y:=H5 hT1 hup hR3 hB hBg;have hm2:((m:Nat):Int)<(np:Int):=G
     have hlen:(page b).length=q:=by rw [ah6]; omega
     have Y2:=Zq hlen;clear hL hR1 hR2 hR3 hup hO hO1 hT1 hq hbl hf1 hf2 hci hc4 hnew hB hBg hlen hqb hm hnp;change Calls _ _ _ ((wr.setCell (Aa gi 0) (Yy 87)).setCell (Aa gi 1) (Yy 1)) _ at P;go_wp2_with fail;refine P.mono ?_;rintro e W2 ⟨rfl,hO2,hT2⟩;obtain ⟨hT1,hup,hR3,hB,hBg⟩:=Y.out;have hT3:=hT1.trans hT2;have hL2:=hup W2 _ hT3 hO2 Y2.out;rw [hR3] at hL2;have R5:=Zq (show HeadR w PG (Lt gb np cp) (I ((m+1:Nat):Int)) W2 from ⟨m+1,rfl,by have:=NP.out; omega,hL2,hB.trans (hT3.below (B:=w.heap.size) (by simpa using hBg) hB.size)⟩);clear hT1 hup hR3 hB hBg hT3 hL2 hO2 hT2 Y Y2 P s24 c0 c1 f0 f1;go_wp2_with fail;go_roundw
     case rel=>exact R5.out
     case measure=>simp only [intOf]; omega
    ·have hme:m=np:=G
     have V:=H3 hL hB Z.out.2.2;clear hL hB Z hnp hm;go_wp2_with fail;go_ret;have hnp:=NP.out;obtain ⟨hL,hB,hen⟩:=V.out;refine ⟨_,rfl,?_,hB⟩;rw [hen];rw [List.take_of_length_le G,List.drop_of_length_le G,List.map_nil,List.append_nil] at hL;exact hL
end
end Go.Proofs.YtafkfnodcemefaaGreat.T
