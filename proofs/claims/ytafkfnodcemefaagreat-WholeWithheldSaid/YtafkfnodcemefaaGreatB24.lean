import Derived.Test.YtafkfnodcemefaaGreatB22
import Derived.Test.YtafkfnodcemefaaGreatB23
import Derived.Deep.DeepCutAuto
import Derived.Lib.AppendZeros
set_option maxHeartbeats 8000000
set_option maxRecDepth 100000
namespace Go.Proofs.YtafkfnodcemefaaGreat.Sp
open _root_.Go.Proofs.Tryz (prog)
section
open Go.RowKit Go.Maps Sc
theorem by7 (e:Ev) (ha:e.a<4294967296) (w:World):
  Q 64 #[.agg (ecs e)] w (Rr0 w (O (right e))):=by
 have hs:(⟨e.p.toArray⟩:ByteArray).size=e.p.length:=ba0 e.p;have e7:decide (((⟨e.p.toArray⟩:ByteArray).size:Int)<=240)=decide (e.p.length<=240):=by rw [hs,decide_eq_decide]; omega
 have e8:((((⟨e.p.toArray⟩:ByteArray).size:Int) % 6)==0)=decide (e.p.length % 6=0):=by rw [hs,Bool.eq_iff_iff,beq_iff_eq,decide_eq_true_eq]; omega
 unfold right
 cases h0:decide (0<=e.kind)
 ·exact ce8 e _ rfl (.inl h0) w
 cases h1:decide (e.kind<=10)
 ·exact ce8 e _ rfl (.inr ⟨h0,h1⟩) w
 cases h2:bare e
 ·exact da7 e _ rfl h0 h1 h2 w
 cases h3:small e.i
 ·exact bl1 e _ rfl h0 h1 h2 (.inl h3) w
 cases h4:small e.k
 ·exact bl1 e _ rfl h0 h1 h2 (.inr ⟨h3,.inl h4⟩) w
 cases h5:small e.n
 ·exact bl1 e _ rfl h0 h1 h2 (.inr ⟨h3,.inr ⟨h4,h5⟩⟩) w
 cases h6:Am.right e.a e.len
 ·exact bl0 e _ rfl h0 h1 h2 h3 h4 h5 ha _ (.inl ⟨h6,rfl⟩) w
 cases h7:decide (e.p.length<=240)
 ·exact bl0 e _ rfl h0 h1 h2 h3 h4 h5 ha _ (.inr ⟨h6,.inl ⟨e7.trans h7,rfl⟩⟩) w
 ·exact bl0 e _ rfl h0 h1 h2 h3 h4 h5 ha _ (.inr ⟨h6,.inr ⟨e7.trans h7,e8⟩⟩) w
theorem eright_eq {e:Ev} {r:Bool} (ha:e.a<4294967296) (h:right e=r) (w:World):Q 64 #[.agg (ecs e)] w (Rr0 w (O r)):=h ▸ by7 e ha w
end
end Go.Proofs.YtafkfnodcemefaaGreat.Sp
namespace Go.Proofs.YtafkfnodcemefaaGreat.Sp
open _root_.Go.Proofs.Tryz (prog)
open Go.RowKit Go.Maps Sc
theorem ct8 {e:Ev} (h:right e=true):∃ kd i k n l:Nat,e.kind=kd/\e.i=i/\e.k=k/\e.n=n/\e.len=l/\kd<=10/\i<=65536/\k<=65536/\n<=65536/\l<=32/\e.p.length<=240:=by
 have O:=ao1 h;have:=O.kind1; have:=O.kind2; have:=O.i1; have:=O.i2; have:=O.k1; have:=O.k2; have:=O.n1; have:=O.n2; have:=O.len1; have:=O.len2; have:=O.few;exact ⟨e.kind.toNat,e.i.toNat,e.k.toNat,e.n.toNat,e.len.toNat,G,G,G,G,G,G,G,G,G,G,G⟩
theorem Ob.of_blk {W:World} {B g:Nat} {bs:List Nat} (h:Blk 5 W g (cls bs)) (hB:B<=g) (hl:bs.length<=5000) {n:Nat} (hn:n=bs.length):Ob B (Lt g n n) bs W:=by
 subst hn;exact ⟨by rw [ae8]; simp,.inr ⟨g,bs.length,cls bs,rfl,hB,h,Nat.le_refl _,aa5 hl,by simp [cls],by rw [ae8]; simp [cls,List.take_of_length_le]⟩⟩
theorem bn5 (A:Option Addr) (n cap k:Nat) (hk:k<=n) (hcap:n<=cap) (w:World) {z:Int} (hz:z=k) {A':Option Addr} (hA:A'=if cap=k then A else A.map (·.add k)) {m c:Nat} (hm:m=n - k) (hc:c=cap - k):
  (Instr.slice 45 (.slice A n cap) (some (I z)) none none).run prog w= .ok (.slice A' m c) w:=by
 subst hA hm hc;have d1:(k:Int)<=(n:Int):=G
 subst hz;by_cases e:cap=k
 ·rw [if_pos e]; subst e; go_simp
 ·rw [if_neg e]; go_simp
theorem al5 (b off n cap k l:Nat) (hk:k<l) (hl:l<=cap) (w:World) {z y:Int} (hz:z=k) (hy:y=l) {o' m c:Nat} (ho:o'=off+k) (hm:m=l - k) (hc:c=cap - k):
  (Instr.slice 45 (Mt b off n cap) (some (I z)) (some (I y)) none).run prog w= .ok (Mt b o' m c) w:=by
 subst hm hc ho;have d1:(k:Int)<=(l:Int):=G
 have d2:(l:Int)<=(cap:Int):=G
 have d3:¬ cap=k:=G
 subst hz hy;go_simp
theorem wrap64b {m:Nat} (h:m<256):IntKind.i64.wrap (16+(m:Int))=16+m:=by rw [IntKind.wrap_i64]; omega
theorem wrap32 {x:Nat} (h:x<4294967296):IntKind.u32.wrap (x:Int)=x:=by simp [IntKind.wrap,IntKind.bits,IntKind.signed]; omega
theorem ai0 (l:List Nat) (i v:Nat):(cls l).setIfInBounds i (cell v)=cls (l.set i v):=by simp [cls,List.map_set]
theorem _root_.Go.Proofs.YtafkfnodcemefaaGreat.Blk.bset {w:World} {g:Nat} {l:List Nat} (h:Blk 5 w g (cls l)) (i v:Nat):Blk 5 (w.setCell (Y g i) (cell v)) g (cls (l.set i v)):=by
 rw [<- ai0]; exact h.store i (cell v)
theorem cf4 (g off cap v:Nat) (hv:v<16777216) (l:List Nat) (w:World) (h:Blk 5 w g (cls l)) (hs:off+3<=l.length):
  Q 57 #[Mt g off 3 cap,U v] w fun e w'=>e= .returned (.tuple #[])/\Blk 5 w' g (cls (((l.set off (v / 65536 % 256)).set (off+1) (v / 256 % 256)).set (off+2) (v % 256)))/\Turn [g] w w':=by
 refine (cf3 g off cap v hv (cls l) w h (by simpa [cls] using hs)).mono ?_;rintro e w' ⟨rfl,rfl⟩;exact ⟨rfl,((h.bset _ _).bset _ _).bset _ _,((Turn.setCell _ sn _).trans (Turn.setCell _ sn _)).trans (Turn.setCell _ sn _)⟩
theorem put_l2 (g off cap v:Nat) (hv:v<65536) (l:List Nat) (w:World) (h:Blk 5 w g (cls l)) (hs:off+2<=l.length):
  Q 57 #[Mt g off 2 cap,U v] w fun e w'=>e= .returned (.tuple #[])/\Blk 5 w' g (cls ((l.set off (v / 256 % 256)).set (off+1) (v % 256)))/\Turn [g] w w':=by
 refine (au7 g off cap v hv (cls l) w h (by simpa [cls] using hs)).mono ?_;rintro e w' ⟨rfl,rfl⟩;exact ⟨rfl,(h.bset _ _).bset _ _,(Turn.setCell _ sn _).trans (Turn.setCell _ sn _)⟩
theorem put_l4 (g off cap v:Nat) (hv:v<4294967296) (l:List Nat) (w:World) (h:Blk 5 w g (cls l)) (hs:off+4<=l.length):
  Q 57 #[Mt g off 4 cap,U v] w fun e w'=>e= .returned (.tuple #[])/\Blk 5 w' g (cls ((((l.set off (v / 16777216 % 256)).set (off+1) (v / 65536 % 256)).set (off+2) (v / 256 % 256)).set (off+3) (v % 256)))/\Turn [g] w w':=by
 refine (an5 g off cap v hv (cls l) w h (by simpa [cls] using hs)).mono ?_;rintro e w' ⟨rfl,rfl⟩;exact ⟨rfl,(((h.bset _ _).bset _ _).bset _ _).bset _ _,(((Turn.setCell _ sn _).trans (Turn.setCell _ sn _)).trans (Turn.setCell _ sn _)).trans (Turn.setCell _ sn _)⟩
def z16:List Nat:=List.replicate 16 0
theorem make16 (w:World):(Instr.makeSlice 45 (I 16) (I 16)).run prog w= .ok (Lt w.heap.size 16 16) (w.alloc (.cells (cls z16) 5)):=X
theorem cb5 {e:Ev} (h:right e=true) (ha:e.a<4294967296) (w:World):
  Q 58 #[.agg (ecs e)] w fun x w'=>∃ g cap q,x= .returned (Lt g q cap)/\q=(ebytes e).length/\Ob w.heap.size (Lt g q cap) (ebytes e) w'/\Bw w w':=by
 obtain ⟨kd,i,k,n,l,e0,e1,e2,e3,e4,h0,h1,h2,h3,h4,h5⟩:=ct8 h;obtain ⟨kind,ii,kk,nn,a,ll,p⟩:=e;simp only at e0 e1 e2 e3 e4 h5 ha;subst e0 e1 e2 e3 e4;obtain ⟨s,hs⟩:∃ s:ByteArray,s=⟨p.toArray⟩:=⟨_,rfl⟩;obtain ⟨X,hX⟩:=eX (ecs ⟨kd,i,k,n,a,l,p⟩);have hX2:X=#[I (kd:Int),I (i:Int),I (k:Int),I (n:Int),U (a:Int),I (l:Int),Ss s]:=by rw [hX,hs]; rfl
 obtain ⟨m,hm⟩:=eX p.length;have hsz:s.size=m:=by rw [hs,hm]; exact ba0 p
 rw [<- hm] at h5;have EB:Hid (ebytes ⟨kd,i,k,n,a,l,p⟩=[kd % 256,i / 65536 % 256,i / 256 % 256,i % 256,k / 65536 % 256,k / 256 % 256,k % 256,n / 65536 % 256,n / 256 % 256,n % 256,a / 16777216 % 256,a / 65536 % 256,a / 256 % 256,a % 256,l % 256,m % 256]++Sc.nats p):=Zq (by rw [hm]; rfl);have HS:=H3 hs hm hsz;rw [<- hX,hX2];clear h hX hX2 hs hm X;go_enter Tryz.func58,Tryz.ntmps58;have mk:=make16;go_upto_region 2 with fail;obtain ⟨hb1,BE⟩:=nw w 30 #[I (kd:Int),I (i:Int),I (k:Int),I (n:Int),U (a:Int),I (l:Int),Ss s];have hs1:=aa1 w (.cells #[I (kd:Int),I (i:Int),I (k:Int),I (n:Int),U (a:Int),I (l:Int),Ss s] 30);generalize w.alloc _=w1 at*;have BG:=Blk.new w1 5 (cls z16);have BE2:=BE.more (.cells (cls z16) 5);have hb2:=next hb1 (aa0 w1 (.cells (cls z16) 5));rw [hs1] at BG;generalize w1.alloc _=w2 at*;have c0:w2.cell? (Y w.heap.size 0)=some (I (kd:Int)):=BE2.at_ 0;have g0:w2.cell? (Y (w.heap.size+1) 0)=some (Yy 0):=BG.at_ 0;have f0:=BG.free 0;have Y2:=H3 BE2 BG hb2;clear BE hb1 hs1 BG BE2 hb2 mk;go_upto_region 3 with fail;have BE3:=Y2.out.1.away (p:=⟨w.heap.size+1,0,none⟩) (by show ¬ w.heap.size=w.heap.size+1; omega) (cell kd);have BG3:=Y2.out.2.1.bset 0 kd;have hb3:=Y2.out.2.2.setCell (p:=⟨w.heap.size+1,0,none⟩) (by show w.heap.size<=w.heap.size+1; omega) (cell kd);unfold cell at BE3 BG3 hb3;generalize w2.setCell (Y (w.heap.size+1) 0) (Yy (kd:Int))=w3 at*;obtain ⟨l3,hl3⟩:=eX (z16.set 0 kd);rw [<- hl3] at BG3;have hn3:l3.length=16:=by rw [hl3]; rfl
 clear c0 g0 f0 Y2;have d3:w3.drew.cell? (Y w.heap.size 1)=some (I (i:Int)):=BE3.at_ 1;have HP3:=cf4 (w.heap.size+1) 1 15 i G l3 w3.drew BG3.drew G;have Y3:=H4 BE3 hb3 hl3 hn3;clear BE3 BG3 hb3 hl3 hn3;refine wp_region_held_drew (S:=fun u=>u.cell? (Y w.heap.size 1)=some (I (i:Int))) kr d3 (fun hHeld=>?_);refine tk 0 (Lt (w.heap.size+1) 16 16) rfl hHeld ?_;go_frame;refine tk 1 (Mt (w.heap.size+1) 1 3 15) rfl hHeld ?_;go_frame;refine tk 2 (Qt w.heap.size 1) rfl hHeld ?_;go_frame;refine tk 3 (I (i:Int)) rfl hHeld ?_;go_frame;refine aa6 (i:=4) (v:= U (i:Int)) rfl kr kr kr (fun _ _ _ h=>h) (.inl ⟨rfl,?_⟩) hHeld ?_
 ·(intro w hSw; go_simp; exact wrap32 G)
 go_frame;refine rl 5 rfl fun K hK=>?_
 go_simp;refine HP3.mono ?_;rintro e w4 ⟨rfl,BG4,T4⟩;refine hK.out _ _ (T4.cell d3 sn) (fun hHeld=>?_);have BE4:=Y3.out.1.drew.turn T4 sn;have hb4:=Y3.out.2.1.drew.trans (T4.below (B:=w.heap.size) sn Y3.out.2.1.size);obtain ⟨l4,hl4⟩:∃ l4,l4=((l3.set 1 (i / 65536 % 256)).set 2 (i / 256 % 256)).set 3 (i % 256):=⟨_,rfl⟩;rw [<- hl4] at BG4;have hn4:l4.length=16:=by rw [hl4]; simpa using Y3.out.2.2.2
 rw [Y3.out.2.2.1] at hl4;clear hK K HP3 d3 T4 Y3 hHeld;refine wpAnyH_done kr ?_ _;try go_frame
 go_upto_region 4 with fail;have d4:w4.drew.cell? (Y w.heap.size 2)=some (I (k:Int)):=BE4.at_ 2;have HP4:=cf4 (w.heap.size+1) 4 12 k G l4 w4.drew BG4.drew G;have Y4:=H4 BE4 hb4 hl4 hn4;clear BE4 BG4 hb4 hl4 hn4;refine wp_region_held_drew (S:=fun u=>u.cell? (Y w.heap.size 2)=some (I (k:Int))) kr d4 (fun hHeld=>?_);refine tk 0 (Lt (w.heap.size+1) 16 16) rfl hHeld ?_;go_frame;refine tk 1 (Mt (w.heap.size+1) 4 3 12) rfl hHeld ?_;go_frame;refine tk 2 (Qt w.heap.size 2) rfl hHeld ?_;go_frame;refine tk 3 (I (k:Int)) rfl hHeld ?_;go_frame;refine aa6 (i:=4) (v:= U (k:Int)) rfl kr kr kr (fun _ _ _ h=>h) (.inl ⟨rfl,?_⟩) hHeld ?_
 ·(intro w hSw; go_simp; exact wrap32 G)
 go_frame;refine rl 5 rfl fun K hK=>?_
 go_simp;refine HP4.mono ?_;rintro e w5 ⟨rfl,BG5,T5⟩;refine hK.out _ _ (T5.cell d4 sn) (fun hHeld=>?_);have BE5:=Y4.out.1.drew.turn T5 sn;have hb5:=Y4.out.2.1.drew.trans (T5.below (B:=w.heap.size) sn Y4.out.2.1.size);obtain ⟨l5,hl5⟩:∃ l5,l5=((l4.set 4 (k / 65536 % 256)).set 5 (k / 256 % 256)).set 6 (k % 256):=⟨_,rfl⟩;rw [<- hl5] at BG5;have hn5:l5.length=16:=by rw [hl5]; simpa using Y4.out.2.2.2
 rw [Y4.out.2.2.1] at hl5;clear hK K HP4 d4 T5 Y4 hHeld;refine wpAnyH_done kr ?_ _;try go_frame
 go_upto_region 5 with fail;have d5:w5.drew.cell? (Y w.heap.size 3)=some (I (n:Int)):=BE5.at_ 3;have HP5:=cf4 (w.heap.size+1) 7 9 n G l5 w5.drew BG5.drew G;have Y5:=H4 BE5 hb5 hl5 hn5;clear BE5 BG5 hb5 hl5 hn5;refine wp_region_held_drew (S:=fun u=>u.cell? (Y w.heap.size 3)=some (I (n:Int))) kr d5 (fun hHeld=>?_);refine tk 0 (Lt (w.heap.size+1) 16 16) rfl hHeld ?_;go_frame;refine tk 1 (Mt (w.heap.size+1) 7 3 9) rfl hHeld ?_;go_frame;refine tk 2 (Qt w.heap.size 3) rfl hHeld ?_;go_frame;refine tk 3 (I (n:Int)) rfl hHeld ?_;go_frame;refine aa6 (i:=4) (v:= U (n:Int)) rfl kr kr kr (fun _ _ _ h=>h) (.inl ⟨rfl,?_⟩) hHeld ?_
 ·(intro w hSw; go_simp; exact wrap32 G)
 go_frame;refine rl 5 rfl fun K hK=>?_
 go_simp;refine HP5.mono ?_;rintro e w6 ⟨rfl,BG6,T6⟩;refine hK.out _ _ (T6.cell d5 sn) (fun hHeld=>?_);have BE6:=Y5.out.1.drew.turn T6 sn;have hb6:=Y5.out.2.1.drew.trans (T6.below (B:=w.heap.size) sn Y5.out.2.1.size);obtain ⟨l6,hl6⟩:∃ l6,l6=((l5.set 7 (n / 65536 % 256)).set 8 (n / 256 % 256)).set 9 (n % 256):=⟨_,rfl⟩;rw [<- hl6] at BG6;have hn6:l6.length=16:=by rw [hl6]; simpa using Y5.out.2.2.2
 rw [Y5.out.2.2.1] at hl6;clear hK K HP5 d5 T6 Y5 hHeld;refine wpAnyH_done kr ?_ _;try go_frame
 go_upto_region 6 with fail;have d6:w6.drew.cell? (Y w.heap.size 4)=some (U (a:Int)):=BE6.at_ 4;have HP6:=put_l4 (w.heap.size+1) 10 6 a G l6 w6.drew BG6.drew G;have Y6:=H4 BE6 hb6 hl6 hn6;clear BE6 BG6 hb6 hl6 hn6;refine wp_region_held_drew (S:=fun u=>u.cell? (Y w.heap.size 4)=some (U (a:Int))) kr d6 (fun hHeld=>?_);refine tk 0 (Lt (w.heap.size+1) 16 16) rfl hHeld ?_;go_frame;refine tk 1 (Mt (w.heap.size+1) 10 4 6) rfl hHeld ?_;go_frame;refine tk 2 (Qt w.heap.size 4) rfl hHeld ?_;go_frame;refine tk 3 (Qt w.heap.size 4) rfl hHeld ?_;go_frame;refine tk 4 (U (a:Int)) rfl hHeld ?_;go_frame;refine rl 5 rfl fun K hK=>?_
 go_simp;refine HP6.mono ?_;rintro e w7 ⟨rfl,BG7,T7⟩;refine hK.out _ _ (T7.cell d6 sn) (fun hHeld=>?_);have BE7:=Y6.out.1.drew.turn T7 sn;have hb7:=Y6.out.2.1.drew.trans (T7.below (B:=w.heap.size) sn Y6.out.2.1.size);obtain ⟨l7,hl7⟩:∃ l7,l7=(((l6.set 10 (a / 16777216 % 256)).set 11 (a / 65536 % 256)).set 12 (a / 256 % 256)).set 13 (a % 256):=⟨_,rfl⟩;rw [<- hl7] at BG7;have hn7:l7.length=16:=by rw [hl7]; simpa using Y6.out.2.2.2
 rw [Y6.out.2.2.1] at hl7;clear hK K HP6 d6 T7 Y6 hHeld;refine wpAnyH_done kr ?_ _;try go_frame
 go_upto_region 7 with fail;obtain ⟨y,hy⟩:∃ y:Nat,l7[14]?=some y:=⟨l7[14]'og,sn⟩;obtain ⟨y5,hy5⟩:∃ y:Nat,l7[15]?=some y:=⟨l7[15]'og,sn⟩;have c5:w7.cell? (Y w.heap.size 5)=some (I (l:Int)):=BE7.at_ 5;have g5:w7.cell? (Y (w.heap.size+1) 14)=some (cell y):=(BG7.at_ 14).trans (by simp [cls,hy]);have f5:=BG7.free 14;have BE8:=BE7.away (p:=⟨w.heap.size+1,14,none⟩) (by show ¬ w.heap.size=w.heap.size+1; omega) (cell l);have BG8:=BG7.bset 14 l;have hb8:=hb7.setCell (p:=⟨w.heap.size+1,14,none⟩) (by show w.heap.size<=w.heap.size+1; omega) (cell l);unfold cell at BE8 BG8 hb8 g5;have Y7:=H6 BE8 BG8 hb8 hl7 hn7 hy5;clear BE7 BG7 hb7 hl7 hn7 hy hy5 BE8 BG8 hb8;go_upto_region 8 with fail;clear c5 g5 f5;generalize w7.setCell (Y (w.heap.size+1) 14) (Yy (l:Int))=w8 at*;have c6:w8.cell? (Y w.heap.size 6)=some (Ss s):=Y7.out.1.at_ 6;have g6:w8.cell? (Y (w.heap.size+1) 15)=some (cell y5):=(Y7.out.2.1.at_ 15).trans (by simp [cls,Y7.out.2.2.2.2.2]);have f6:=Y7.out.2.1.free 15;have BE9:=Y7.out.1.away (p:=⟨w.heap.size+1,15,none⟩) (by show ¬ w.heap.size=w.heap.size+1; omega) (cell m);have BG9:=Y7.out.2.1.bset 15 m;have hb9:=Y7.out.2.2.1.setCell (p:=⟨w.heap.size+1,15,none⟩) (by show w.heap.size<=w.heap.size+1; omega) (cell m);unfold cell at BE9 BG9 hb9 g6;have Y8:=H4 BE9 BG9 hb9 Y7.out.2.2.2;clear BE9 BG9 hb9 Y7;go_upto_region 9 with fail;clear c6 g6 f6;generalize w8.setCell (Y (w.heap.size+1) 15) (Yy (m:Int))=w9 at*;have c7:w9.cell? (Y w.heap.size 6)=some (Ss s):=Y8.out.1.at_ 6;have hl:(l7.set 14 l).set 15 m=[kd,i / 65536 % 256,i / 256 % 256,i % 256,k / 65536 % 256,k / 256 % 256,k % 256,n / 65536 % 256,n / 256 % 256,n % 256,a / 16777216 % 256,a / 65536 % 256,a / 256 % 256,a % 256,l,m]:=by rw [Y8.out.2.2.2.1]; rfl
 have hE:=EB.out;rw [Nat.mod_eq_of_lt (show kd<256 by omega),Nat.mod_eq_of_lt (show l<256 by omega),Nat.mod_eq_of_lt (show m<256 by omega),<- hl] at hE;have hlen:((l7.set 14 l).set 15 m).length=16:=by simpa using Y8.out.2.2.2.2.1
 have BG:=Y8.out.2.1;generalize (l7.set 14 l).set 15 m=hd16 at*;obtain ⟨g,cap,w10,hrun,hO,hgr⟩:=(Ob.of_blk BG (B:=w.heap.size) G G hlen.symm).str Y8.out.2.2.1.size G p (by have:=HS.out.2.1; omega) 45;have hb10:=Y8.out.2.2.1.grown hgr Y8.out.2.2.1.size (fun kk e=>by simp [Value.ownBlock] at e; omega);obtain ⟨q,hq⟩:=eX (hd16.length+p.length);rw [<- hq] at hrun hO;rw [<- HS.out.1] at hrun;have Z:=H4 hE hq hO hb10;clear Y8 hl hE hlen BG hO hgr hb10 hq EB;go_wp2_with (first|(at_builtin; refine Lib.wpList_append_run _ rfl (.tmp 46) (.tmp 48) 45 9 rfl _ _ rfl rfl _ _ hrun ?_)|fail);go_ret;refine ⟨g,cap,q,rfl,?_,?_,Z.out.2.2.2⟩
 ·rw [Z.out.1,Z.out.2.1,List.length_append,Sc.nats_length]
 ·rw [Z.out.1]; exact Z.out.2.2.1
end Go.Proofs.YtafkfnodcemefaaGreat.Sp
set_option maxRecDepth 20000
namespace Go.Proofs.YtafkfnodcemefaaGreat.Sp
open _root_.Go.Proofs.Tryz (prog)
section
open Go.RowKit Go.Maps Sc
attribute [local go_sem] Oper.semAt_some
variable {w:World}{cap g n:Nat}{t:TypeId}{e:Ev}{A:Option Addr}{bs:List Nat}
def _root_.Go.Proofs.YtafkfnodcemefaaGreat.Sc.zev:Ev:=⟨0,0,0,0,0,0,[]⟩
def _root_.Go.Proofs.YtafkfnodcemefaaGreat.Sc.fst (b:List Nat):Ev:=if room b then parse b else zev
theorem cu5 {b:List Nat} (h:room b=true):Sc.fst b=parse b:=by unfold Sc.fst; rw [if_pos h]
theorem _root_.Go.Proofs.YtafkfnodcemefaaGreat.Blk.ev_there (h:Blk t w g (ecs e)):w.there g 0 (ecs e).size:=fun j hj=>by
 rw [Nat.zero_add];refine ⟨?_,h.free j⟩;rw [h.at_ j,Array.getElem?_eq_getElem hj];rfl
theorem _root_.Go.Proofs.YtafkfnodcemefaaGreat.Blk.ev_there7 (h:Blk t w g (ecs e)):w.there g 0 7:=h.ev_there
theorem wrap64 {x:Nat} (h:x<4294967296):IntKind.i64.wrap (x:Int)=x:=by rw [IntKind.wrap_i64]; omega
theorem ax4 {fn:Func} {p u:Tmp} (h:fn.results=#[.cell p 30,.tmp u]) {tmps:Array Value} {w:World} {g:Nat} {e:Ev} {v:Value} (hp:tmps.getD p undef= K g) (hu:tmps.getD u undef=v)
  (hb:Blk 30 w g (ecs e)):(results fn tmps).run prog w= .ok (.tuple #[.agg (ecs e),v]) w:=by
 obtain ⟨d,h1,h2⟩:∃ d,prog.underlying 30=some d/\d.isRow=true:=⟨_,rfl,rfl⟩;have hi:(prog.info? 30).map (·.size)=some (ecs e).size:=by show _=some 7; kernel_rfl
 rw [results_cell_tmp h,hp,hu];have hl:=run_loadVar_row (P:=prog) w g 30 30 _ (0,0) d hb h1 (by cases d<;>first|rfl|cases h2) hi;simp [asAddr,hl]
theorem bn1 (h:Sl w A n cap bs) (hr:room bs=false):
  Q 120 #[.slice A n cap] w (Rr0 w (.tuple #[.agg (ecs zev),O false])):=by
 have hl:=h.bytes.1;have hmx:=h.bytes.2.1;have hcap:=h.cap;have hmx':n<=9223372036854775807:=by unfold maxLen at hmx; omega
 clear hmx;by_cases h16:n<16
 ·have d1:=dT ((n:Int)<16)
  clear h hr hl;go_enter Tryz.func120,Tryz.ntmps120;go_wp2_with fail;refine bodyPost_ret (v:= .tuple #[.agg (ecs zev),O false]) ?_ rfl ⟨rfl,?_⟩
  ·simp [results,Tryz.results120,go_sem]
   rfl
  ·first|exact aa0 _ _|exact (aa0 _ _).drew
 ·have d1:=df ((n:Int)<16)
  obtain ⟨b,off,rfl⟩:=h.plain G;have c15:w.cell? (Y b (off+15))=some (Yy (bs.getD 15 0:Nat)):=h.at_ (k:=15) G;have hx:=h.bytes.lt 15;have hm:n<16+bs.getD 15 0:=by
   unfold room at hr;rw [hl,decide_eq_true (show 16<=n by omega),Bool.true_and,decide_eq_false_iff_not] at hr;omega
  generalize bs.getD 15 0=m at*;have d2:=dT ((n:Int)<16+(m:Int));have c15':(w.alloc (.cells #[I 0,I 0,I 0,I 0,U 0,I 0,Ss ⟨#[]⟩] 30)).cell? (Y b (off+15))=some (Yy (m:Nat)):=held (aa0 _ _) c15;have i15:¬ n<=15:=G
  have i16:(15:Int)<(n:Int):=G
  clear h hr hl hm h16 c15;go_enter Tryz.func120,Tryz.ntmps120;go_upto_region 1 with fail;have B0:=Blk.new w 30 (ecs zev);have hb:=aa0 w (.cells (ecs zev) 30);unfold ecs at B0 hb;go_wp2_with fail;refine bodyPost_ret (v:= .tuple #[.agg (ecs zev),O false]) ?_ rfl ⟨rfl,?_⟩
  ·simp [results,Tryz.results120,go_sem]
   rfl
  ·first|exact aa0 _ _|exact (aa0 _ _).drew
theorem by4 (h:Sl w A n cap bs) (hr:room bs=true):
  Q 120 #[.slice A n cap] w (Rr0 w (.tuple #[.agg (ecs (parse bs)),O (right (parse bs))])):=by
 have hl:=h.bytes.1;have hmx:=h.bytes.2.1;have hcap:=h.cap;have hmx':n<=9223372036854775807:=by unfold maxLen at hmx; omega
 clear hmx;have hr':=hr;unfold room at hr;simp only [hl,Bool.and_eq_true,decide_eq_true_eq] at hr;obtain ⟨h16,hm⟩:=hr;have d1:=df ((n:Int)<16);obtain ⟨b,off,rfl⟩:=h.plain og;have E:=Zq (show ecs (parse bs)=#[I (bs.getD 0 0:Nat),I (Sc.val ((bs.drop 1).take 3):Nat),I (Sc.val ((bs.drop 4).take 3):Nat),I (Sc.val ((bs.drop 7).take 3):Nat),U (Sc.val ((bs.drop 10).take 4):Nat),I (bs.getD 14 0:Nat),Ss ⟨(toU ((bs.drop 16).take (bs.getD 15 0))).toArray⟩] from rfl);have hfit:=(ak5 h.bytes.2.2.1).2;have hx0:=h.bytes.lt 0;have hx14:=h.bytes.lt 14;have hx15:=h.bytes.lt 15;have l3:∀ o,Sc.val ((bs.drop o).take 3)<16777216:=fun o=>Sc.val_lt 3 _ (by simp; omega) (fun c hc=>h.bytes.2.2.1 c (List.mem_of_mem_drop (List.mem_of_mem_take hc)))
 have hv1:=l3 1;have hv4:=l3 4;have hv7:=l3 7;have c0:w.cell? (Aa b off)=some (Yy (bs.getD 0 0:Nat)):=h.at_ (k:=0) og;have c14:w.cell? (Aa b (off+14))=some (Yy (bs.getD 14 0:Nat)):=h.at_ (k:=14) og;have c15:w.cell? (Aa b (off+15))=some (Yy (bs.getD 15 0:Nat)):=h.at_ (k:=15) og;obtain ⟨A',c',hA',hbp⟩:∃ (A':Option Addr) (c':Nat),(∀ W:World,(Instr.slice 45 (Mt b off n cap) (some (I 16)) (some (I (16+(bs.getD 15 0:Nat):Int))) none).run prog W= .ok (.slice A' (bs.getD 15 0) c') W)/\∀ W,Sl W (some (Aa b off)) n cap bs->BytesAt W A' (bs.getD 15 0) ((bs.drop 16).take (bs.getD 15 0)):=by
  by_cases e:bs.getD 15 0=0
  ·refine ⟨if cap=16 then some (Aa b off) else some (Aa b (off+16)),cap - 16,fun W=>?_,fun W hW=>?_⟩
   ·rw [e]
    have d1:(16:Int)<=(cap:Int):=og;by_cases e2:cap=16
    ·subst e2; go_simp
    ·rw [if_neg e2]; go_simp
   ·rw [e,List.take_zero]
    exact ⟨rfl,by unfold maxLen; omega,sn,fun k hk=>by omega⟩
  ·refine ⟨some (Aa b (off+16)),cap - 16,fun W=>?_,fun W hW=>(hW.part 16 _ og).bytes⟩
   generalize bs.getD 15 0=m at*;have d1:(16:Int)<=16+(m:Int):=og;have d2:16+(m:Int)<=(cap:Int):=og;have d3:¬ cap=16:=og;have d4:(16+(m:Int)).toNat - 16=m:=og;go_simp;try exact d4
 have G1:=fun W (hW:Sl W (some (Aa b off)) n cap bs)=>ae1 hW 1 3 og og (cap - 1)
 have G4:=fun W (hW:Sl W (some (Aa b off)) n cap bs)=>ae1 hW 4 3 og og (cap - 4)
 have G7:=fun W (hW:Sl W (some (Aa b off)) n cap bs)=>ae1 hW 7 3 og og (cap - 7)
 have G10:=fun W (hW:Sl W (some (Aa b off)) n cap bs)=>ae1 hW 10 4 og og (cap - 10)
 have s1:∀ W:World,(Instr.slice 45 (Mt b off n cap) (some (I 1)) (some (I 4)) none).run prog W= .ok (Mt b (off+1) 3 (cap - 1)) W:=fun W=>al5 b off n cap 1 4 og og W rfl rfl rfl rfl rfl
 have s4:∀ W:World,(Instr.slice 45 (Mt b off n cap) (some (I 4)) (some (I 7)) none).run prog W= .ok (Mt b (off+4) 3 (cap - 4)) W:=fun W=>al5 b off n cap 4 7 og og W rfl rfl rfl rfl rfl
 have s7:∀ W:World,(Instr.slice 45 (Mt b off n cap) (some (I 7)) (some (I 10)) none).run prog W= .ok (Mt b (off+7) 3 (cap - 7)) W:=fun W=>al5 b off n cap 7 10 og og W rfl rfl rfl rfl rfl
 have s10:∀ W:World,(Instr.slice 45 (Mt b off n cap) (some (I 10)) (some (I 14)) none).run prog W= .ok (Mt b (off+10) 4 (cap - 10)) W:=fun W=>al5 b off n cap 10 14 og og W rfl rfl rfl rfl rfl
 generalize hPE:parse bs=PE at*;obtain ⟨r,hr⟩:=ey (right PE);obtain ⟨X,hX⟩:=eX (ecs PE);rw [hr,<- hX];have XR:=H2 hr hX;clear hr hX;have hS:=h;obtain ⟨part,hpart⟩:∃ part,part=(bs.drop 16).take (bs.getD 15 0):=⟨_,rfl⟩;rw [<- hpart] at hbp E;generalize bs.getD 0 0=x0 at*;generalize bs.getD 14 0=x14 at*;generalize Sc.val ((bs.drop 1).take 3)=v1 at*;generalize Sc.val ((bs.drop 4).take 3)=v4 at*;generalize Sc.val ((bs.drop 7).take 3)=v7 at*;generalize Sc.val ((bs.drop 10).take 4)=v10 at*;generalize bs.getD 15 0=m at*;generalize cap - 1=c1 at*;generalize cap - 4=c4 at*;generalize cap - 7=c7 at*;generalize cap - 10=c10 at*;have d2:=df ((n:Int)<16+(m:Int));have i0:(0:Int)<(n:Int):=og;have i14:(14:Int)<(n:Int):=og;have i15:(15:Int)<(n:Int):=og;have B0:=Blk.new w 30 (ecs zev);have hb1:=aa0 w (.cells (ecs zev) 30);have hs1:=aa1 w (.cells (ecs zev) 30);have hS1:=hS.held hb1;have k0:=held hb1 c0;have k14:=held hb1 c14;have k15:=held hb1 c15;unfold ecs zev at B0 hb1 hs1 hS1 k0 k14 k15;clear h hr' hl hm hcap h16 l3 c0 c14 c15 hS hpart;obtain ⟨G,hG⟩:∃ G,G=(Hid (∀ W,Sl W (some (Aa b off)) n cap bs->BytesAt W A' m part)):=⟨_,rfl⟩;have HBP:=Zq hbp;clear hbp hG G;go_enter Tryz.func120,Tryz.ntmps120;go_upto_region 1 with fail;generalize w.alloc _=w1 at*;have Y:=H4 B0 hb1 hs1 hS1;clear B0 hb1 hs1 hS1;go_upto_region 3 with fail;go_cut [4] from 5 (fun v u=>∃ g,v= Pt g/\w.heap.size<g/\Blk 30 u g (ecs PE)/\Blk 30 u w.heap.size (ecs zev)/\Bw w u)
 case first=>
  have q0:w1.drew.cell? (Aa b off)=some (Yy (x0:Nat)):=k0;have q14:w1.drew.cell? (Aa b (off+14))=some (Yy (x14:Nat)):=k14;have q15:w1.drew.cell? (Aa b (off+15))=some (Yy (m:Nat)):=k15;have hSd:Sl w1.drew (some (Aa b off)) n cap bs:=⟨Y.out.2.2.2.bytes,Y.out.2.2.2.cap,Y.out.2.2.2.plain⟩;have hBd:=aa0 w1.drew (.cells (ecs zev) 30);have hSa:=hSd.held hBd;have a0:=held hBd q0;have a14:=held hBd q14;have a15:=held hBd q15;unfold ecs zev at hBd hSa a0 a14 a15;have P1:=H2 hSd hSa;have P2:=H5 (And.intro q0 (And.intro q14 (And.intro q15 (HBP.out _ hSd)))) a0 a14 a15 (HBP.out _ hSa);have X1:=G1 _ hSd;have X4:=G4 _ hSd;have X7:=G7 _ hSd;have X10:=G10 _ hSd;have U1:=G1 _ hSa;have U4:=G4 _ hSa;have U7:=G7 _ hSa;have U10:=G10 _ hSa;have hbE:=aa0 w1 (.cells #[I (x0:Nat),I (v1:Nat),I (v4:Nat),I (v7:Nat),U (v10:Nat),I (x14:Nat),Ss ⟨(toU part).toArray⟩] 30);have P3:=Zq (And.intro (show (w1.alloc (.cells #[I (x0:Nat),I (v1:Nat),I (v4:Nat),I (v7:Nat),U (v10:Nat),I (x14:Nat),Ss ⟨(toU part).toArray⟩] 30)).drew.cell? (Aa b off)=some (Yy (x0:Nat)) from held hbE k0) (And.intro (show (w1.alloc (.cells #[I (x0:Nat),I (v1:Nat),I (v4:Nat),I (v7:Nat),U (v10:Nat),I (x14:Nat),Ss ⟨(toU part).toArray⟩] 30)).drew.cell? (Aa b (off+14))=some (Yy (x14:Nat)) from held hbE k14) (And.intro (show (w1.alloc (.cells #[I (x0:Nat),I (v1:Nat),I (v4:Nat),I (v7:Nat),U (v10:Nat),I (x14:Nat),Ss ⟨(toU part).toArray⟩] 30)).drew.cell? (Aa b (off+15))=some (Yy (m:Nat)) from held hbE k15) (show BytesAt (w1.alloc (.cells #[I (x0:Nat),I (v1:Nat),I (v4:Nat),I (v7:Nat),U (v10:Nat),I (x14:Nat),Ss ⟨(toU part).toArray⟩] 30)).drew A' m part from (let t:=HBP.out _ (Y.out.2.2.2.held hbE); ⟨t.1,t.2.1,t.2.2.1,t.2.2.2⟩)))));have hR1:Blk 30 (w1.alloc (.cells #[I (x0:Nat),I (v1:Nat),I (v4:Nat),I (v7:Nat),U (v10:Nat),I (x14:Nat),Ss ⟨(toU part).toArray⟩] 30)) w1.heap.size (ecs PE):=by
   have t:=Blk.new w1 30 #[I (x0:Nat),I (v1:Nat),I (v4:Nat),I (v7:Nat),U (v10:Nat),I (x14:Nat),Ss ⟨(toU part).toArray⟩];rw [E.out];exact t
  have hR2:=Y.out.1.more (.cells #[I (x0:Nat),I (v1:Nat),I (v4:Nat),I (v7:Nat),U (v10:Nat),I (x14:Nat),Ss ⟨(toU part).toArray⟩] 30);have hR3:=(next Y.out.2.1 hbE).drew;have R:=Zq (And.intro (show w.heap.size<w1.heap.size by rw [Y.out.2.2.1]; omega) (And.intro hR1.drew (And.intro hR2.drew hR3)));clear hbE hR1 hR2 hR3;clear k0 k14 k15 hSd hSa hBd q0 q14 q15 a0 a14 a15 G1 G4 G7 G10 HBP;have cv:Hid (∀ (u:World),BytesAt u A' m part->(convert 45 9 (.slice A' m c')).run prog u= .ok (Ss ⟨(toU part).toArray⟩) u):=Zq (fun u hu=>as5 hu);refine wp_region_held_drew (S:=fun u=>(u.cell? (Aa b off)=some (Yy (x0:Nat))/\u.cell? (Aa b (off+14))=some (Yy (x14:Nat))/\u.cell? (Aa b (off+15))=some (Yy (m:Nat))/\BytesAt u A' m part)) kr P2.out.1 (fun hHeld=>?_);refine tk 0 (Mt b off n cap) rfl hHeld ?_;go_frame;refine aa6 (i:=1) (v:= Qt b off) rfl kr kr kr (fun _ _ _ h=>h) (.inl ⟨rfl,?_⟩) hHeld ?_
  ·(intro w hSw; go_simp; intro e0; omega)
  go_frame;refine tk 2 (Yy (x0:Nat)) rfl hHeld ?_;go_frame;refine aa6 (i:=3) (v:= I (x0:Nat)) rfl kr kr kr (fun _ _ _ h=>h) (.inl ⟨rfl,?_⟩) hHeld ?_
  ·(intro w hSw; go_simp; try exact wrap64 og)
  go_frame;refine tk 4 (Mt b off n cap) rfl hHeld ?_;go_frame;refine tk 5 (Mt b (off+1) 3 c1) rfl hHeld ?_;go_frame;refine tk 8 (Mt b off n cap) rfl hHeld ?_;go_frame;refine tk 9 (Mt b (off+4) 3 c4) rfl hHeld ?_;go_frame;refine tk 12 (Mt b off n cap) rfl hHeld ?_;go_frame;refine tk 13 (Mt b (off+7) 3 c7) rfl hHeld ?_;go_frame;refine tk 16 (Mt b off n cap) rfl hHeld ?_;go_frame;refine tk 17 (Mt b (off+10) 4 c10) rfl hHeld ?_;go_frame;refine tk 19 (Mt b off n cap) rfl hHeld ?_;go_frame;refine tk 20 (Qt b (off+14)) rfl hHeld ?_;go_frame;refine tk 21 (Yy (x14:Nat)) rfl hHeld ?_;go_frame;refine aa6 (i:=22) (v:= I (x14:Nat)) rfl kr kr kr (fun _ _ _ h=>h) (.inl ⟨rfl,?_⟩) hHeld ?_
  ·(intro w hSw; go_simp; try exact wrap64 og)
  go_frame;refine tk 24 (Mt b off n cap) rfl hHeld ?_;go_frame;refine tk 25 (Mt b off n cap) rfl hHeld ?_;go_frame;refine tk 26 (Qt b (off+15)) rfl hHeld ?_;go_frame;refine tk 27 (Yy (m:Nat)) rfl hHeld ?_;go_frame;refine aa6 (i:=28) (v:= I (m:Nat)) rfl kr kr kr (fun _ _ _ h=>h) (.inl ⟨rfl,?_⟩) hHeld ?_
  ·(intro w hSw; go_simp; try exact wrap64 og)
  go_frame;refine aa6 (i:=29) (v:= I (16+(m:Int))) rfl kr kr kr (fun _ _ _ h=>h) (.inl ⟨rfl,?_⟩) hHeld ?_
  ·(intro w hSw; go_simp; try exact wrap64b og)
  go_frame;refine tk 30 (.slice A' m c') rfl hHeld ?_;go_frame;refine aa6 (i:=31) (v:= Ss ⟨(toU part).toArray⟩) rfl kr kr kr (fun _ _ _ h=>h) (.inl ⟨rfl,?_⟩) hHeld ?_
  ·(intro w hSw; have hcv:=cv.out w hSw.2.2.2; go_simp)
  go_frame;clear s1 s4 s7 s10 hA';refine ad8 (i:=6) (i':=33) rfl rfl kr (fun K hK=>?_) (fun K hK=>?_)
  ·go_simp
   refine X1.mono ?_;rintro e u ⟨rfl,rfl⟩;refine hK.out _ _ P2.out.1 (fun hHeld=>?_);clear hK K;try go_frame
   refine aa6 (i:=7) (v:= I (v1:Nat)) rfl kr kr kr (fun _ _ _ h=>h) (.inl ⟨rfl,?_⟩) hHeld ?_
   ·(intro w hSw; go_simp; try exact wrap64 og)
   go_frame;refine ad8 (i:=10) (i':=33) rfl rfl kr (fun K hK=>?_) (fun K hK=>?_)
   ·go_simp
    refine X4.mono ?_;rintro e u ⟨rfl,rfl⟩;refine hK.out _ _ P2.out.1 (fun hHeld=>?_);clear hK K;try go_frame
    refine aa6 (i:=11) (v:= I (v4:Nat)) rfl kr kr kr (fun _ _ _ h=>h) (.inl ⟨rfl,?_⟩) hHeld ?_
    ·(intro w hSw; go_simp; try exact wrap64 og)
    go_frame;refine ad8 (i:=14) (i':=33) rfl rfl kr (fun K hK=>?_) (fun K hK=>?_)
    ·go_simp
     refine X7.mono ?_;rintro e u ⟨rfl,rfl⟩;refine hK.out _ _ P2.out.1 (fun hHeld=>?_);clear hK K;try go_frame
     refine aa6 (i:=15) (v:= I (v7:Nat)) rfl kr kr kr (fun _ _ _ h=>h) (.inl ⟨rfl,?_⟩) hHeld ?_
     ·(intro w hSw; go_simp; try exact wrap64 og)
     go_frame;refine ad8 (i:=18) (i':=33) rfl rfl kr (fun K hK=>?_) (fun K hK=>?_)
     ·go_simp
      refine X10.mono ?_;rintro e u ⟨rfl,rfl⟩;refine hK.out _ _ P2.out.1 (fun hHeld=>?_);clear hK K;try go_frame
      refine tk 23 (.agg #[U (v10:Nat),I (x14:Nat)]) rfl hHeld ?_;go_frame;refine tk 32 (.agg #[I (x0:Nat),I (v1:Nat),I (v4:Nat),I (v7:Nat),U (v10:Nat),I (x14:Nat),Ss ⟨(toU part).toArray⟩]) rfl hHeld ?_;go_frame;refine rl 33 rfl fun K hK=>?_
      go_simp;refine hK.out _ _ P2.out.2 (fun hHeld=>?_);clear hK K;try go_frame
      refine rl 34 rfl fun K hK=>?_
      go_simp;refine hK.out _ _ P3.out (fun hHeld=>?_);clear hK K;refine wpAnyH_done kr ?_ _;try go_frame
      go_wp2_with fail;go_meet
      case rel=>exact ⟨_,rfl,R.out.1,R.out.2.1,R.out.2.2.1,R.out.2.2.2⟩
     ·go_simp
      refine hK.out _ _ P2.out.2 (fun hHeld=>?_);clear hK K;try go_frame
      refine rl 18 rfl fun K hK=>?_
      go_simp;refine U10.mono ?_;rintro e u ⟨rfl,rfl⟩;refine hK.out _ _ P2.out.2 (fun hHeld=>?_);clear hK K;try go_frame
      refine tk 23 (.agg #[U (v10:Nat),I (x14:Nat)]) rfl hHeld ?_;go_frame;refine tk 32 (.agg #[I (x0:Nat),I (v1:Nat),I (v4:Nat),I (v7:Nat),U (v10:Nat),I (x14:Nat),Ss ⟨(toU part).toArray⟩]) rfl hHeld ?_;go_frame;refine rl 34 rfl fun K hK=>?_
      go_simp;refine hK.out _ _ P3.out (fun hHeld=>?_);clear hK K;refine wpAnyH_done kr ?_ _;try go_frame
      go_wp2_with fail;go_meet
      case rel=>exact ⟨_,rfl,R.out.1,R.out.2.1,R.out.2.2.1,R.out.2.2.2⟩
    ·go_simp
     refine hK.out _ _ P2.out.2 (fun hHeld=>?_);clear hK K;try go_frame
     refine rl 14 rfl fun K hK=>?_
     go_simp;refine U7.mono ?_;rintro e u ⟨rfl,rfl⟩;refine hK.out _ _ P2.out.2 (fun hHeld=>?_);clear hK K;try go_frame
     refine aa6 (i:=15) (v:= I (v7:Nat)) rfl kr kr kr (fun _ _ _ h=>h) (.inl ⟨rfl,?_⟩) hHeld ?_
     ·(intro w hSw; go_simp; try exact wrap64 og)
     go_frame;refine rl 18 rfl fun K hK=>?_
     go_simp;refine U10.mono ?_;rintro e u ⟨rfl,rfl⟩;refine hK.out _ _ P2.out.2 (fun hHeld=>?_);clear hK K;try go_frame
     refine tk 23 (.agg #[U (v10:Nat),I (x14:Nat)]) rfl hHeld ?_;go_frame;refine tk 32 (.agg #[I (x0:Nat),I (v1:Nat),I (v4:Nat),I (v7:Nat),U (v10:Nat),I (x14:Nat),Ss ⟨(toU part).toArray⟩]) rfl hHeld ?_;go_frame;refine rl 34 rfl fun K hK=>?_
     go_simp;refine hK.out _ _ P3.out (fun hHeld=>?_);clear hK K;refine wpAnyH_done kr ?_ _;try go_frame
     go_wp2_with fail;go_meet
     case rel=>exact ⟨_,rfl,R.out.1,R.out.2.1,R.out.2.2.1,R.out.2.2.2⟩
   ·go_simp
    refine hK.out _ _ P2.out.2 (fun hHeld=>?_);clear hK K;try go_frame
    refine rl 10 rfl fun K hK=>?_
    go_simp;refine U4.mono ?_;rintro e u ⟨rfl,rfl⟩;refine hK.out _ _ P2.out.2 (fun hHeld=>?_);clear hK K;try go_frame
    refine aa6 (i:=11) (v:= I (v4:Nat)) rfl kr kr kr (fun _ _ _ h=>h) (.inl ⟨rfl,?_⟩) hHeld ?_
    ·(intro w hSw; go_simp; try exact wrap64 og)
    go_frame;refine rl 14 rfl fun K hK=>?_
    go_simp;refine U7.mono ?_;rintro e u ⟨rfl,rfl⟩;refine hK.out _ _ P2.out.2 (fun hHeld=>?_);clear hK K;try go_frame
    refine aa6 (i:=15) (v:= I (v7:Nat)) rfl kr kr kr (fun _ _ _ h=>h) (.inl ⟨rfl,?_⟩) hHeld ?_
    ·(intro w hSw; go_simp; try exact wrap64 og)
    go_frame;refine rl 18 rfl fun K hK=>?_
    go_simp;refine U10.mono ?_;rintro e u ⟨rfl,rfl⟩;refine hK.out _ _ P2.out.2 (fun hHeld=>?_);clear hK K;try go_frame
    refine tk 23 (.agg #[U (v10:Nat),I (x14:Nat)]) rfl hHeld ?_;go_frame;refine tk 32 (.agg #[I (x0:Nat),I (v1:Nat),I (v4:Nat),I (v7:Nat),U (v10:Nat),I (x14:Nat),Ss ⟨(toU part).toArray⟩]) rfl hHeld ?_;go_frame;refine rl 34 rfl fun K hK=>?_
    go_simp;refine hK.out _ _ P3.out (fun hHeld=>?_);clear hK K;refine wpAnyH_done kr ?_ _;try go_frame
    go_wp2_with fail;go_meet
    case rel=>exact ⟨_,rfl,R.out.1,R.out.2.1,R.out.2.2.1,R.out.2.2.2⟩
  ·go_simp
   refine hK.out _ _ P2.out.2 (fun hHeld=>?_);clear hK K;try go_frame
   refine rl 6 rfl fun K hK=>?_
   go_simp;refine U1.mono ?_;rintro e u ⟨rfl,rfl⟩;refine hK.out _ _ P2.out.2 (fun hHeld=>?_);clear hK K;try go_frame
   refine aa6 (i:=7) (v:= I (v1:Nat)) rfl kr kr kr (fun _ _ _ h=>h) (.inl ⟨rfl,?_⟩) hHeld ?_
   ·(intro w hSw; go_simp; try exact wrap64 og)
   go_frame;refine rl 10 rfl fun K hK=>?_
   go_simp;refine U4.mono ?_;rintro e u ⟨rfl,rfl⟩;refine hK.out _ _ P2.out.2 (fun hHeld=>?_);clear hK K;try go_frame
   refine aa6 (i:=11) (v:= I (v4:Nat)) rfl kr kr kr (fun _ _ _ h=>h) (.inl ⟨rfl,?_⟩) hHeld ?_
   ·(intro w hSw; go_simp; try exact wrap64 og)
   go_frame;refine rl 14 rfl fun K hK=>?_
   go_simp;refine U7.mono ?_;rintro e u ⟨rfl,rfl⟩;refine hK.out _ _ P2.out.2 (fun hHeld=>?_);clear hK K;try go_frame
   refine aa6 (i:=15) (v:= I (v7:Nat)) rfl kr kr kr (fun _ _ _ h=>h) (.inl ⟨rfl,?_⟩) hHeld ?_
   ·(intro w hSw; go_simp; try exact wrap64 og)
   go_frame;refine rl 18 rfl fun K hK=>?_
   go_simp;refine U10.mono ?_;rintro e u ⟨rfl,rfl⟩;refine hK.out _ _ P2.out.2 (fun hHeld=>?_);clear hK K;try go_frame
   refine tk 23 (.agg #[U (v10:Nat),I (x14:Nat)]) rfl hHeld ?_;go_frame;refine tk 32 (.agg #[I (x0:Nat),I (v1:Nat),I (v4:Nat),I (v7:Nat),U (v10:Nat),I (x14:Nat),Ss ⟨(toU part).toArray⟩]) rfl hHeld ?_;go_frame;refine rl 34 rfl fun K hK=>?_
   go_simp;refine hK.out _ _ P3.out (fun hHeld=>?_);clear hK K;refine wpAnyH_done kr ?_ _;try go_frame
   go_wp2_with fail;go_meet
   case rel=>exact ⟨_,rfl,R.out.1,R.out.2.1,R.out.2.2.1,R.out.2.2.2⟩
 case rest=>
  clear Y E HBP G1 G4 G7 G10 s1 s4 s7 s10 hA' k0 k14 k15;obtain ⟨g,rfl,hlt,hg,hz,hb⟩:=hcut;have HR:∀ u:World,Q 64 #[.agg (ecs PE)] u (Rr0 u (O r)):=fun u=>eright_eq hfit XR.out.1 u
  have HE:Hid (∀ u,Blk 30 u g (ecs PE)->u.cell? (Aa g 0)=some (I PE.kind)/\u.cell? (Aa g 1)=some (I PE.i)/\u.cell? (Aa g 2)=some (I PE.k)/\u.cell? (Aa g 3)=some (I PE.n)/\u.cell? (Aa g 4)=some (U (PE.a:Nat))/\u.cell? (Aa g 5)=some (I PE.len)/\u.cell? (Aa g 6)=some (Ss ⟨PE.p.toArray⟩)):=Zq (fun u h=>⟨h.at_ 0,h.at_ 1,h.at_ 2,h.at_ 3,h.at_ 4,h.at_ 5,h.at_ 6⟩);have hX2:X=#[I PE.kind,I PE.i,I PE.k,I PE.n,U (PE.a:Nat),I PE.len,Ss ⟨PE.p.toArray⟩]:=XR.out.2;rw [<- XR.out.2,hX2] at HR;have XH:=Zq XR.out.2;have XH2:=Zq hX2;clear hX2 XR;go_upto_region 4 with fail;have p0:=HE.out _ hg.drew;have Z:=H4 hlt hg hz hb;clear hg hz hb hlt hfit hPE;generalize PE.kind=y0 at*;generalize PE.i=y1 at*;generalize PE.k=y2 at*;generalize PE.n=y3 at*;generalize PE.a=y4 at*;generalize PE.len=y5 at*;generalize (⟨PE.p.toArray⟩:ByteArray)=y6 at*;refine wp_region_held_drew (S:=fun u=>(u.cell? (Aa g 0)=some (I y0)/\u.cell? (Aa g 1)=some (I y1)/\u.cell? (Aa g 2)=some (I y2)/\u.cell? (Aa g 3)=some (I y3)/\u.cell? (Aa g 4)=some (U (y4:Nat))/\u.cell? (Aa g 5)=some (I y5)/\u.cell? (Aa g 6)=some (Ss y6))) kr p0 (fun hHeld=>?_);refine tk 0 (.agg #[I y0,I y1,I y2,I y3,U (y4:Nat),I y5,Ss y6]) rfl hHeld ?_;go_frame;refine tk 1 (.agg #[I y0,I y1,I y2,I y3,U (y4:Nat),I y5,Ss y6]) rfl hHeld ?_;go_frame;refine rl 2 rfl fun K hK=>?_
  go_simp;refine (HR _).mono ?_;rintro e w5 ⟨rfl,hb5⟩;have hg5:=(show Blk 30 wc.drew g _ from Z.out.2.1.drew).held hb5;have hz5:=(show Blk 30 wc.drew w.heap.size _ from Z.out.2.2.1.drew).held hb5;have hbb:=next Z.out.2.2.2.drew hb5;refine hK.out _ _ (HE.out _ hg5) (fun hHeld=>?_);clear hK K p0;try go_frame
  refine rl 3 rfl fun K hK=>?_
  rw [if_pos (by rfl)];refine wp_store_mid _ _ _ rfl _ _ #[I y0,I y1,I y2,I y3,U (y4:Nat),I y5,Ss y6] rfl rfl hz5.ev_there7 (by show _=some 7; kernel_rfl) (by simp [Value.oneCell']) ?_;have hT6:Turn [w.heap.size] w5 (w5.setCells w.heap.size 0 [I y0,I y1,I y2,I y3,U (y4:Nat),I y5,Ss y6]):=Turn.setCells w5 sn _ _;have hg6:=hg5.turn hT6 (by simp; have:=Z.out.1; omega);have hz6:Blk 30 (w5.setCells w.heap.size 0 [I y0,I y1,I y2,I y3,U (y4:Nat),I y5,Ss y6]) w.heap.size X:=by
   have:=hz5.setCells [I y0,I y1,I y2,I y3,U (y4:Nat),I y5,Ss y6] 0;rw [XH2.out];exact this
  have hb6:=hbb.trans (hT6.below (B:=w.heap.size) sn hbb.size);have p6:=HE.out _ hg6;refine hK.out _ _ p6 (fun hHeld=>?_);clear hK K;try go_frame
  have F:=H2 hz6 hb6;clear hg5 hz5 hbb hT6 hg6 hz6 hb6 HR HE hb5;refine rl 4 rfl fun K hK=>?_
  go_simp;refine hK.out _ _ p6 (fun hHeld=>?_);clear hK K hHeld p6;refine wpAnyH_done kr ?_ _;try go_frame
  go_wp2_with fail;refine bodyPost_ret (v:= .tuple #[.agg X,O r]) ?_ rfl ⟨rfl,F.out.2⟩;rw [XH.out];exact ax4 rfl rfl rfl (by rw [<- XH.out]; exact F.out.1)
theorem ck5 (h:Sl w A n cap bs):
  Q 120 #[.slice A n cap] w (Rr0 w (.tuple #[.agg (ecs (Sc.fst bs)),O (first bs)])):=by
 unfold Sc.fst first
 cases hr:room bs
 ·exact bn1 h hr
 ·exact by4 h hr
end
end Go.Proofs.YtafkfnodcemefaaGreat.Sp
