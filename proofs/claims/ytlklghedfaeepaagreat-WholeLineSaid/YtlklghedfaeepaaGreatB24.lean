import Derived.Test.YtlklghedfaeepaaGreatB22
import Derived.Test.YtlklghedfaeepaaGreatB23
import Derived.Deep.DeepCutAuto
import Derived.Lib.AppendZeros
set_option maxHeartbeats 8000000
set_option maxRecDepth 100000
namespace Go.Proofs.YtlklghedfaeepaaGreat.Sp
open _root_.Go.Proofs.Tryz (prog)
section
open Go.RowKit Go.Maps Sc
theorem by7 (e:Ev) (ha:e.a<4294967296) (w:World):
  Calls prog 83 #[.agg (ecs e)] w fun x w'=>x= .returned (.bool (right e))/\Below w.heap.size w w':=by
 have hs:(⟨e.p.toArray⟩:ByteArray).size=e.p.length:=ba0 e.p;have e7:decide (((⟨e.p.toArray⟩:ByteArray).size:Int)<=240)=decide (e.p.length<=240):=by rw [hs,decide_eq_decide]; omega
 have e8:((((⟨e.p.toArray⟩:ByteArray).size:Int) % 6)==0)=decide (e.p.length % 6=0):=by rw [hs,Bool.eq_iff_iff,beq_iff_eq,decide_eq_true_eq]; omega
 unfold right
 cases h0:decide (0<=e.kind)
 ·exact ce8 e _ rfl (.inl h0) w
 cases h1:decide (e.kind<=10)
 ·exact ce8 e _ rfl (.inr ⟨h0,h1⟩) w
 cases h2:bare e
 ·exact da7 e _ rfl h0 h1 h2 w
 cases h3:small e.i
 ·exact bl1 e _ rfl h0 h1 h2 (.inl h3) w
 cases h4:small e.k
 ·exact bl1 e _ rfl h0 h1 h2 (.inr ⟨h3,.inl h4⟩) w
 cases h5:small e.n
 ·exact bl1 e _ rfl h0 h1 h2 (.inr ⟨h3,.inr ⟨h4,h5⟩⟩) w
 cases h6:Am.right e.a e.len
 ·exact bl0 e _ rfl h0 h1 h2 h3 h4 h5 ha _ (.inl ⟨h6,rfl⟩) w
 cases h7:decide (e.p.length<=240)
 ·exact bl0 e _ rfl h0 h1 h2 h3 h4 h5 ha _ (.inr ⟨h6,.inl ⟨e7.trans h7,rfl⟩⟩) w
 ·exact bl0 e _ rfl h0 h1 h2 h3 h4 h5 ha _ (.inr ⟨h6,.inr ⟨e7.trans h7,e8⟩⟩) w
theorem eright_eq {e:Ev} {r:Bool} (ha:e.a<4294967296) (h:right e=r) (w:World):Calls prog 83 #[.agg (ecs e)] w fun x w'=>x= .returned (.bool r)/\Below w.heap.size w w':=h ▸ by7 e ha w
end
end Go.Proofs.YtlklghedfaeepaaGreat.Sp
namespace Go.Proofs.YtlklghedfaeepaaGreat.Sp
open _root_.Go.Proofs.Tryz (prog)
open Go.RowKit Go.Maps Sc
theorem db7 {e:Ev} (h:right e=true):∃ kd i k n l:Nat,e.kind=kd/\e.i=i/\e.k=k/\e.n=n/\e.len=l/\kd<=10/\i<=65536/\k<=65536/\n<=65536/\l<=32/\e.p.length<=240:=by
 have O:=bq6 h;have:=O.kind1; have:=O.kind2; have:=O.i1; have:=O.i2; have:=O.k1; have:=O.k2; have:=O.n1; have:=O.n2; have:=O.len1; have:=O.len2; have:=O.few;exact ⟨e.kind.toNat,e.i.toNat,e.k.toNat,e.n.toNat,e.len.toNat,by omega,by omega,by omega,by omega,by omega,by omega,by omega,by omega,by omega,by omega,by omega⟩
theorem Ob.of_blk {W:World} {B g:Nat} {bs:List Nat} (h:Blk 5 W g (cls bs)) (hB:B<=g) (hl:bs.length<=5000) {n:Nat} (hn:n=bs.length):Ob B (.slice (some ⟨g,0,none⟩) n n) bs W:=by
 subst hn;exact ⟨by rw [ae8]; simp,.inr ⟨g,bs.length,cls bs,rfl,hB,h,Nat.le_refl _,aa5 hl,by simp [cls],by rw [ae8]; simp [cls,List.take_of_length_le]⟩⟩
theorem bn5 (A:Option Addr) (n cap k:Nat) (hk:k<=n) (hcap:n<=cap) (w:World) {z:Int} (hz:z=k) {A':Option Addr} (hA:A'=if cap=k then A else A.map (·.add k)) {m c:Nat} (hm:m=n - k) (hc:c=cap - k):
  (Instr.slice 49 (.slice A n cap) (some (.int .i64 z)) none none).run prog w= .ok (.slice A' m c) w:=by
 subst hA hm hc;have d1:(k:Int)<=(n:Int):=by omega
 subst hz;by_cases e:cap=k
 ·rw [if_pos e]; subst e; go_simp
 ·rw [if_neg e]; go_simp
theorem al5 (b off n cap k l:Nat) (hk:k<l) (hl:l<=cap) (w:World) {z y:Int} (hz:z=k) (hy:y=l) {o' m c:Nat} (ho:o'=off+k) (hm:m=l - k) (hc:c=cap - k):
  (Instr.slice 49 (.slice (some ⟨b,off,none⟩) n cap) (some (.int .i64 z)) (some (.int .i64 y)) none).run prog w= .ok (.slice (some ⟨b,o',none⟩) m c) w:=by
 subst hm hc ho;have d1:(k:Int)<=(l:Int):=by omega
 have d2:(l:Int)<=(cap:Int):=by omega
 have d3:¬ cap=k:=by omega
 subst hz hy;go_simp
theorem wrap64b {m:Nat} (h:m<256):IntKind.i64.wrap (16+(m:Int))=16+m:=by rw [IntKind.wrap_i64]; omega
theorem wrap32 {x:Nat} (h:x<4294967296):IntKind.u32.wrap (x:Int)=x:=by simp [IntKind.wrap,IntKind.bits,IntKind.signed]; omega
theorem ai0 (l:List Nat) (i v:Nat):(cls l).setIfInBounds i (cell v)=cls (l.set i v):=by simp [cls,List.map_set]
theorem _root_.Go.Proofs.YtlklghedfaeepaaGreat.Blk.bset {w:World} {g:Nat} {l:List Nat} (h:Blk 5 w g (cls l)) (i v:Nat):Blk 5 (w.setCell ⟨g,i,none⟩ (cell v)) g (cls (l.set i v)):=by
 rw [<- ai0]; exact h.store i (cell v)
theorem cf4 (g off cap v:Nat) (hv:v<16777216) (l:List Nat) (w:World) (h:Blk 5 w g (cls l)) (hs:off+3<=l.length):
  Calls prog 55 #[.slice (some ⟨g,off,none⟩) 3 cap,.int .u32 v] w fun e w'=>e= .returned (.tuple #[])/\Blk 5 w' g (cls (((l.set off (v / 65536 % 256)).set (off+1) (v / 256 % 256)).set (off+2) (v % 256)))/\Turn [g] w w':=by
 refine (cf3 g off cap v hv (cls l) w h (by simpa [cls] using hs)).mono ?_;rintro e w' ⟨rfl,rfl⟩;exact ⟨rfl,((h.bset _ _).bset _ _).bset _ _,((Turn.setCell _ (by simp) _).trans (Turn.setCell _ (by simp) _)).trans (Turn.setCell _ (by simp) _)⟩
theorem put_l2 (g off cap v:Nat) (hv:v<65536) (l:List Nat) (w:World) (h:Blk 5 w g (cls l)) (hs:off+2<=l.length):
  Calls prog 55 #[.slice (some ⟨g,off,none⟩) 2 cap,.int .u32 v] w fun e w'=>e= .returned (.tuple #[])/\Blk 5 w' g (cls ((l.set off (v / 256 % 256)).set (off+1) (v % 256)))/\Turn [g] w w':=by
 refine (au7 g off cap v hv (cls l) w h (by simpa [cls] using hs)).mono ?_;rintro e w' ⟨rfl,rfl⟩;exact ⟨rfl,(h.bset _ _).bset _ _,(Turn.setCell _ (by simp) _).trans (Turn.setCell _ (by simp) _)⟩
theorem put_l4 (g off cap v:Nat) (hv:v<4294967296) (l:List Nat) (w:World) (h:Blk 5 w g (cls l)) (hs:off+4<=l.length):
  Calls prog 55 #[.slice (some ⟨g,off,none⟩) 4 cap,.int .u32 v] w fun e w'=>e= .returned (.tuple #[])/\Blk 5 w' g (cls ((((l.set off (v / 16777216 % 256)).set (off+1) (v / 65536 % 256)).set (off+2) (v / 256 % 256)).set (off+3) (v % 256)))/\Turn [g] w w':=by
 refine (an5 g off cap v hv (cls l) w h (by simpa [cls] using hs)).mono ?_;rintro e w' ⟨rfl,rfl⟩;exact ⟨rfl,(((h.bset _ _).bset _ _).bset _ _).bset _ _,(((Turn.setCell _ (by simp) _).trans (Turn.setCell _ (by simp) _)).trans (Turn.setCell _ (by simp) _)).trans (Turn.setCell _ (by simp) _)⟩
def z16:List Nat:=List.replicate 16 0
theorem make16 (w:World):(Instr.makeSlice 49 (.int .i64 16) (.int .i64 16)).run prog w= .ok (.slice (some ⟨w.heap.size,0,none⟩) 16 16) (w.alloc (.cells (cls z16) 5)):=by kernel_rfl
theorem bz5 {e:Ev} (h:right e=true) (ha:e.a<4294967296) (w:World):
  Calls prog 56 #[.agg (ecs e)] w fun x w'=>∃ g cap q,x= .returned (.slice (some ⟨g,0,none⟩) q cap)/\q=(ebytes e).length/\Ob w.heap.size (.slice (some ⟨g,0,none⟩) q cap) (ebytes e) w'/\Below w.heap.size w w':=by
 obtain ⟨kd,i,k,n,l,e0,e1,e2,e3,e4,h0,h1,h2,h3,h4,h5⟩:=db7 h;obtain ⟨kind,ii,kk,nn,a,ll,p⟩:=e;simp only at e0 e1 e2 e3 e4 h5 ha;subst e0 e1 e2 e3 e4;obtain ⟨s,hs⟩:∃ s:ByteArray,s=⟨p.toArray⟩:=⟨_,rfl⟩;obtain ⟨X,hX⟩:∃ X,X=ecs ⟨kd,i,k,n,a,l,p⟩:=⟨_,rfl⟩;have hX2:X=#[.int .i64 (kd:Int),.int .i64 (i:Int),.int .i64 (k:Int),.int .i64 (n:Int),.int .u32 (a:Int),.int .i64 (l:Int),.string s]:=by rw [hX,hs]; rfl
 obtain ⟨m,hm⟩:∃ m,m=p.length:=⟨_,rfl⟩;have hsz:s.size=m:=by rw [hs,hm]; exact ba0 p
 rw [<- hm] at h5;have EB:Hid (ebytes ⟨kd,i,k,n,a,l,p⟩=[kd % 256,i / 65536 % 256,i / 256 % 256,i % 256,k / 65536 % 256,k / 256 % 256,k % 256,n / 65536 % 256,n / 256 % 256,n % 256,a / 16777216 % 256,a / 65536 % 256,a / 256 % 256,a % 256,l % 256,m % 256]++Sc.nats p):=Lib.hid (by rw [hm]; rfl);have HS:=H3 hs hm hsz;rw [<- hX,hX2];clear h hX hX2 hs hm X;go_enter Tryz.func56,Tryz.ntmps56;have mk:=make16;go_upto_region 2 with fail;obtain ⟨hb1,BE⟩:=nw w 65 #[.int .i64 (kd:Int),.int .i64 (i:Int),.int .i64 (k:Int),.int .i64 (n:Int),.int .u32 (a:Int),.int .i64 (l:Int),.string s];have hs1:=aa1 w (.cells #[.int .i64 (kd:Int),.int .i64 (i:Int),.int .i64 (k:Int),.int .i64 (n:Int),.int .u32 (a:Int),.int .i64 (l:Int),.string s] 65);generalize w.alloc _=w1 at*;have BG:=Blk.new w1 5 (cls z16);have BE2:=BE.more (.cells (cls z16) 5);have hb2:=next hb1 (aa0 w1 (.cells (cls z16) 5));rw [hs1] at BG;generalize w1.alloc _=w2 at*;have c0:w2.cell? ⟨w.heap.size,0,none⟩=some (.int .i64 (kd:Int)):=BE2.at_ 0;have g0:w2.cell? ⟨w.heap.size+1,0,none⟩=some (.int .u8 0):=BG.at_ 0;have f0:=BG.free 0;have Y2:=H3 BE2 BG hb2;clear BE hb1 hs1 BG BE2 hb2 mk;go_upto_region 3 with fail;have BE3:=Y2.out.1.away (p:=⟨w.heap.size+1,0,none⟩) (by show ¬ w.heap.size=w.heap.size+1; omega) (cell kd);have BG3:=Y2.out.2.1.bset 0 kd;have hb3:=Y2.out.2.2.setCell (p:=⟨w.heap.size+1,0,none⟩) (by show w.heap.size<=w.heap.size+1; omega) (cell kd);unfold cell at BE3 BG3 hb3;generalize w2.setCell ⟨w.heap.size+1,0,none⟩ (.int .u8 (kd:Int))=w3 at*;obtain ⟨l3,hl3⟩:∃ l3,l3=z16.set 0 kd:=⟨_,rfl⟩;rw [<- hl3] at BG3;have hn3:l3.length=16:=by rw [hl3]; rfl
 clear c0 g0 f0 Y2;have d3:w3.drew.cell? ⟨w.heap.size,1,none⟩=some (.int .i64 (i:Int)):=BE3.at_ 1;have HP3:=cf4 (w.heap.size+1) 1 15 i (by omega) l3 w3.drew BG3.drew (by omega);have Y3:=H4 BE3 hb3 hl3 hn3;clear BE3 BG3 hb3 hl3 hn3;refine wp_region_held_drew (S:=fun u=>u.cell? ⟨w.heap.size,1,none⟩=some (.int .i64 (i:Int))) (by kernel_rfl) d3 (fun hHeld=>?_);refine tk 0 (.slice (some ⟨w.heap.size+1,0,none⟩) 16 16) rfl hHeld ?_;go_frame;refine tk 1 (.slice (some ⟨w.heap.size+1,1,none⟩) 3 15) rfl hHeld ?_;go_frame;refine tk 2 (.pointer (some ⟨w.heap.size,1,none⟩)) rfl hHeld ?_;go_frame;refine tk 3 (.int .i64 (i:Int)) rfl hHeld ?_;go_frame;refine aa6 (i:=4) (v:= .int .u32 (i:Int)) rfl (by kernel_rfl) (by kernel_rfl) (by kernel_rfl) (fun _ _ _ h=>h) (.inl ⟨rfl,?_⟩) hHeld ?_
 ·(intro w hSw; go_simp; exact wrap32 (by omega))
 go_frame;refine rl 5 rfl fun K hK=>?_
 go_simp;refine HP3.mono ?_;rintro e w4 ⟨rfl,BG4,T4⟩;refine hK.out _ _ (T4.cell d3 (by simp)) (fun hHeld=>?_);have BE4:=Y3.out.1.drew.turn T4 (by simp);have hb4:=Y3.out.2.1.drew.trans (T4.below (B:=w.heap.size) (by simp) Y3.out.2.1.size);obtain ⟨l4,hl4⟩:∃ l4,l4=((l3.set 1 (i / 65536 % 256)).set 2 (i / 256 % 256)).set 3 (i % 256):=⟨_,rfl⟩;rw [<- hl4] at BG4;have hn4:l4.length=16:=by rw [hl4]; simpa using Y3.out.2.2.2
 rw [Y3.out.2.2.1] at hl4;clear hK K HP3 d3 T4 Y3 hHeld;refine wpAnyH_done (by kernel_rfl) ?_ _;try go_frame
 go_upto_region 4 with fail;have d4:w4.drew.cell? ⟨w.heap.size,2,none⟩=some (.int .i64 (k:Int)):=BE4.at_ 2;have HP4:=cf4 (w.heap.size+1) 4 12 k (by omega) l4 w4.drew BG4.drew (by omega);have Y4:=H4 BE4 hb4 hl4 hn4;clear BE4 BG4 hb4 hl4 hn4;refine wp_region_held_drew (S:=fun u=>u.cell? ⟨w.heap.size,2,none⟩=some (.int .i64 (k:Int))) (by kernel_rfl) d4 (fun hHeld=>?_);refine tk 0 (.slice (some ⟨w.heap.size+1,0,none⟩) 16 16) rfl hHeld ?_;go_frame;refine tk 1 (.slice (some ⟨w.heap.size+1,4,none⟩) 3 12) rfl hHeld ?_;go_frame;refine tk 2 (.pointer (some ⟨w.heap.size,2,none⟩)) rfl hHeld ?_;go_frame;refine tk 3 (.int .i64 (k:Int)) rfl hHeld ?_;go_frame;refine aa6 (i:=4) (v:= .int .u32 (k:Int)) rfl (by kernel_rfl) (by kernel_rfl) (by kernel_rfl) (fun _ _ _ h=>h) (.inl ⟨rfl,?_⟩) hHeld ?_
 ·(intro w hSw; go_simp; exact wrap32 (by omega))
 go_frame;refine rl 5 rfl fun K hK=>?_
 go_simp;refine HP4.mono ?_;rintro e w5 ⟨rfl,BG5,T5⟩;refine hK.out _ _ (T5.cell d4 (by simp)) (fun hHeld=>?_);have BE5:=Y4.out.1.drew.turn T5 (by simp);have hb5:=Y4.out.2.1.drew.trans (T5.below (B:=w.heap.size) (by simp) Y4.out.2.1.size);obtain ⟨l5,hl5⟩:∃ l5,l5=((l4.set 4 (k / 65536 % 256)).set 5 (k / 256 % 256)).set 6 (k % 256):=⟨_,rfl⟩;rw [<- hl5] at BG5;have hn5:l5.length=16:=by rw [hl5]; simpa using Y4.out.2.2.2
 rw [Y4.out.2.2.1] at hl5;clear hK K HP4 d4 T5 Y4 hHeld;refine wpAnyH_done (by kernel_rfl) ?_ _;try go_frame
 go_upto_region 5 with fail;have d5:w5.drew.cell? ⟨w.heap.size,3,none⟩=some (.int .i64 (n:Int)):=BE5.at_ 3;have HP5:=cf4 (w.heap.size+1) 7 9 n (by omega) l5 w5.drew BG5.drew (by omega);have Y5:=H4 BE5 hb5 hl5 hn5;clear BE5 BG5 hb5 hl5 hn5;refine wp_region_held_drew (S:=fun u=>u.cell? ⟨w.heap.size,3,none⟩=some (.int .i64 (n:Int))) (by kernel_rfl) d5 (fun hHeld=>?_);refine tk 0 (.slice (some ⟨w.heap.size+1,0,none⟩) 16 16) rfl hHeld ?_;go_frame;refine tk 1 (.slice (some ⟨w.heap.size+1,7,none⟩) 3 9) rfl hHeld ?_;go_frame;refine tk 2 (.pointer (some ⟨w.heap.size,3,none⟩)) rfl hHeld ?_;go_frame;refine tk 3 (.int .i64 (n:Int)) rfl hHeld ?_;go_frame;refine aa6 (i:=4) (v:= .int .u32 (n:Int)) rfl (by kernel_rfl) (by kernel_rfl) (by kernel_rfl) (fun _ _ _ h=>h) (.inl ⟨rfl,?_⟩) hHeld ?_
 ·(intro w hSw; go_simp; exact wrap32 (by omega))
 go_frame;refine rl 5 rfl fun K hK=>?_
 go_simp;refine HP5.mono ?_;rintro e w6 ⟨rfl,BG6,T6⟩;refine hK.out _ _ (T6.cell d5 (by simp)) (fun hHeld=>?_);have BE6:=Y5.out.1.drew.turn T6 (by simp);have hb6:=Y5.out.2.1.drew.trans (T6.below (B:=w.heap.size) (by simp) Y5.out.2.1.size);obtain ⟨l6,hl6⟩:∃ l6,l6=((l5.set 7 (n / 65536 % 256)).set 8 (n / 256 % 256)).set 9 (n % 256):=⟨_,rfl⟩;rw [<- hl6] at BG6;have hn6:l6.length=16:=by rw [hl6]; simpa using Y5.out.2.2.2
 rw [Y5.out.2.2.1] at hl6;clear hK K HP5 d5 T6 Y5 hHeld;refine wpAnyH_done (by kernel_rfl) ?_ _;try go_frame
 go_upto_region 6 with fail;have d6:w6.drew.cell? ⟨w.heap.size,4,none⟩=some (.int .u32 (a:Int)):=BE6.at_ 4;have HP6:=put_l4 (w.heap.size+1) 10 6 a (by omega) l6 w6.drew BG6.drew (by omega);have Y6:=H4 BE6 hb6 hl6 hn6;clear BE6 BG6 hb6 hl6 hn6;refine wp_region_held_drew (S:=fun u=>u.cell? ⟨w.heap.size,4,none⟩=some (.int .u32 (a:Int))) (by kernel_rfl) d6 (fun hHeld=>?_);refine tk 0 (.slice (some ⟨w.heap.size+1,0,none⟩) 16 16) rfl hHeld ?_;go_frame;refine tk 1 (.slice (some ⟨w.heap.size+1,10,none⟩) 4 6) rfl hHeld ?_;go_frame;refine tk 2 (.pointer (some ⟨w.heap.size,4,none⟩)) rfl hHeld ?_;go_frame;refine tk 3 (.pointer (some ⟨w.heap.size,4,none⟩)) rfl hHeld ?_;go_frame;refine tk 4 (.int .u32 (a:Int)) rfl hHeld ?_;go_frame;refine rl 5 rfl fun K hK=>?_
 go_simp;refine HP6.mono ?_;rintro e w7 ⟨rfl,BG7,T7⟩;refine hK.out _ _ (T7.cell d6 (by simp)) (fun hHeld=>?_);have BE7:=Y6.out.1.drew.turn T7 (by simp);have hb7:=Y6.out.2.1.drew.trans (T7.below (B:=w.heap.size) (by simp) Y6.out.2.1.size);obtain ⟨l7,hl7⟩:∃ l7,l7=(((l6.set 10 (a / 16777216 % 256)).set 11 (a / 65536 % 256)).set 12 (a / 256 % 256)).set 13 (a % 256):=⟨_,rfl⟩;rw [<- hl7] at BG7;have hn7:l7.length=16:=by rw [hl7]; simpa using Y6.out.2.2.2
 rw [Y6.out.2.2.1] at hl7;clear hK K HP6 d6 T7 Y6 hHeld;refine wpAnyH_done (by kernel_rfl) ?_ _;try go_frame
 go_upto_region 7 with fail;obtain ⟨y,hy⟩:∃ y:Nat,l7[14]?=some y:=⟨l7[14]'(by omega),by simp⟩;obtain ⟨y5,hy5⟩:∃ y:Nat,l7[15]?=some y:=⟨l7[15]'(by omega),by simp⟩;have c5:w7.cell? ⟨w.heap.size,5,none⟩=some (.int .i64 (l:Int)):=BE7.at_ 5;have g5:w7.cell? ⟨w.heap.size+1,14,none⟩=some (cell y):=(BG7.at_ 14).trans (by simp [cls,hy]);have f5:=BG7.free 14;have BE8:=BE7.away (p:=⟨w.heap.size+1,14,none⟩) (by show ¬ w.heap.size=w.heap.size+1; omega) (cell l);have BG8:=BG7.bset 14 l;have hb8:=hb7.setCell (p:=⟨w.heap.size+1,14,none⟩) (by show w.heap.size<=w.heap.size+1; omega) (cell l);unfold cell at BE8 BG8 hb8 g5;have Y7:=H6 BE8 BG8 hb8 hl7 hn7 hy5;clear BE7 BG7 hb7 hl7 hn7 hy hy5 BE8 BG8 hb8;go_upto_region 8 with fail;clear c5 g5 f5;generalize w7.setCell ⟨w.heap.size+1,14,none⟩ (.int .u8 (l:Int))=w8 at*;have c6:w8.cell? ⟨w.heap.size,6,none⟩=some (.string s):=Y7.out.1.at_ 6;have g6:w8.cell? ⟨w.heap.size+1,15,none⟩=some (cell y5):=(Y7.out.2.1.at_ 15).trans (by simp [cls,Y7.out.2.2.2.2.2]);have f6:=Y7.out.2.1.free 15;have BE9:=Y7.out.1.away (p:=⟨w.heap.size+1,15,none⟩) (by show ¬ w.heap.size=w.heap.size+1; omega) (cell m);have BG9:=Y7.out.2.1.bset 15 m;have hb9:=Y7.out.2.2.1.setCell (p:=⟨w.heap.size+1,15,none⟩) (by show w.heap.size<=w.heap.size+1; omega) (cell m);unfold cell at BE9 BG9 hb9 g6;have Y8:=H4 BE9 BG9 hb9 Y7.out.2.2.2;clear BE9 BG9 hb9 Y7;go_upto_region 9 with fail;clear c6 g6 f6;generalize w8.setCell ⟨w.heap.size+1,15,none⟩ (.int .u8 (m:Int))=w9 at*;have c7:w9.cell? ⟨w.heap.size,6,none⟩=some (.string s):=Y8.out.1.at_ 6;have hl:(l7.set 14 l).set 15 m=[kd,i / 65536 % 256,i / 256 % 256,i % 256,k / 65536 % 256,k / 256 % 256,k % 256,n / 65536 % 256,n / 256 % 256,n % 256,a / 16777216 % 256,a / 65536 % 256,a / 256 % 256,a % 256,l,m]:=by rw [Y8.out.2.2.2.1]; rfl
 have hE:=EB.out;rw [Nat.mod_eq_of_lt (show kd<256 by omega),Nat.mod_eq_of_lt (show l<256 by omega),Nat.mod_eq_of_lt (show m<256 by omega),<- hl] at hE;have hlen:((l7.set 14 l).set 15 m).length=16:=by simpa using Y8.out.2.2.2.2.1
 have BG:=Y8.out.2.1;generalize (l7.set 14 l).set 15 m=hd16 at*;obtain ⟨g,cap,w10,hrun,hO,hgr⟩:=(Ob.of_blk BG (B:=w.heap.size) (by omega) (by omega) hlen.symm).str Y8.out.2.2.1.size (by omega) p (by have:=HS.out.2.1; omega) 49;have hb10:=Y8.out.2.2.1.grown hgr Y8.out.2.2.1.size (fun kk e=>by simp [Value.ownBlock] at e; omega);obtain ⟨q,hq⟩:∃ q,q=hd16.length+p.length:=⟨_,rfl⟩;rw [<- hq] at hrun hO;rw [<- HS.out.1] at hrun;have Z:=H4 hE hq hO hb10;clear Y8 hl hE hlen BG hO hgr hb10 hq EB;go_wp2_with (first|(at_builtin; refine Lib.wpList_append_run _ rfl (.tmp 46) (.tmp 48) 49 9 rfl _ _ rfl rfl _ _ hrun ?_)|fail);go_ret;refine ⟨g,cap,q,rfl,?_,?_,Z.out.2.2.2⟩
 ·rw [Z.out.1,Z.out.2.1,List.length_append,Sc.nats_length]
 ·rw [Z.out.1]; exact Z.out.2.2.1
end Go.Proofs.YtlklghedfaeepaaGreat.Sp
set_option maxRecDepth 20000
namespace Go.Proofs.YtlklghedfaeepaaGreat.Sp
open _root_.Go.Proofs.Tryz (prog)
open Go.RowKit Go.Maps Sc
attribute [local go_sem] Oper.semAt_some
def _root_.Go.Proofs.YtlklghedfaeepaaGreat.Sc.zev:Ev:=⟨0,0,0,0,0,0,[]⟩
def _root_.Go.Proofs.YtlklghedfaeepaaGreat.Sc.fst (b:List Nat):Ev:=if room b then parse b else zev
theorem cu5 {b:List Nat} (h:room b=true):Sc.fst b=parse b:=by unfold Sc.fst; rw [if_pos h]
theorem _root_.Go.Proofs.YtlklghedfaeepaaGreat.Blk.ev_there {w:World} {g:Nat} {t:TypeId} {e:Ev} (h:Blk t w g (ecs e)):w.there g 0 (ecs e).size:=fun j hj=>by
 rw [Nat.zero_add];refine ⟨?_,h.free j⟩;rw [h.at_ j,Array.getElem?_eq_getElem hj];rfl
theorem _root_.Go.Proofs.YtlklghedfaeepaaGreat.Blk.ev_there7 {w:World} {g:Nat} {t:TypeId} {e:Ev} (h:Blk t w g (ecs e)):w.there g 0 7:=h.ev_there
theorem wrap64 {x:Nat} (h:x<4294967296):IntKind.i64.wrap (x:Int)=x:=by rw [IntKind.wrap_i64]; omega
theorem ax4 {fn:Func} {p u:Tmp} (h:fn.results=#[.cell p 65,.tmp u]) {tmps:Array Value} {w:World} {g:Nat} {e:Ev} {v:Value} (hp:tmps.getD p undef= .pointer (some ⟨g,0,none⟩)) (hu:tmps.getD u undef=v)
  (hb:Blk 65 w g (ecs e)):(results fn tmps).run prog w= .ok (.tuple #[.agg (ecs e),v]) w:=by
 obtain ⟨d,h1,h2⟩:∃ d,prog.underlying 65=some d/\d.isRow=true:=⟨_,rfl,rfl⟩;have hi:(prog.info? 65).map (·.size)=some (ecs e).size:=by show _=some 7; kernel_rfl
 rw [results_cell_tmp h,hp,hu];have hl:=run_loadVar_row (P:=prog) w g 65 65 _ (0,0) d hb h1 (by cases d<;>first|rfl|cases h2) hi;simp [asAddr,hl]
theorem bn1 {A:Option Addr} {n cap:Nat} {bs:List Nat} {w:World} (h:Sl w A n cap bs) (hr:room bs=false):
  Calls prog 113 #[.slice A n cap] w fun x w'=>x= .returned (.tuple #[.agg (ecs zev),.bool false])/\Below w.heap.size w w':=by
 have hl:=h.bytes.1;have hmx:=h.bytes.2.1;have hcap:=h.cap;have hmx':n<=9223372036854775807:=by unfold maxLen at hmx; omega
 clear hmx;by_cases h16:n<16
 ·have d1:decide ((n:Int)<16)=true:=decide_eq_true (by omega)
  clear h hr hl;go_enter Tryz.func113,Tryz.ntmps113;go_wp2_with fail;refine bodyPost_ret (v:= .tuple #[.agg (ecs zev),.bool false]) ?_ rfl ⟨rfl,?_⟩
  ·simp [results,Tryz.results113,go_sem]
   rfl
  ·first|exact aa0 _ _|exact (aa0 _ _).drew
 ·have d1:decide ((n:Int)<16)=false:=decide_eq_false (by omega)
  obtain ⟨b,off,rfl⟩:=h.plain (by omega);have c15:w.cell? ⟨b,off+15,none⟩=some (.int .u8 (bs.getD 15 0:Nat)):=h.at_ (k:=15) (by omega);have hx:=h.bytes.lt 15;have hm:n<16+bs.getD 15 0:=by
   unfold room at hr;rw [hl,decide_eq_true (show 16<=n by omega),Bool.true_and,decide_eq_false_iff_not] at hr;omega
  generalize bs.getD 15 0=m at*;have d2:decide ((n:Int)<16+(m:Int))=true:=decide_eq_true (by omega);have c15':(w.alloc (.cells #[.int .i64 0,.int .i64 0,.int .i64 0,.int .i64 0,.int .u32 0,.int .i64 0,.string ⟨#[]⟩] 65)).cell? ⟨b,off+15,none⟩=some (.int .u8 (m:Nat)):=held (aa0 _ _) c15;have i15:¬ n<=15:=by omega
  have i16:(15:Int)<(n:Int):=by omega
  clear h hr hl hm h16 c15;go_enter Tryz.func113,Tryz.ntmps113;go_upto_region 1 with fail;have B0:=Blk.new w 65 (ecs zev);have hb:=aa0 w (.cells (ecs zev) 65);unfold ecs at B0 hb;go_wp2_with fail;refine bodyPost_ret (v:= .tuple #[.agg (ecs zev),.bool false]) ?_ rfl ⟨rfl,?_⟩
  ·simp [results,Tryz.results113,go_sem]
   rfl
  ·first|exact aa0 _ _|exact (aa0 _ _).drew
theorem by4 {A:Option Addr} {n cap:Nat} {bs:List Nat} {w:World} (h:Sl w A n cap bs) (hr:room bs=true):
  Calls prog 113 #[.slice A n cap] w fun x w'=>x= .returned (.tuple #[.agg (ecs (parse bs)),.bool (right (parse bs))])/\Below w.heap.size w w':=by
 have hl:=h.bytes.1;have hmx:=h.bytes.2.1;have hcap:=h.cap;have hmx':n<=9223372036854775807:=by unfold maxLen at hmx; omega
 clear hmx;have hr':=hr;unfold room at hr;simp only [hl,Bool.and_eq_true,decide_eq_true_eq] at hr;obtain ⟨h16,hm⟩:=hr;have d1:decide ((n:Int)<16)=false:=decide_eq_false (by omega);obtain ⟨b,off,rfl⟩:=h.plain (by omega);have E:=Lib.hid (show ecs (parse bs)=#[.int .i64 (bs.getD 0 0:Nat),.int .i64 (Sc.val ((bs.drop 1).take 3):Nat),.int .i64 (Sc.val ((bs.drop 4).take 3):Nat),.int .i64 (Sc.val ((bs.drop 7).take 3):Nat),.int .u32 (Sc.val ((bs.drop 10).take 4):Nat),.int .i64 (bs.getD 14 0:Nat),.string ⟨(toU ((bs.drop 16).take (bs.getD 15 0))).toArray⟩] from rfl);have hfit:=(ak5 h.bytes.2.2.1).2;have hx0:=h.bytes.lt 0;have hx14:=h.bytes.lt 14;have hx15:=h.bytes.lt 15;have l3:∀ o,Sc.val ((bs.drop o).take 3)<16777216:=fun o=>Sc.val_lt 3 _ (by simp; omega) (fun c hc=>h.bytes.2.2.1 c (List.mem_of_mem_drop (List.mem_of_mem_take hc)))
 have hv1:=l3 1;have hv4:=l3 4;have hv7:=l3 7;have c0:w.cell? ⟨b,off,none⟩=some (.int .u8 (bs.getD 0 0:Nat)):=h.at_ (k:=0) (by omega);have c14:w.cell? ⟨b,off+14,none⟩=some (.int .u8 (bs.getD 14 0:Nat)):=h.at_ (k:=14) (by omega);have c15:w.cell? ⟨b,off+15,none⟩=some (.int .u8 (bs.getD 15 0:Nat)):=h.at_ (k:=15) (by omega);obtain ⟨A',c',hA',hbp⟩:∃ (A':Option Addr) (c':Nat),(∀ W:World,(Instr.slice 49 (.slice (some ⟨b,off,none⟩) n cap) (some (.int .i64 16)) (some (.int .i64 (16+(bs.getD 15 0:Nat):Int))) none).run prog W= .ok (.slice A' (bs.getD 15 0) c') W)/\∀ W,Sl W (some ⟨b,off,none⟩) n cap bs->BytesAt W A' (bs.getD 15 0) ((bs.drop 16).take (bs.getD 15 0)):=by
  by_cases e:bs.getD 15 0=0
  ·refine ⟨if cap=16 then some ⟨b,off,none⟩ else some ⟨b,off+16,none⟩,cap - 16,fun W=>?_,fun W hW=>?_⟩
   ·rw [e]
    have d1:(16:Int)<=(cap:Int):=by omega
    by_cases e2:cap=16
    ·subst e2; go_simp
    ·rw [if_neg e2]; go_simp
   ·rw [e,List.take_zero]
    exact ⟨rfl,by unfold maxLen; omega,by simp,fun k hk=>by omega⟩
  ·refine ⟨some ⟨b,off+16,none⟩,cap - 16,fun W=>?_,fun W hW=>(hW.part 16 _ (by omega)).bytes⟩
   generalize bs.getD 15 0=m at*;have d1:(16:Int)<=16+(m:Int):=by omega
   have d2:16+(m:Int)<=(cap:Int):=by omega
   have d3:¬ cap=16:=by omega
   have d4:(16+(m:Int)).toNat - 16=m:=by omega
   go_simp;try exact d4
 have G1:=fun W (hW:Sl W (some ⟨b,off,none⟩) n cap bs)=>ae1 hW 1 3 (by omega) (by omega) (cap - 1)
 have G4:=fun W (hW:Sl W (some ⟨b,off,none⟩) n cap bs)=>ae1 hW 4 3 (by omega) (by omega) (cap - 4)
 have G7:=fun W (hW:Sl W (some ⟨b,off,none⟩) n cap bs)=>ae1 hW 7 3 (by omega) (by omega) (cap - 7)
 have G10:=fun W (hW:Sl W (some ⟨b,off,none⟩) n cap bs)=>ae1 hW 10 4 (by omega) (by omega) (cap - 10)
 have s1:∀ W:World,(Instr.slice 49 (.slice (some ⟨b,off,none⟩) n cap) (some (.int .i64 1)) (some (.int .i64 4)) none).run prog W= .ok (.slice (some ⟨b,off+1,none⟩) 3 (cap - 1)) W:=fun W=>al5 b off n cap 1 4 (by omega) (by omega) W rfl rfl rfl rfl rfl
 have s4:∀ W:World,(Instr.slice 49 (.slice (some ⟨b,off,none⟩) n cap) (some (.int .i64 4)) (some (.int .i64 7)) none).run prog W= .ok (.slice (some ⟨b,off+4,none⟩) 3 (cap - 4)) W:=fun W=>al5 b off n cap 4 7 (by omega) (by omega) W rfl rfl rfl rfl rfl
 have s7:∀ W:World,(Instr.slice 49 (.slice (some ⟨b,off,none⟩) n cap) (some (.int .i64 7)) (some (.int .i64 10)) none).run prog W= .ok (.slice (some ⟨b,off+7,none⟩) 3 (cap - 7)) W:=fun W=>al5 b off n cap 7 10 (by omega) (by omega) W rfl rfl rfl rfl rfl
 have s10:∀ W:World,(Instr.slice 49 (.slice (some ⟨b,off,none⟩) n cap) (some (.int .i64 10)) (some (.int .i64 14)) none).run prog W= .ok (.slice (some ⟨b,off+10,none⟩) 4 (cap - 10)) W:=fun W=>al5 b off n cap 10 14 (by omega) (by omega) W rfl rfl rfl rfl rfl
 generalize hPE:parse bs=PE at*;obtain ⟨r,hr⟩:∃ r,right PE=r:=⟨_,rfl⟩;obtain ⟨X,hX⟩:∃ X,X=ecs PE:=⟨_,rfl⟩;rw [hr,<- hX];have XR:=H2 hr hX;clear hr hX;have hS:=h;obtain ⟨part,hpart⟩:∃ part,part=(bs.drop 16).take (bs.getD 15 0):=⟨_,rfl⟩;rw [<- hpart] at hbp E;generalize bs.getD 0 0=x0 at*;generalize bs.getD 14 0=x14 at*;generalize Sc.val ((bs.drop 1).take 3)=v1 at*;generalize Sc.val ((bs.drop 4).take 3)=v4 at*;generalize Sc.val ((bs.drop 7).take 3)=v7 at*;generalize Sc.val ((bs.drop 10).take 4)=v10 at*;generalize bs.getD 15 0=m at*;generalize cap - 1=c1 at*;generalize cap - 4=c4 at*;generalize cap - 7=c7 at*;generalize cap - 10=c10 at*;have d2:decide ((n:Int)<16+(m:Int))=false:=decide_eq_false (by omega);have i0:(0:Int)<(n:Int):=by omega
 have i14:(14:Int)<(n:Int):=by omega
 have i15:(15:Int)<(n:Int):=by omega
 have B0:=Blk.new w 65 (ecs zev);have hb1:=aa0 w (.cells (ecs zev) 65);have hs1:=aa1 w (.cells (ecs zev) 65);have hS1:=hS.held hb1;have k0:=held hb1 c0;have k14:=held hb1 c14;have k15:=held hb1 c15;unfold ecs zev at B0 hb1 hs1 hS1 k0 k14 k15;clear h hr' hl hm hcap h16 l3 c0 c14 c15 hS hpart;obtain ⟨G,hG⟩:∃ G,G=(Hid (∀ W,Sl W (some ⟨b,off,none⟩) n cap bs->BytesAt W A' m part)):=⟨_,rfl⟩;have HBP:=Lib.hid hbp;clear hbp hG G;go_enter Tryz.func113,Tryz.ntmps113;go_upto_region 1 with fail;generalize w.alloc _=w1 at*;have Y:=H4 B0 hb1 hs1 hS1;clear B0 hb1 hs1 hS1;go_upto_region 3 with fail;go_cut [4] from 5 (fun v u=>∃ g,v= .pointer (some ⟨g,0,none⟩)/\w.heap.size<g/\Blk 65 u g (ecs PE)/\Blk 65 u w.heap.size (ecs zev)/\Below w.heap.size w u)
 case first=>
  have q0:w1.drew.cell? ⟨b,off,none⟩=some (.int .u8 (x0:Nat)):=k0;have q14:w1.drew.cell? ⟨b,off+14,none⟩=some (.int .u8 (x14:Nat)):=k14;have q15:w1.drew.cell? ⟨b,off+15,none⟩=some (.int .u8 (m:Nat)):=k15;have hSd:Sl w1.drew (some ⟨b,off,none⟩) n cap bs:=⟨Y.out.2.2.2.bytes,Y.out.2.2.2.cap,Y.out.2.2.2.plain⟩;have hBd:=aa0 w1.drew (.cells (ecs zev) 65);have hSa:=hSd.held hBd;have a0:=held hBd q0;have a14:=held hBd q14;have a15:=held hBd q15;unfold ecs zev at hBd hSa a0 a14 a15;have P1:=H2 hSd hSa;have P2:=H5 (And.intro q0 (And.intro q14 (And.intro q15 (HBP.out _ hSd)))) a0 a14 a15 (HBP.out _ hSa);have X1:=G1 _ hSd;have X4:=G4 _ hSd;have X7:=G7 _ hSd;have X10:=G10 _ hSd;have U1:=G1 _ hSa;have U4:=G4 _ hSa;have U7:=G7 _ hSa;have U10:=G10 _ hSa;have hbE:=aa0 w1 (.cells #[.int .i64 (x0:Nat),.int .i64 (v1:Nat),.int .i64 (v4:Nat),.int .i64 (v7:Nat),.int .u32 (v10:Nat),.int .i64 (x14:Nat),.string ⟨(toU part).toArray⟩] 65);have P3:=Lib.hid (And.intro (show (w1.alloc (.cells #[.int .i64 (x0:Nat),.int .i64 (v1:Nat),.int .i64 (v4:Nat),.int .i64 (v7:Nat),.int .u32 (v10:Nat),.int .i64 (x14:Nat),.string ⟨(toU part).toArray⟩] 65)).drew.cell? ⟨b,off,none⟩=some (.int .u8 (x0:Nat)) from held hbE k0) (And.intro (show (w1.alloc (.cells #[.int .i64 (x0:Nat),.int .i64 (v1:Nat),.int .i64 (v4:Nat),.int .i64 (v7:Nat),.int .u32 (v10:Nat),.int .i64 (x14:Nat),.string ⟨(toU part).toArray⟩] 65)).drew.cell? ⟨b,off+14,none⟩=some (.int .u8 (x14:Nat)) from held hbE k14) (And.intro (show (w1.alloc (.cells #[.int .i64 (x0:Nat),.int .i64 (v1:Nat),.int .i64 (v4:Nat),.int .i64 (v7:Nat),.int .u32 (v10:Nat),.int .i64 (x14:Nat),.string ⟨(toU part).toArray⟩] 65)).drew.cell? ⟨b,off+15,none⟩=some (.int .u8 (m:Nat)) from held hbE k15) (show BytesAt (w1.alloc (.cells #[.int .i64 (x0:Nat),.int .i64 (v1:Nat),.int .i64 (v4:Nat),.int .i64 (v7:Nat),.int .u32 (v10:Nat),.int .i64 (x14:Nat),.string ⟨(toU part).toArray⟩] 65)).drew A' m part from (let t:=HBP.out _ (Y.out.2.2.2.held hbE); ⟨t.1,t.2.1,t.2.2.1,t.2.2.2⟩)))));have hR1:Blk 65 (w1.alloc (.cells #[.int .i64 (x0:Nat),.int .i64 (v1:Nat),.int .i64 (v4:Nat),.int .i64 (v7:Nat),.int .u32 (v10:Nat),.int .i64 (x14:Nat),.string ⟨(toU part).toArray⟩] 65)) w1.heap.size (ecs PE):=by
   have t:=Blk.new w1 65 #[.int .i64 (x0:Nat),.int .i64 (v1:Nat),.int .i64 (v4:Nat),.int .i64 (v7:Nat),.int .u32 (v10:Nat),.int .i64 (x14:Nat),.string ⟨(toU part).toArray⟩];rw [E.out];exact t
  have hR2:=Y.out.1.more (.cells #[.int .i64 (x0:Nat),.int .i64 (v1:Nat),.int .i64 (v4:Nat),.int .i64 (v7:Nat),.int .u32 (v10:Nat),.int .i64 (x14:Nat),.string ⟨(toU part).toArray⟩] 65);have hR3:=(next Y.out.2.1 hbE).drew;have R:=Lib.hid (And.intro (show w.heap.size<w1.heap.size by rw [Y.out.2.2.1]; omega) (And.intro hR1.drew (And.intro hR2.drew hR3)));clear hbE hR1 hR2 hR3;clear k0 k14 k15 hSd hSa hBd q0 q14 q15 a0 a14 a15 G1 G4 G7 G10 HBP;have cv:Hid (∀ (u:World),BytesAt u A' m part->(convert 49 9 (.slice A' m c')).run prog u= .ok (.string ⟨(toU part).toArray⟩) u):=Lib.hid (fun u hu=>as5 hu);refine wp_region_held_drew (S:=fun u=>(u.cell? ⟨b,off,none⟩=some (.int .u8 (x0:Nat))/\u.cell? ⟨b,off+14,none⟩=some (.int .u8 (x14:Nat))/\u.cell? ⟨b,off+15,none⟩=some (.int .u8 (m:Nat))/\BytesAt u A' m part)) (by kernel_rfl) P2.out.1 (fun hHeld=>?_);refine tk 0 (.slice (some ⟨b,off,none⟩) n cap) rfl hHeld ?_;go_frame;refine aa6 (i:=1) (v:= .pointer (some ⟨b,off,none⟩)) rfl (by kernel_rfl) (by kernel_rfl) (by kernel_rfl) (fun _ _ _ h=>h) (.inl ⟨rfl,?_⟩) hHeld ?_
  ·(intro w hSw; go_simp; intro e0; omega)
  go_frame;refine tk 2 (.int .u8 (x0:Nat)) rfl hHeld ?_;go_frame;refine aa6 (i:=3) (v:= .int .i64 (x0:Nat)) rfl (by kernel_rfl) (by kernel_rfl) (by kernel_rfl) (fun _ _ _ h=>h) (.inl ⟨rfl,?_⟩) hHeld ?_
  ·(intro w hSw; go_simp; try exact wrap64 (by omega))
  go_frame;refine tk 4 (.slice (some ⟨b,off,none⟩) n cap) rfl hHeld ?_;go_frame;refine tk 5 (.slice (some ⟨b,off+1,none⟩) 3 c1) rfl hHeld ?_;go_frame;refine tk 8 (.slice (some ⟨b,off,none⟩) n cap) rfl hHeld ?_;go_frame;refine tk 9 (.slice (some ⟨b,off+4,none⟩) 3 c4) rfl hHeld ?_;go_frame;refine tk 12 (.slice (some ⟨b,off,none⟩) n cap) rfl hHeld ?_;go_frame;refine tk 13 (.slice (some ⟨b,off+7,none⟩) 3 c7) rfl hHeld ?_;go_frame;refine tk 16 (.slice (some ⟨b,off,none⟩) n cap) rfl hHeld ?_;go_frame;refine tk 17 (.slice (some ⟨b,off+10,none⟩) 4 c10) rfl hHeld ?_;go_frame;refine tk 19 (.slice (some ⟨b,off,none⟩) n cap) rfl hHeld ?_;go_frame;refine tk 20 (.pointer (some ⟨b,off+14,none⟩)) rfl hHeld ?_;go_frame;refine tk 21 (.int .u8 (x14:Nat)) rfl hHeld ?_;go_frame;refine aa6 (i:=22) (v:= .int .i64 (x14:Nat)) rfl (by kernel_rfl) (by kernel_rfl) (by kernel_rfl) (fun _ _ _ h=>h) (.inl ⟨rfl,?_⟩) hHeld ?_
  ·(intro w hSw; go_simp; try exact wrap64 (by omega))
  go_frame;refine tk 24 (.slice (some ⟨b,off,none⟩) n cap) rfl hHeld ?_;go_frame;refine tk 25 (.slice (some ⟨b,off,none⟩) n cap) rfl hHeld ?_;go_frame;refine tk 26 (.pointer (some ⟨b,off+15,none⟩)) rfl hHeld ?_;go_frame;refine tk 27 (.int .u8 (m:Nat)) rfl hHeld ?_;go_frame;refine aa6 (i:=28) (v:= .int .i64 (m:Nat)) rfl (by kernel_rfl) (by kernel_rfl) (by kernel_rfl) (fun _ _ _ h=>h) (.inl ⟨rfl,?_⟩) hHeld ?_
  ·(intro w hSw; go_simp; try exact wrap64 (by omega))
  go_frame;refine aa6 (i:=29) (v:= .int .i64 (16+(m:Int))) rfl (by kernel_rfl) (by kernel_rfl) (by kernel_rfl) (fun _ _ _ h=>h) (.inl ⟨rfl,?_⟩) hHeld ?_
  ·(intro w hSw; go_simp; try exact wrap64b (by omega))
  go_frame;refine tk 30 (.slice A' m c') rfl hHeld ?_;go_frame;refine aa6 (i:=31) (v:= .string ⟨(toU part).toArray⟩) rfl (by kernel_rfl) (by kernel_rfl) (by kernel_rfl) (fun _ _ _ h=>h) (.inl ⟨rfl,?_⟩) hHeld ?_
  ·(intro w hSw; have hcv:=cv.out w hSw.2.2.2; go_simp)
  go_frame;clear s1 s4 s7 s10 hA';refine ad8 (i:=6) (i':=33) rfl rfl (by kernel_rfl) (fun K hK=>?_) (fun K hK=>?_)
  ·go_simp
   refine X1.mono ?_;rintro e u ⟨rfl,rfl⟩;refine hK.out _ _ P2.out.1 (fun hHeld=>?_);clear hK K;try go_frame
   refine aa6 (i:=7) (v:= .int .i64 (v1:Nat)) rfl (by kernel_rfl) (by kernel_rfl) (by kernel_rfl) (fun _ _ _ h=>h) (.inl ⟨rfl,?_⟩) hHeld ?_
   ·(intro w hSw; go_simp; try exact wrap64 (by omega))
   go_frame;refine ad8 (i:=10) (i':=33) rfl rfl (by kernel_rfl) (fun K hK=>?_) (fun K hK=>?_)
   ·go_simp
    refine X4.mono ?_;rintro e u ⟨rfl,rfl⟩;refine hK.out _ _ P2.out.1 (fun hHeld=>?_);clear hK K;try go_frame
    refine aa6 (i:=11) (v:= .int .i64 (v4:Nat)) rfl (by kernel_rfl) (by kernel_rfl) (by kernel_rfl) (fun _ _ _ h=>h) (.inl ⟨rfl,?_⟩) hHeld ?_
    ·(intro w hSw; go_simp; try exact wrap64 (by omega))
    go_frame;refine ad8 (i:=14) (i':=33) rfl rfl (by kernel_rfl) (fun K hK=>?_) (fun K hK=>?_)
    ·go_simp
     refine X7.mono ?_;rintro e u ⟨rfl,rfl⟩;refine hK.out _ _ P2.out.1 (fun hHeld=>?_);clear hK K;try go_frame
     refine aa6 (i:=15) (v:= .int .i64 (v7:Nat)) rfl (by kernel_rfl) (by kernel_rfl) (by kernel_rfl) (fun _ _ _ h=>h) (.inl ⟨rfl,?_⟩) hHeld ?_
     ·(intro w hSw; go_simp; try exact wrap64 (by omega))
     go_frame;refine ad8 (i:=18) (i':=33) rfl rfl (by kernel_rfl) (fun K hK=>?_) (fun K hK=>?_)
     ·go_simp
      refine X10.mono ?_;rintro e u ⟨rfl,rfl⟩;refine hK.out _ _ P2.out.1 (fun hHeld=>?_);clear hK K;try go_frame
      refine tk 23 (.agg #[.int .u32 (v10:Nat),.int .i64 (x14:Nat)]) rfl hHeld ?_;go_frame;refine tk 32 (.agg #[.int .i64 (x0:Nat),.int .i64 (v1:Nat),.int .i64 (v4:Nat),.int .i64 (v7:Nat),.int .u32 (v10:Nat),.int .i64 (x14:Nat),.string ⟨(toU part).toArray⟩]) rfl hHeld ?_;go_frame;refine rl 33 rfl fun K hK=>?_
      go_simp;refine hK.out _ _ P2.out.2 (fun hHeld=>?_);clear hK K;try go_frame
      refine rl 34 rfl fun K hK=>?_
      go_simp;refine hK.out _ _ P3.out (fun hHeld=>?_);clear hK K;refine wpAnyH_done (by kernel_rfl) ?_ _;try go_frame
      go_wp2_with fail;go_meet
      case rel=>exact ⟨_,rfl,R.out.1,R.out.2.1,R.out.2.2.1,R.out.2.2.2⟩
     ·go_simp
      refine hK.out _ _ P2.out.2 (fun hHeld=>?_);clear hK K;try go_frame
      refine rl 18 rfl fun K hK=>?_
      go_simp;refine U10.mono ?_;rintro e u ⟨rfl,rfl⟩;refine hK.out _ _ P2.out.2 (fun hHeld=>?_);clear hK K;try go_frame
      refine tk 23 (.agg #[.int .u32 (v10:Nat),.int .i64 (x14:Nat)]) rfl hHeld ?_;go_frame;refine tk 32 (.agg #[.int .i64 (x0:Nat),.int .i64 (v1:Nat),.int .i64 (v4:Nat),.int .i64 (v7:Nat),.int .u32 (v10:Nat),.int .i64 (x14:Nat),.string ⟨(toU part).toArray⟩]) rfl hHeld ?_;go_frame;refine rl 34 rfl fun K hK=>?_
      go_simp;refine hK.out _ _ P3.out (fun hHeld=>?_);clear hK K;refine wpAnyH_done (by kernel_rfl) ?_ _;try go_frame
      go_wp2_with fail;go_meet
      case rel=>exact ⟨_,rfl,R.out.1,R.out.2.1,R.out.2.2.1,R.out.2.2.2⟩
    ·go_simp
     refine hK.out _ _ P2.out.2 (fun hHeld=>?_);clear hK K;try go_frame
     refine rl 14 rfl fun K hK=>?_
     go_simp;refine U7.mono ?_;rintro e u ⟨rfl,rfl⟩;refine hK.out _ _ P2.out.2 (fun hHeld=>?_);clear hK K;try go_frame
     refine aa6 (i:=15) (v:= .int .i64 (v7:Nat)) rfl (by kernel_rfl) (by kernel_rfl) (by kernel_rfl) (fun _ _ _ h=>h) (.inl ⟨rfl,?_⟩) hHeld ?_
     ·(intro w hSw; go_simp; try exact wrap64 (by omega))
     go_frame;refine rl 18 rfl fun K hK=>?_
     go_simp;refine U10.mono ?_;rintro e u ⟨rfl,rfl⟩;refine hK.out _ _ P2.out.2 (fun hHeld=>?_);clear hK K;try go_frame
     refine tk 23 (.agg #[.int .u32 (v10:Nat),.int .i64 (x14:Nat)]) rfl hHeld ?_;go_frame;refine tk 32 (.agg #[.int .i64 (x0:Nat),.int .i64 (v1:Nat),.int .i64 (v4:Nat),.int .i64 (v7:Nat),.int .u32 (v10:Nat),.int .i64 (x14:Nat),.string ⟨(toU part).toArray⟩]) rfl hHeld ?_;go_frame;refine rl 34 rfl fun K hK=>?_
     go_simp;refine hK.out _ _ P3.out (fun hHeld=>?_);clear hK K;refine wpAnyH_done (by kernel_rfl) ?_ _;try go_frame
     go_wp2_with fail;go_meet
     case rel=>exact ⟨_,rfl,R.out.1,R.out.2.1,R.out.2.2.1,R.out.2.2.2⟩
   ·go_simp
    refine hK.out _ _ P2.out.2 (fun hHeld=>?_);clear hK K;try go_frame
    refine rl 10 rfl fun K hK=>?_
    go_simp;refine U4.mono ?_;rintro e u ⟨rfl,rfl⟩;refine hK.out _ _ P2.out.2 (fun hHeld=>?_);clear hK K;try go_frame
    refine aa6 (i:=11) (v:= .int .i64 (v4:Nat)) rfl (by kernel_rfl) (by kernel_rfl) (by kernel_rfl) (fun _ _ _ h=>h) (.inl ⟨rfl,?_⟩) hHeld ?_
    ·(intro w hSw; go_simp; try exact wrap64 (by omega))
    go_frame;refine rl 14 rfl fun K hK=>?_
    go_simp;refine U7.mono ?_;rintro e u ⟨rfl,rfl⟩;refine hK.out _ _ P2.out.2 (fun hHeld=>?_);clear hK K;try go_frame
    refine aa6 (i:=15) (v:= .int .i64 (v7:Nat)) rfl (by kernel_rfl) (by kernel_rfl) (by kernel_rfl) (fun _ _ _ h=>h) (.inl ⟨rfl,?_⟩) hHeld ?_
    ·(intro w hSw; go_simp; try exact wrap64 (by omega))
    go_frame;refine rl 18 rfl fun K hK=>?_
    go_simp;refine U10.mono ?_;rintro e u ⟨rfl,rfl⟩;refine hK.out _ _ P2.out.2 (fun hHeld=>?_);clear hK K;try go_frame
    refine tk 23 (.agg #[.int .u32 (v10:Nat),.int .i64 (x14:Nat)]) rfl hHeld ?_;go_frame;refine tk 32 (.agg #[.int .i64 (x0:Nat),.int .i64 (v1:Nat),.int .i64 (v4:Nat),.int .i64 (v7:Nat),.int .u32 (v10:Nat),.int .i64 (x14:Nat),.string ⟨(toU part).toArray⟩]) rfl hHeld ?_;go_frame;refine rl 34 rfl fun K hK=>?_
    go_simp;refine hK.out _ _ P3.out (fun hHeld=>?_);clear hK K;refine wpAnyH_done (by kernel_rfl) ?_ _;try go_frame
    go_wp2_with fail;go_meet
    case rel=>exact ⟨_,rfl,R.out.1,R.out.2.1,R.out.2.2.1,R.out.2.2.2⟩
  ·go_simp
   refine hK.out _ _ P2.out.2 (fun hHeld=>?_);clear hK K;try go_frame
   refine rl 6 rfl fun K hK=>?_
   go_simp;refine U1.mono ?_;rintro e u ⟨rfl,rfl⟩;refine hK.out _ _ P2.out.2 (fun hHeld=>?_);clear hK K;try go_frame
   refine aa6 (i:=7) (v:= .int .i64 (v1:Nat)) rfl (by kernel_rfl) (by kernel_rfl) (by kernel_rfl) (fun _ _ _ h=>h) (.inl ⟨rfl,?_⟩) hHeld ?_
   ·(intro w hSw; go_simp; try exact wrap64 (by omega))
   go_frame;refine rl 10 rfl fun K hK=>?_
   go_simp;refine U4.mono ?_;rintro e u ⟨rfl,rfl⟩;refine hK.out _ _ P2.out.2 (fun hHeld=>?_);clear hK K;try go_frame
   refine aa6 (i:=11) (v:= .int .i64 (v4:Nat)) rfl (by kernel_rfl) (by kernel_rfl) (by kernel_rfl) (fun _ _ _ h=>h) (.inl ⟨rfl,?_⟩) hHeld ?_
   ·(intro w hSw; go_simp; try exact wrap64 (by omega))
   go_frame;refine rl 14 rfl fun K hK=>?_
   go_simp;refine U7.mono ?_;rintro e u ⟨rfl,rfl⟩;refine hK.out _ _ P2.out.2 (fun hHeld=>?_);clear hK K;try go_frame
   refine aa6 (i:=15) (v:= .int .i64 (v7:Nat)) rfl (by kernel_rfl) (by kernel_rfl) (by kernel_rfl) (fun _ _ _ h=>h) (.inl ⟨rfl,?_⟩) hHeld ?_
   ·(intro w hSw; go_simp; try exact wrap64 (by omega))
   go_frame;refine rl 18 rfl fun K hK=>?_
   go_simp;refine U10.mono ?_;rintro e u ⟨rfl,rfl⟩;refine hK.out _ _ P2.out.2 (fun hHeld=>?_);clear hK K;try go_frame
   refine tk 23 (.agg #[.int .u32 (v10:Nat),.int .i64 (x14:Nat)]) rfl hHeld ?_;go_frame;refine tk 32 (.agg #[.int .i64 (x0:Nat),.int .i64 (v1:Nat),.int .i64 (v4:Nat),.int .i64 (v7:Nat),.int .u32 (v10:Nat),.int .i64 (x14:Nat),.string ⟨(toU part).toArray⟩]) rfl hHeld ?_;go_frame;refine rl 34 rfl fun K hK=>?_
   go_simp;refine hK.out _ _ P3.out (fun hHeld=>?_);clear hK K;refine wpAnyH_done (by kernel_rfl) ?_ _;try go_frame
   go_wp2_with fail;go_meet
   case rel=>exact ⟨_,rfl,R.out.1,R.out.2.1,R.out.2.2.1,R.out.2.2.2⟩
 case rest=>
  clear Y E HBP G1 G4 G7 G10 s1 s4 s7 s10 hA' k0 k14 k15;obtain ⟨g,rfl,hlt,hg,hz,hb⟩:=hcut;have HR:∀ u:World,Calls prog 83 #[.agg (ecs PE)] u fun x w'=>x= .returned (.bool r)/\Below u.heap.size u w':=fun u=>eright_eq hfit XR.out.1 u
  have HE:Hid (∀ u,Blk 65 u g (ecs PE)->u.cell? ⟨g,0,none⟩=some (.int .i64 PE.kind)/\u.cell? ⟨g,1,none⟩=some (.int .i64 PE.i)/\u.cell? ⟨g,2,none⟩=some (.int .i64 PE.k)/\u.cell? ⟨g,3,none⟩=some (.int .i64 PE.n)/\u.cell? ⟨g,4,none⟩=some (.int .u32 (PE.a:Nat))/\u.cell? ⟨g,5,none⟩=some (.int .i64 PE.len)/\u.cell? ⟨g,6,none⟩=some (.string ⟨PE.p.toArray⟩)):=Lib.hid (fun u h=>⟨h.at_ 0,h.at_ 1,h.at_ 2,h.at_ 3,h.at_ 4,h.at_ 5,h.at_ 6⟩);have hX2:X=#[.int .i64 PE.kind,.int .i64 PE.i,.int .i64 PE.k,.int .i64 PE.n,.int .u32 (PE.a:Nat),.int .i64 PE.len,.string ⟨PE.p.toArray⟩]:=XR.out.2;rw [<- XR.out.2,hX2] at HR;have XH:=Lib.hid XR.out.2;have XH2:=Lib.hid hX2;clear hX2 XR;go_upto_region 4 with fail;have p0:=HE.out _ hg.drew;have Z:=H4 hlt hg hz hb;clear hg hz hb hlt hfit hPE;generalize PE.kind=y0 at*;generalize PE.i=y1 at*;generalize PE.k=y2 at*;generalize PE.n=y3 at*;generalize PE.a=y4 at*;generalize PE.len=y5 at*;generalize (⟨PE.p.toArray⟩:ByteArray)=y6 at*;refine wp_region_held_drew (S:=fun u=>(u.cell? ⟨g,0,none⟩=some (.int .i64 y0)/\u.cell? ⟨g,1,none⟩=some (.int .i64 y1)/\u.cell? ⟨g,2,none⟩=some (.int .i64 y2)/\u.cell? ⟨g,3,none⟩=some (.int .i64 y3)/\u.cell? ⟨g,4,none⟩=some (.int .u32 (y4:Nat))/\u.cell? ⟨g,5,none⟩=some (.int .i64 y5)/\u.cell? ⟨g,6,none⟩=some (.string y6))) (by kernel_rfl) p0 (fun hHeld=>?_);refine tk 0 (.agg #[.int .i64 y0,.int .i64 y1,.int .i64 y2,.int .i64 y3,.int .u32 (y4:Nat),.int .i64 y5,.string y6]) rfl hHeld ?_;go_frame;refine tk 1 (.agg #[.int .i64 y0,.int .i64 y1,.int .i64 y2,.int .i64 y3,.int .u32 (y4:Nat),.int .i64 y5,.string y6]) rfl hHeld ?_;go_frame;refine rl 2 rfl fun K hK=>?_
  go_simp;refine (HR _).mono ?_;rintro e w5 ⟨rfl,hb5⟩;have hg5:=(show Blk 65 wc.drew g _ from Z.out.2.1.drew).held hb5;have hz5:=(show Blk 65 wc.drew w.heap.size _ from Z.out.2.2.1.drew).held hb5;have hbb:=next Z.out.2.2.2.drew hb5;refine hK.out _ _ (HE.out _ hg5) (fun hHeld=>?_);clear hK K p0;try go_frame
  refine rl 3 rfl fun K hK=>?_
  rw [if_pos (by rfl)];refine wp_store_mid _ _ _ rfl _ _ #[.int .i64 y0,.int .i64 y1,.int .i64 y2,.int .i64 y3,.int .u32 (y4:Nat),.int .i64 y5,.string y6] rfl rfl hz5.ev_there7 (by show _=some 7; kernel_rfl) (by simp [Value.oneCell']) ?_;have hT6:Turn [w.heap.size] w5 (w5.setCells w.heap.size 0 [.int .i64 y0,.int .i64 y1,.int .i64 y2,.int .i64 y3,.int .u32 (y4:Nat),.int .i64 y5,.string y6]):=Turn.setCells w5 (by simp) _ _;have hg6:=hg5.turn hT6 (by simp; have:=Z.out.1; omega);have hz6:Blk 65 (w5.setCells w.heap.size 0 [.int .i64 y0,.int .i64 y1,.int .i64 y2,.int .i64 y3,.int .u32 (y4:Nat),.int .i64 y5,.string y6]) w.heap.size X:=by
   have:=hz5.setCells [.int .i64 y0,.int .i64 y1,.int .i64 y2,.int .i64 y3,.int .u32 (y4:Nat),.int .i64 y5,.string y6] 0;rw [XH2.out];exact this
  have hb6:=hbb.trans (hT6.below (B:=w.heap.size) (by simp) hbb.size);have p6:=HE.out _ hg6;refine hK.out _ _ p6 (fun hHeld=>?_);clear hK K;try go_frame
  have F:=H2 hz6 hb6;clear hg5 hz5 hbb hT6 hg6 hz6 hb6 HR HE hb5;refine rl 4 rfl fun K hK=>?_
  go_simp;refine hK.out _ _ p6 (fun hHeld=>?_);clear hK K hHeld p6;refine wpAnyH_done (by kernel_rfl) ?_ _;try go_frame
  go_wp2_with fail;refine bodyPost_ret (v:= .tuple #[.agg X,.bool r]) ?_ rfl ⟨rfl,F.out.2⟩;rw [XH.out];exact ax4 rfl rfl rfl (by rw [<- XH.out]; exact F.out.1)
theorem ck5 {A:Option Addr} {n cap:Nat} {bs:List Nat} {w:World} (h:Sl w A n cap bs):
  Calls prog 113 #[.slice A n cap] w fun x w'=>x= .returned (.tuple #[.agg (ecs (Sc.fst bs)),.bool (first bs)])/\Below w.heap.size w w':=by
 unfold Sc.fst first
 cases hr:room bs
 ·exact bn1 h hr
 ·exact by4 h hr
end Go.Proofs.YtlklghedfaeepaaGreat.Sp
set_option maxRecDepth 20000
namespace Go.Proofs.YtlklghedfaeepaaGreat.Sp
open _root_.Go.Proofs.Tryz (prog)
section
open Go.RowKit Go.Maps Sc
variable {W w:World}{bs:List Nat}{k n:Nat}{v:Value}{l:List Ev}
structure EvR (w:World) (bs:List Nat) (n:Nat) (v:Value) (l:List Ev) (k:Nat) (W:World):Prop where
 own:Oe w.heap.size v l W
 below:Below w.heap.size w W
 right:∀ x∈l,Sc.right x=true/\x.a<4294967296
 few:l.length<=8192
 at_:k=3+(flat l).length
 le:k<=n
 parts:bs.drop 3=flat l++bs.drop k
theorem EvR.evs (R:EvR w bs n v l k W) (hl:bs.length=n) {e:Nat} (h:(e=0/\k=bs.length)\/(e=6/\k<bs.length/\first (bs.drop k)=false)\/(e=7/\k<bs.length/\l.length=8192/\first (bs.drop k)=true)):Evs bs l k e:=
 ⟨R.right,R.few,R.at_,by rw [hl]; exact R.le,R.parts,h⟩
theorem EvR.next {v':Value} {W':World} (R:EvR w bs n v l k W) (hl:bs.length=n) (hb:∀ c∈bs,c<256) (hk:k<n) (hf:first (bs.drop k)=true) (hfew:l.length<8192)
  (ho:Oe w.heap.size v' (l++[parse (bs.drop k)]) W') (hbe:Below w.heap.size w W'):EvR w bs n v' (l++[parse (bs.drop k)]) (k+(16+(parse (bs.drop k)).p.length)) W':=by
 unfold first at hf;rw [Bool.and_eq_true] at hf;obtain ⟨hr,hright⟩:=hf;have hbd:∀ c∈bs.drop k,c<256:=fun c hc=>hb c (List.mem_of_mem_drop hc)
 have hp:=cf8 hr;have hpb:=am4 hbd hr;have hroom:=hr;unfold room at hroom;simp only [Bool.and_eq_true,decide_eq_true_eq,List.length_drop] at hroom;have hfl:(flat (l++[parse (bs.drop k)])).length=(flat l).length+(16+(parse (bs.drop k)).p.length):=by rw [dh0,List.length_append,dg6]
 refine ⟨ho,hbe,fun x hx=>?_,by simp; omega,by rw [hfl,R.at_]; omega,by rw [hp]; omega,?_⟩
 ·rcases List.mem_append.1 hx with h|h
  ·exact R.right x h
  ·rw [List.mem_singleton] at h
   subst h;exact ⟨hright,(ak5 hbd).2⟩
 ·rw [R.parts,dh0,List.append_assoc]
  congr 1;rw [List.drop_drop] at hpb;exact hpb
theorem al4 {A:Option Addr} {cap:Nat} (h:Sl w A n cap bs) (h3:3<=n) (hn:n<=262144):
  Calls prog 84 #[.slice A n cap] w fun x w'=>∃ v l k e,x= .returned (.tuple #[v,.int .i64 (k:Nat),.int .i64 (e:Nat)])/\Oe w.heap.size v l w'/\Evs bs l k e/\Below w.heap.size w w':=by
 have hl:=h.bytes.1;have hcap:=h.cap;have hb:=h.bytes.2.2.1;obtain ⟨b,off,rfl⟩:=h.plain (by omega);have H:=H3 h hl hb;clear h hl hb;go_enter Tryz.func84,Tryz.ntmps84;go_wp2_with fail;go_loopw [5,6] (fun v a wr=>∃ (l:List Ev) (k q c:Nat) (p:Option Addr),v= .slice p q c/\Hid (q=l.length)/\a= .int .i64 (k:Nat)/\k<=n/\Hid (EvR w bs n (.slice p q c) l k wr)) (fun _ a _=>n - (intOf a).toNat)
 case atStart=>exact ⟨[],3,0,0,none,rfl,Lib.hid rfl,rfl,h3,Lib.hid ⟨Ol.nil _ _,.refl _ _,by simp,by simp,by simp [ag2],h3,by simp [ag2]⟩⟩
 case round=>
  obtain ⟨l,k,q,c,p,rfl,hq,rfl,hkn,R⟩:=hrel;by_cases hlt:k<n
  ·have d1:decide ((k:Int)<(n:Int))=true:=decide_eq_true (by omega)
   have sl:∀ W:World,(Instr.slice 49 (.slice (some ⟨b,off,none⟩) n cap) (some (.int .i64 (k:Int))) none none).run prog W= .ok (.slice (some ⟨b,off+k,none⟩) (n - k) (cap - k)) W:=fun W=>bn5 _ n cap k (by omega) hcap W rfl (by rw [if_neg (by omega)]; exact (congrArg some (Addr.add_mid ..)).symm) rfl rfl
   have HF0:=ck5 ((H.out.1.held (R.out.below)).rest k (by omega));obtain ⟨E,hE⟩:∃ E,Sc.fst (bs.drop k)=E:=⟨_,rfl⟩;obtain ⟨f,hf⟩:∃ f,first (bs.drop k)=f:=⟨_,rfl⟩;rw [hE,hf] at HF0;have HF:Calls prog 113 #[.slice (some ⟨b,off+k,none⟩) (n - k) (cap - k)] wr fun x w'=>x= .returned (.tuple #[.agg #[.int .i64 E.kind,.int .i64 E.i,.int .i64 E.k,.int .i64 E.n,.int .u32 (E.a:Nat),.int .i64 E.len,.string ⟨E.p.toArray⟩],.bool f])/\Below wr.heap.size wr w':=HF0
   have EH:=H2 hE hf;clear HF0 hE hf;obtain ⟨m,hm⟩:∃ m,m=n - k:=⟨_,rfl⟩;obtain ⟨cm,hcm⟩:∃ cm,cm=cap - k:=⟨_,rfl⟩;rw [<- hm,<- hcm] at sl HF;clear hm hcm;obtain ⟨s,hs⟩:∃ s:ByteArray,s=⟨E.p.toArray⟩:=⟨_,rfl⟩;rw [<- hs] at HF;have hsz:s.size=E.p.length:=by rw [hs]; exact ba0 _
   obtain ⟨L,hL⟩:∃ L,L=E.p.length:=⟨_,rfl⟩;rw [<- hL] at hsz;obtain ⟨Q,hQ⟩:∃ Q:List Value,Q=[.int .i64 E.kind,.int .i64 E.i,.int .i64 E.k,.int .i64 E.n,.int .u32 (E.a:Nat),.int .i64 E.len,.string s]:=⟨_,rfl⟩;have hQ2:ecl E=Q:=by rw [hQ,hs]; rfl
   have QH:=H3 hQ2 hL hQ;clear hQ2 hs hL hQ;generalize E.kind=y0 at*;generalize E.i=y1 at*;generalize E.k=y2 at*;generalize E.n=y3 at*;generalize E.a=y4 at*;generalize E.len=y5 at*;go_upto_region 5 with (go_at_call 113; refine HF.mono ?_; rintro e w5 ⟨rfl,hb5⟩);have hbx:=next hb5 (aa0 w5 (.cells #[.int .i64 y0,.int .i64 y1,.int .i64 y2,.int .i64 y3,.int .u32 (y4:Nat),.int .i64 y5,.string s] 65));have BX:=Blk.new w5 65 #[.int .i64 y0,.int .i64 y1,.int .i64 y2,.int .i64 y3,.int .u32 (y4:Nat),.int .i64 y5,.string s];have hsx:=hb5.size;generalize w5.alloc _=w6 at*;generalize w5.heap.size=bx at*;clear sl HF hb5;have hbw:=R.out.below.trans (hbx.mono R.out.below.size);have ho6:=R.out.own.held hbx
   cases f with
   |false=>
    have Z:=H2 ho6 hbw;clear ho6 hbw hbx BX hsx;go_wp2_with fail;go_ret3;exact ⟨_,l,k,6,rfl,Z.out.1,R.out.evs H.out.2.1 (.inr (.inl ⟨rfl,by rw [H.out.2.1]; exact hlt,EH.out.2⟩)),Z.out.2⟩
   |true=>
    cases hq8:((q:Int)==8192) with
    |true=>
     have Z:=H2 ho6 hbw;clear ho6 hbw hbx BX hsx;have e8:q=8192:=by have:=beq_iff_eq.1 hq8; omega
     have e8:=Lib.hid e8;go_wp2_with fail;go_ret3;exact ⟨_,l,k,7,rfl,Z.out.1,R.out.evs H.out.2.1 (.inr (.inr ⟨rfl,by rw [H.out.2.1]; exact hlt,by rw [<- hq.out,e8.out],EH.out.2⟩)),Z.out.2⟩
    |false=>
     have e8:q≠8192:=fun e=>by subst e; simp at hq8
     have hfew:l.length<8192:=by have:=R.out.few; have:=hq.out; omega
     obtain ⟨g',cap',w7,hrun,hO7,hT7,hat⟩:=ho6.push1 elemE hbw.size E (by omega) 66;have hrun2:(Builtin.append_ #[66,66] 66 #[.slice p q c,.slice (some ⟨w6.heap.size,0,none⟩) 1 1]).run prog (w6.alloc (.cells #[.int .i64 y0,.int .i64 y1,.int .i64 y2,.int .i64 y3,.int .u32 (y4:Nat),.int .i64 y5,.string s] 65))= .ok (.slice (some ⟨g',0,none⟩) (q+1) cap') w7:=by
      have t:=hrun;rw [<- hq.out,QH.out.1,QH.out.2.2] at t;exact t
     rw [<- hq.out] at hO7;have hk:E=parse (bs.drop k):=by
      have h1:=EH.out.2;unfold first at h1;rw [Bool.and_eq_true] at h1;rw [<- EH.out.1,cu5 h1.1]
     have hB7:=own_below ho6 hbw hbw.size hT7;have hob:bx∉(Value.slice p q c).ownBlock.toList:=fun hm=>by
      have h1:(Value.slice p q c).ownBlock=some bx:=by simpa using hm
      have:=(R.out.own.lt h1).1;omega
     have BX7:=BX.turn hT7 hob;have c6:w7.cell? ⟨bx,5+1,none⟩=some (.string s):=BX7.at_ 6;rw [hk] at hO7;have R7:=R.out.next H.out.2.1 H.out.2.2 hlt EH.out.2 hfew hO7 hB7;have hL:L=(parse (bs.drop k)).p.length:=by rw [<- hk]; exact QH.out.2.1
     rw [<- hL] at R7;have R7:=Lib.hid R7;have LH:=H2 hk hq.out;have hle:=R7.out.le;have x0:w6.cell? ⟨bx,0,none⟩=some (.int .i64 y0):=BX.at_ 0;have x1:w6.cell? ⟨bx,1,none⟩=some (.int .i64 y1):=BX.at_ 1;have x2:w6.cell? ⟨bx,2,none⟩=some (.int .i64 y2):=BX.at_ 2;have x3:w6.cell? ⟨bx,3,none⟩=some (.int .i64 y3):=BX.at_ 3;have x4:w6.cell? ⟨bx,4,none⟩=some (.int .u32 (y4:Nat)):=BX.at_ 4;have x5:w6.cell? ⟨bx,5,none⟩=some (.int .i64 y5):=BX.at_ 5;have x6:w6.cell? ⟨bx,6,none⟩=some (.string s):=BX.at_ 6;clear hrun hO7 hT7 hat hk hB7 hob BX7 hL hbx BX hsx hbw ho6 QH EH R hq e8 hfew;go_wp2_with (first|(at_builtin; refine Lib.wpList_append_run _ rfl (.tmp 29) (.tmp 31) 66 66 rfl _ _ rfl rfl _ _ hrun2 ?_)|fail);go_roundw
     case rel=>exact ⟨_,k+(16+L),q+1,cap',some ⟨g',0,none⟩,rfl,Lib.hid (by simp [LH.out.2]),by go_num,hle,R7⟩
     case measure=>simp [intOf]; omega
  ·obtain rfl:k=n:=by omega
   have d1:decide ((k:Int)<(k:Int))=false:=decide_eq_false (by omega);go_wp2_with fail;go_ret3;exact ⟨_,l,k,0,rfl,R.out.own,R.out.evs H.out.2.1 (.inl ⟨rfl,H.out.2.1.symm⟩),R.out.below⟩
end
end Go.Proofs.YtlklghedfaeepaaGreat.Sp
namespace Go.Proofs.YtlklghedfaeepaaGreat.Sp
open _root_.Go.Proofs.Tryz (prog)
open Go.RowKit Go.Maps Sc
def _root_.Go.Proofs.YtlklghedfaeepaaGreat.Sc.scripted (n s:Int):Bool:=decide (1<=n) && decide (n<=8) && decide (1<=s) && decide (s<=512)
theorem bf2 (n s:Int) (w:World):Calls prog 52 #[.int .i64 n,.int .i64 s] w fun e w'=>e= .returned (.bool (Sc.scripted n s))/\w=w':=by
 unfold Sc.scripted
 cases h1:decide (1<=n)
 ·go_enter Tryz.func52,Tryz.ntmps52
  go_wp2_with fail;go_ret;exact ⟨rfl,rfl⟩
 cases h2:decide (n<=8)
 ·go_enter Tryz.func52,Tryz.ntmps52
  go_wp2_with fail;go_ret;exact ⟨rfl,rfl⟩
 cases h3:decide (1<=s)
 ·go_enter Tryz.func52,Tryz.ntmps52
  go_wp2_with fail;go_ret;exact ⟨rfl,rfl⟩
 ·go_enter Tryz.func52,Tryz.ntmps52
  go_wp2_with fail;go_ret;exact ⟨aa4 (by simp),rfl⟩
theorem am1 {n s:Int} {r:Bool} (h:Sc.scripted n s=r) (w:World):Calls prog 52 #[.int .i64 n,.int .i64 s] w fun e w'=>e= .returned (.bool r)/\w=w':=h ▸ bf2 n s w
theorem cb2 (e:Ev) (ha:e.a<4294967296) (w:World):Calls prog 54 #[.agg (ecs e)] w fun x w'=>x= .returned (.bool (!right e))/\Below w.heap.size w w':=by
 obtain ⟨r,hr⟩:∃ r,right e=r:=⟨_,rfl⟩;have HR:∀ u:World,Calls prog 83 #[.agg (ecs e)] u fun x w'=>x= .returned (.bool r)/\Below u.heap.size u w':=fun u=>eright_eq ha hr u
 rw [hr];obtain ⟨kind,i,k,n,a,len,p⟩:=e;unfold ecs at HR ⊢;simp only at HR ⊢;generalize (⟨p.toArray⟩:ByteArray)=s at*;clear hr ha;have hb:=aa0 w (.cells #[.int .i64 kind,.int .i64 i,.int .i64 k,.int .i64 n,.int .u32 (a:Nat),.int .i64 len,.string s] 65);have HB:=Lib.hid hb;clear hb;go_enter Tryz.func54,Tryz.ntmps54;go_wp2_with (go_at_call 83; refine (HR _).mono ?_; rintro e w5 ⟨rfl,hb5⟩);go_ret;exact ⟨rfl,next HB.out hb5⟩
def _root_.Go.Proofs.YtlklghedfaeepaaGreat.Sc.allRight (l:List Ev):Bool:=l.all fun e=>right e
theorem av6 {A:Option Addr} {n cap:Nat} {es:List Ev} {w:World} (h:El w A n cap es):
  Calls prog 82 #[.slice A n cap,Value.func (.func 54) #[] #[]] w fun x w'=>∃ z:Int,x= .returned (.int .i64 z)/\decide (0<=z)=!Sc.allRight es/\Below w.heap.size w w':=by
 have hn:=h.len;have hmx:=h.max;have hmx':n<=9223372036854775807:=by unfold maxLen at hmx; omega
 have H:=Lib.hid h;clear h hmx;go_enter Tryz.func82,Tryz.ntmps82;go_wp2_with fail;go_loopw [8] (fun v wr=>∃ k:Nat,v= .int .i64 (k:Nat)/\k<=n/\Hid ((∀ (j:Nat) (hj:j<es.length),j<k->right es[j]=true)/\Below w.heap.size w wr)) (fun v _=>n - (intOf v).toNat)
 case atStart=>exact ⟨0,rfl,Nat.zero_le _,Lib.hid ⟨fun j hj h=>absurd h (by omega),.refl _ _⟩⟩
 case round=>
  obtain ⟨k,rfl,hkn,R⟩:=hrel;by_cases hlt:k<n
  ·have d1:decide ((k:Int)<(n:Int))=true:=decide_eq_true (by omega)
   have hk:k<es.length:=by omega
   obtain ⟨e,he⟩:∃ e,es[k]=e:=⟨_,rfl⟩;obtain ⟨b,off,rfl⟩:=H.out.plain (by omega);have hfit:=(H.out.good e (by rw [<- he]; exact List.getElem_mem hk)).fits;obtain ⟨c0,c1,c2,c3,c4,c5,c6⟩:=(H.out.held R.out.2).at_ hk he;have HW0:=fun u=>cb2 e hfit.a u
   obtain ⟨r,hr⟩:∃ r,right e=r:=⟨_,rfl⟩;rw [hr] at HW0;have HW:∀ u,Calls prog 54 #[.agg #[.int .i64 e.kind,.int .i64 e.i,.int .i64 e.k,.int .i64 e.n,.int .u32 (e.a:Nat),.int .i64 e.len,.string ⟨e.p.toArray⟩]] u fun x w'=>x= .returned (.bool (!r))/\Below u.heap.size u w':=HW0
   have EH:=H3 hk he hr;clear HW0 hr he hfit;generalize e.kind=y0 at*;generalize e.i=y1 at*;generalize e.k=y2 at*;generalize e.n=y3 at*;generalize e.a=y4 at*;generalize e.len=y5 at*;generalize (⟨e.p.toArray⟩:ByteArray)=s at*;have i1:(k:Int)<(n:Int):=by omega
   cases r with
   |true=>
    go_wp2_with (go_at_call 54; refine (HW _).mono ?_; rintro e5 w5 ⟨rfl,hb5⟩);have R2:=Lib.hid (And.intro (show ∀ (j:Nat) (hj:j<es.length),j<k+1->right es[j]=true from fun j hj hjk=>by
     by_cases e1:j=k
     ·subst e1; rw [EH.out.2.1,EH.out.2.2]
     ·exact R.out.1 j hj (by omega)) (R.out.2.trans (hb5.mono R.out.2.size)))
    go_roundw
    case rel=>exact ⟨k+1,by go_num,by omega,R2⟩
    case measure=>simp [intOf]; omega
   |false=>
    go_wp2_with (go_at_call 54; refine (HW _).mono ?_; rintro e5 w5 ⟨rfl,hb5⟩);go_ret;refine ⟨_,rfl,?_,R.out.2.trans (hb5.mono R.out.2.size)⟩;rw [decide_eq_true (by omega)];symm;rw [Bool.not_eq_true',allRight,List.all_eq_false];exact ⟨e,by rw [<- EH.out.2.1]; exact List.getElem_mem _,by rw [EH.out.2.2]; simp⟩
  ·obtain rfl:k=n:=by omega
   have d1:decide ((k:Int)<(k:Int))=false:=decide_eq_false (by omega);go_wp2_with fail;go_ret;refine ⟨_,rfl,?_,R.out.2⟩;rw [decide_eq_false (by omega)];symm;rw [Bool.not_eq_false',allRight,List.all_eq_true];intro x hx;obtain ⟨j,hj,rfl⟩:=List.getElem_of_mem hx;exact R.out.1 j hj (by omega)
theorem aj6 {A:Option Addr} {n cap:Nat} {es:List Ev} {w:World} (h:El w A n cap es):
  Calls prog 53 #[.slice A n cap,Value.func (.func 54) #[] #[]] w fun x w'=>x= .returned (.bool (!Sc.allRight es))/\Below w.heap.size w w':=by
 have HI:=av6 h;clear h;go_enter Tryz.func53,Tryz.ntmps53;go_wp2_with (go_at_call 82; refine HI.mono ?_; rintro e5 w5 ⟨z,rfl,hz,hb5⟩);go_ret;exact ⟨by first|rfl|exact aa4 hz,hb5⟩
end Go.Proofs.YtlklghedfaeepaaGreat.Sp
set_option maxRecDepth 20000
namespace Go.Proofs.YtlklghedfaeepaaGreat.Sp
open _root_.Go.Proofs.Tryz (prog)
section
open Go.RowKit Go.Maps Sc
variable {bs:List Nat}{A:Option Addr}{cap n:Nat}{w:World}{es:List Ev}
def _root_.Go.Proofs.YtlklghedfaeepaaGreat.Sc.headed (b:List Nat):Bool:=decide (3<=b.length) && Sc.scripted (b.getD 0 0:Nat) (b.getD 1 0*256+b.getD 2 0:Nat)
theorem bq0 (h:3<=bs.length):Sc.val ((bs.drop 1).take 2)=bs.getD 1 0*256+bs.getD 2 0:=by
 have:(bs.drop 1).take 2=[bs.getD 1 0,bs.getD 2 0]:=by
  apply List.ext_getElem
  ·simp; omega
  ·intro k h1 h2
   have hk:k=0\/k=1:=by simp at h2; omega
   rcases hk with rfl|rfl<;>simp [List.getD,show 1<bs.length by omega,show 2<bs.length by omega]
 rw [this]; simp [Sc.val]
theorem ret5 {fn:Func} {a b c d e:Tmp} (h:fn.results=#[.tmp a,.tmp b,.tmp c,.tmp d,.tmp e]) (tmps:Array Value) (P:Program) (w:World):
  (results fn tmps).run P w= .ok (.tuple #[tmps.getD a undef,tmps.getD b undef,tmps.getD c undef,tmps.getD d undef,tmps.getD e undef]) w:=by
 simp [results,h]
theorem df5 (h:Sl w A n cap bs) (hn:n<=262144) (hh:Sc.headed bs=false):
  Calls prog 57 #[.slice A n cap] w fun x w'=>x= .returned (.tuple #[.int .i64 0,.int .i64 0,.slice none 0 0,.int .i64 0,.int .i64 6])/\Below w.heap.size w w':=by
 have hl:=h.bytes.1;have hcap:=h.cap;have d0:decide ((262144:Int)<(n:Int))=false:=decide_eq_false (by omega);by_cases h3:n<3
 ·have d1:decide ((n:Int)<3)=true:=decide_eq_true (by omega)
  clear h hh hl;go_enter Tryz.func57,Tryz.ntmps57;go_wp2_with fail;refine bodyPost_ret (ret5 rfl _ _ _) rfl ⟨rfl,.refl _ _⟩
 ·have d1:decide ((n:Int)<3)=false:=decide_eq_false (by omega)
  unfold Sc.headed at hh;rw [hl,decide_eq_true (show 3<=n by omega),Bool.true_and] at hh;obtain ⟨b,off,rfl⟩:=h.plain (by omega);have c0:w.cell? ⟨b,off,none⟩=some (.int .u8 (bs.getD 0 0:Nat)):=h.at_ (k:=0) (by omega);have hyv:=bq0 (bs:=bs) (by omega);have G0:=fun (d:Nat) (os:Array Obj)=>ae1 (h.held (below_regrown w d os)) 1 2 (by omega) (by omega) (cap - 1)
  rw [hyv] at G0;have hx0:=h.bytes.lt 0;have hx1:=h.bytes.lt 1;have hx2:=h.bytes.lt 2;have s1:∀ W:World,(Instr.slice 49 (.slice (some ⟨b,off,none⟩) n cap) (some (.int .i64 1)) (some (.int .i64 3)) none).run prog W= .ok (.slice (some ⟨b,off+1,none⟩) 2 (cap - 1)) W:=fun W=>al5 b off n cap 1 3 (by omega) (by omega) W rfl rfl rfl rfl rfl
  obtain ⟨y,hy⟩:∃ y,y=bs.getD 1 0*256+bs.getD 2 0:=⟨_,rfl⟩;rw [<- hy] at G0 hh;have G:∀ (d:Nat) (os:Array Obj),Calls prog 49 #[.slice (some ⟨b,off+1,none⟩) 2 (cap - 1)] (Sort.grow (redrawn w d) os) fun e w'=>e= .returned (.int .u32 (y:Nat))/\Below (Sort.grow (redrawn w d) os).heap.size (Sort.grow (redrawn w d) os) w':=fun d os=>(G0 d os).mono fun _ _ h'=>⟨h'.1,h'.2 ▸ Below.refl _ _⟩
  have hyb:y<65536:=by omega
  generalize bs.getD 0 0=x at*;have HS:=fun u=>am1 hh u
  have i0:(0:Int)<(n:Int):=by omega
  have q1:IntKind.i64.wrap (y:Int)=y:=wrap64 (by omega);have k0:=cell_regrown c0;clear h hl hh hx1 hx2 hy G0 hyv c0;go_enter Tryz.func57,Tryz.ntmps57;go_upto_region 5 with fail;refine wp_region_quiet_below (by kernel_rfl) (by kernel_rfl) ?_
  repeat (go_big_quiet_step ((go_at_call 49; exact Calls.regrown_of (G _ _))))
  refine wpQuiet_nil ?_;intro _ hw';obtain ⟨⟨dq,osq⟩,hw''⟩:=hw';subst hw'';have HB:=Lib.hid (below_regrown w dq osq);clear G k0 s1;go_wp2_with (go_at_call 52; refine (HS _).mono ?_; rintro e5 w5 ⟨rfl,rfl⟩);refine bodyPost_ret (ret5 rfl _ _ _) rfl ⟨rfl,HB.out⟩
theorem decode_good (h:Sl w A n cap bs) (hn:n<=262144) (hh:Sc.headed bs=true):
  Calls prog 57 #[.slice A n cap] w fun x w'=>∃ v l k e,x= .returned (.tuple #[.int .i64 (bs.getD 0 0:Nat),.int .i64 (bs.getD 1 0*256+bs.getD 2 0:Nat),v,.int .i64 (k:Nat),.int .i64 (e:Nat)])/\Oe w.heap.size v l w'/\Evs bs l k e/\Below w.heap.size w w':=by
 have hl:=h.bytes.1;have hcap:=h.cap;have d0:decide ((262144:Int)<(n:Int))=false:=decide_eq_false (by omega);unfold Sc.headed at hh;rw [Bool.and_eq_true,decide_eq_true_eq,hl] at hh;obtain ⟨h3,hh⟩:=hh;have d1:decide ((n:Int)<3)=false:=decide_eq_false (by omega);obtain ⟨b,off,rfl⟩:=h.plain (by omega);have c0:w.cell? ⟨b,off,none⟩=some (.int .u8 (bs.getD 0 0:Nat)):=h.at_ (k:=0) (by omega);have hyv:=bq0 (bs:=bs) (by omega);have G0:=fun (d:Nat) (os:Array Obj)=>ae1 (h.held (below_regrown w d os)) 1 2 (by omega) (by omega) (cap - 1)
 rw [hyv] at G0;have hx0:=h.bytes.lt 0;have hx1:=h.bytes.lt 1;have hx2:=h.bytes.lt 2;have s1:∀ W:World,(Instr.slice 49 (.slice (some ⟨b,off,none⟩) n cap) (some (.int .i64 1)) (some (.int .i64 3)) none).run prog W= .ok (.slice (some ⟨b,off+1,none⟩) 2 (cap - 1)) W:=fun W=>al5 b off n cap 1 3 (by omega) (by omega) W rfl rfl rfl rfl rfl
 obtain ⟨y,hy⟩:∃ y,y=bs.getD 1 0*256+bs.getD 2 0:=⟨_,rfl⟩;rw [<- hy] at G0 hh ⊢;have G:∀ (d:Nat) (os:Array Obj),Calls prog 49 #[.slice (some ⟨b,off+1,none⟩) 2 (cap - 1)] (Sort.grow (redrawn w d) os) fun e w'=>e= .returned (.int .u32 (y:Nat))/\Below (Sort.grow (redrawn w d) os).heap.size (Sort.grow (redrawn w d) os) w':=fun d os=>(G0 d os).mono fun _ _ h'=>⟨h'.1,h'.2 ▸ Below.refl _ _⟩
 have hyb:y<65536:=by omega
 have H:=Lib.hid h;have HE:=fun u (hu:Below w.heap.size w u)=>al4 (h.held hu) h3 hn
 generalize bs.getD 0 0=x at*;have HS:=fun u=>am1 hh u
 have i0:(0:Int)<(n:Int):=by omega
 have q1:IntKind.i64.wrap (y:Int)=y:=wrap64 (by omega);have k0:=cell_regrown c0;clear h hl hh hx1 hx2 hy G0 hyv c0;go_enter Tryz.func57,Tryz.ntmps57;go_upto_region 5 with fail;refine wp_region_quiet_below (by kernel_rfl) (by kernel_rfl) ?_
 repeat (go_big_quiet_step ((go_at_call 49; exact Calls.regrown_of (G _ _))))
 refine wpQuiet_nil ?_;intro _ hw';obtain ⟨⟨dq,osq⟩,hw''⟩:=hw';subst hw'';have HB:=Lib.hid (below_regrown w dq osq);have HE2:=HE _ (below_regrown w dq osq);clear G k0 s1 HE;go_wp2_with (first|(go_at_call 52; refine (HS _).mono ?_; rintro e5 w5 ⟨rfl,rfl⟩)|(go_at_call 84; refine HE2.mono ?_; rintro e6 w6 ⟨v,l,k,e,rfl,hO,hE,hb6⟩));refine bodyPost_ret (ret5 rfl _ _ _) rfl ⟨v,l,k,e,rfl,hO.mono HB.out.size,hE,next HB.out hb6⟩
theorem ax3 {k:Nat} (hk:k<es.length):flat (es.take (k+1))=flat (es.take k)++ebytes es[k]:=by
 rw [List.take_succ_eq_append_getElem hk,dh0]
theorem bh8 (es:List Ev) (k:Nat):(flat (es.take k)).length<=(flat es).length:=by
 have h:flat es=flat (es.take k)++flat (es.drop k):=by rw [<- bn0,List.take_append_drop]
 rw [h,List.length_append]; omega
theorem bp2 (h:Sc.allRight es=true) {k:Nat} (hk:k<es.length):right es[k]=true:=by
 unfold Sc.allRight at h;rw [List.all_eq_true] at h;exact h _ (List.getElem_mem hk)
def z3:List Nat:=[0,0,0]
theorem make3 (w:World):(Instr.makeSlice 49 (.int .i64 3) (.int .i64 3)).run prog w= .ok (.slice (some ⟨w.heap.size,0,none⟩) 3 3) (w.alloc (.cells (cls z3) 5)):=by kernel_rfl
theorem encode_good {nn ss:Nat} (h:El w A n cap es) (hn:n<=8192) (hs:Sc.scripted nn ss=true) (hr:Sc.allRight es=true) (hbig:(flat es).length<=900000):
  Calls prog 24 #[.int .i64 (nn:Nat),.int .i64 (ss:Nat),.slice A n cap] w fun x w'=>∃ g c q,x= .returned (.tuple #[.slice (some ⟨g,0,none⟩) q c,.int .i64 0])/\q=(script nn ss es).length/\Ob w.heap.size (.slice (some ⟨g,0,none⟩) q c) (script nn ss es) w'/\Below w.heap.size w w':=by
 have d1:decide ((8192:Int)<(n:Int))=false:=decide_eq_false (by omega);have HS:=fun u=>am1 hs u
 have HC:=aj6 h;rw [hr] at HC;have hlen:=h.len;unfold Sc.scripted at hs;simp only [Bool.and_eq_true,decide_eq_true_eq] at hs;obtain ⟨⟨⟨h1,h2⟩,h3⟩,h4⟩:=hs;have h2':nn<=8:=by omega
 have h4':ss<=512:=by omega
 have H:=H4 h hr hbig hlen;clear h hr hbig hlen h1 h2 h3 h4;have mk:=make3;go_enter Tryz.func24,Tryz.ntmps24;go_upto_region 6 with (first|(go_at_call 52; refine (HS _).mono ?_; rintro e5 w5 ⟨rfl,rfl⟩)|(go_at_call 53; refine HC.mono ?_; rintro e6 w6 ⟨rfl,hb6⟩));have BG:=Blk.new w6 5 (cls z3);have hb7:=next hb6 (aa0 w6 (.cells (cls z3) 5));have hG:w.heap.size<=w6.heap.size:=hb6.size;generalize w6.alloc _=w7 at*;generalize w6.heap.size=G at*;have g0:w7.cell? ⟨G,0,none⟩=some (.int .u8 0):=BG.at_ 0;have f0:=BG.free 0;have BG8:=BG.bset 0 nn;have hb8:=hb7.setCell (p:=⟨G,0,none⟩) hG (cell nn);unfold cell at BG8 hb8;have Y:=H3 BG8 hb8 hG;clear BG hb6 hb7 hG BG8 hb8 HS HC mk;go_upto_region 7 with fail;clear g0 f0;generalize w7.setCell ⟨G,0,none⟩ (.int .u8 (nn:Int))=w8 at*;have HP:=put_l2 G 1 2 ss (by omega) (z3.set 0 nn) w8 Y.out.1 (by simp [z3]);have q1:IntKind.u32.wrap (ss:Int)=ss:=wrap32 (by omega);go_wp2_with (go_at_call 55; refine HP.mono ?_; rintro e9 w9 ⟨rfl,BG9,T9⟩);have hscr:((z3.set 0 nn).set 1 (ss / 256 % 256)).set (1+1) (ss % 256)=script nn ss []:=by
  show [nn,ss / 256 % 256,ss % 256]=[nn % 256,ss / 256 % 256,ss % 256];rw [Nat.mod_eq_of_lt (show nn<256 by omega)]
 rw [hscr] at BG9;have hO9:=Ob.of_blk BG9 Y.out.2.2 (by simp [script,Sc.two,ag2]) (n:=3) (by simp [script,Sc.two,ag2]);have hb9:=Y.out.2.1.trans (T9.below (B:=w.heap.size) (by simp; exact Y.out.2.2) Y.out.2.1.size);have S:=H2 hO9 hb9;clear HP BG9 T9 hscr hO9 hb9 Y q1;go_loopw [8,34] (fun v i wr=>∃ k g q c:Nat,i= .int .i64 (k:Nat)/\v= .slice (some ⟨g,0,none⟩) q c/\k<=n/\Hid (q=(script nn ss (es.take k)).length/\Ob w.heap.size (.slice (some ⟨g,0,none⟩) q c) (script nn ss (es.take k)) wr/\Below w.heap.size w wr)) (fun _ i _=>n - (intOf i).toNat)
 case atStart=>exact ⟨0,G,3,3,rfl,rfl,Nat.zero_le _,Lib.hid ⟨by simp [script,Sc.two,ag2],S.out.1,S.out.2⟩⟩
 case round=>
  clear S;obtain ⟨k,g,q,c,rfl,rfl,hkn,R⟩:=hrel;by_cases hlt:k<n
  ·have d2:decide ((k:Int)<(n:Int))=true:=decide_eq_true (by omega)
   have hk:k<es.length:=by rw [H.out.2.2.2]; exact hlt
   obtain ⟨e,he⟩:∃ e,es[k]=e:=⟨_,rfl⟩;obtain ⟨b,off,rfl⟩:=H.out.1.plain (by omega);have hfit:=(H.out.1.good e (by rw [<- he]; exact List.getElem_mem hk)).fits;obtain ⟨c0,c1,c2,c3,c4,c5,c6⟩:=(H.out.1.held R.out.2.2).at_ hk he;have hright:right e=true:=by rw [<- he]; exact bp2 H.out.2.1 hk
   have HB:∀ u,Calls prog 56 #[.agg #[.int .i64 e.kind,.int .i64 e.i,.int .i64 e.k,.int .i64 e.n,.int .u32 (e.a:Nat),.int .i64 e.len,.string ⟨e.p.toArray⟩]] u fun x w'=>∃ g cap q,x= .returned (.slice (some ⟨g,0,none⟩) q cap)/\q=(ebytes e).length/\Ob u.heap.size (.slice (some ⟨g,0,none⟩) q cap) (ebytes e) w'/\Below u.heap.size u w':=fun u=>bz5 hright hfit.a u
   have EH:=H2 hk he;have i1:(k:Int)<(n:Int):=by omega
   clear hright hfit he;generalize hy0:e.kind=y0 at*;generalize hy1:e.i=y1 at*;generalize hy2:e.k=y2 at*;generalize hy3:e.n=y3 at*;generalize hy4:e.a=y4 at*;generalize hy5:e.len=y5 at*;generalize hy6:(⟨e.p.toArray⟩:ByteArray)=s at*;clear hy0 hy1 hy2 hy3 hy4 hy5 hy6;obtain ⟨hbx,BX⟩:=nw wr 65 #[.int .i64 y0,.int .i64 y1,.int .i64 y2,.int .i64 y3,.int .u32 (y4:Nat),.int .i64 y5,.string s];have X:=H2 hbx BX;clear hbx BX;go_upto_region 11 with fail;generalize wr.alloc _=w10 at*;have x0:w10.cell? ⟨wr.heap.size,0,none⟩=some (.int .i64 y0):=X.out.2.at_ 0;have x1:w10.cell? ⟨wr.heap.size,1,none⟩=some (.int .i64 y1):=X.out.2.at_ 1;have x2:w10.cell? ⟨wr.heap.size,2,none⟩=some (.int .i64 y2):=X.out.2.at_ 2;have x3:w10.cell? ⟨wr.heap.size,3,none⟩=some (.int .i64 y3):=X.out.2.at_ 3;have x4:w10.cell? ⟨wr.heap.size,4,none⟩=some (.int .u32 (y4:Nat)):=X.out.2.at_ 4;have x5:w10.cell? ⟨wr.heap.size,5,none⟩=some (.int .i64 y5):=X.out.2.at_ 5;have x6:w10.cell? ⟨wr.heap.size,6,none⟩=some (.string s):=X.out.2.at_ 6;have HB10:=HB w10;clear HB c0 c1 c2 c3 c4 c5 c6;go_wp2_with fail;refine HB10.mono ?_;rintro e11 w11 ⟨g1,cp1,q1,rfl,hq1,hO1,hb11⟩;have hbw:=R.out.2.2.trans (X.out.1.mono R.out.2.2.size);have hbw2:=hbw.trans (hb11.mono hbw.size);have hOb:=(R.out.2.1.held X.out.1).held hb11;have hBy:=Ob.bytes hO1 (bi3 e);have hstep:=ax3 EH.out.1;rw [EH.out.2] at hstep;have hsc:script nn ss (es.take (k+1))=script nn ss (es.take k)++ebytes e:=by
    unfold script;rw [hstep];simp
   have hle:=bh8 es (k+1);have hl2:(script nn ss (es.take (k+1))).length=3+(flat (es.take (k+1))).length:=dj3 _ _ _;have hbg:=H.out.2.2.1;have hlen2:(script nn ss (es.take k)).length+q1=(script nn ss (es.take (k+1))).length:=by rw [hsc,List.length_append,hq1]
   have hpos:0<q1:=by rw [hq1,dg6]; omega
   obtain ⟨g',cap',w12,hrun,hO12,hgr,hat⟩:=Ob.app hOb hbw2.size hBy hpos (by omega) (c:=cp1) 49;rw [<- R.out.1] at hrun hO12;rw [<- hsc] at hO12;have hb12:=hbw2.grown hgr hbw2.size (fun kk e5=>(hOb.lt e5).2);have Z:=Lib.hid (And.intro (show q+q1=(script nn ss (es.take (k+1))).length by rw [R.out.1]; exact hlen2) (And.intro hO12 hb12));clear HB10 hbw hbw2 hOb hBy hstep hsc hle hl2 hbg hlen2 hpos hO12 hgr hat hb12 hO1 hb11 hq1 X R x0 x1 x2 x3 x4 x5 x6;go_wp2_with (first|(at_builtin; refine Lib.wpList_append_run _ rfl (.tmp 38) (.tmp 40) 49 49 rfl _ _ rfl rfl _ _ hrun ?_)|fail);go_roundw
   case rel=>exact ⟨k+1,g',q+q1,cap',by go_num,rfl,by omega,Z⟩
   case measure=>simp [intOf]; omega
  ·obtain rfl:k=n:=by omega
   have d2:decide ((k:Int)<(k:Int))=false:=decide_eq_false (by omega);have e1:es.take k=es:=List.take_of_length_le (by rw [H.out.2.2.2]; exact Nat.le_refl _);have R2:=R.out;rw [e1] at R2;have R3:=Lib.hid R2;clear R R2 e1;go_wp2_with fail;go_ret2;exact ⟨g,c,q,rfl,R3.out.1,R3.out.2.1,R3.out.2.2⟩
end
end Go.Proofs.YtlklghedfaeepaaGreat.Sp
