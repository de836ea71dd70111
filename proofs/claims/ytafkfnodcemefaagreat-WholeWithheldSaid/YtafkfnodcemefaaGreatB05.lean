import Derived.Test.YtafkfnodcemefaaGreatB04
import Derived.Deep.Cut
set_option maxHeartbeats 8000000
set_option maxRecDepth 100000
set_option maxRecDepth 20000
namespace Go.Proofs.YtafkfnodcemefaaGreat
open _root_.Go.Proofs.Tryz (prog)
open Go.RowKit Rm
def z48R:Array Value:=(List.replicate 48 (cell 0)).toArray
theorem make48 (w:World):(Instr.makeSlice 45 (I 48) (I 48)).run prog w= .ok (Lt w.heap.size 48 48) (w.alloc (.cells z48R 5)):=X
abbrev rcellsR (k:Int) (g l i a:Nat) (n:Int) (o:Bool) (s m:Nat):Array Value:=#[I k,U g,U l,U i,U a,I n,O o,U s,V m]
theorem bm8 {w:World} {b:Nat} {C:Array Value} (h:Blk 5 w b C) (off v:Nat):
  Blk 5 ((((w.setCell (Y b off) (cell (v / 16777216 % 256))).setCell (Y b (off+1)) (cell (v / 65536 % 256))).setCell (Y b (off+2)) (cell (v / 256 % 256))).setCell (Y b (off+3)) (cell (v % 256))) b
   ((((C.setIfInBounds off (cell (v / 16777216 % 256))).setIfInBounds (off+1) (cell (v / 65536 % 256))).setIfInBounds (off+2) (cell (v / 256 % 256))).setIfInBounds (off+3) (cell (v % 256))):=
 (((h.store _ _).store _ _).store _ _).store _ _
theorem ck0 (w:World) (b off:Nat) (u v x y:Value):Turn [b] w ((((w.setCell (Y b off) u).setCell (Y b (off+1)) v).setCell (Y b (off+2)) x).setCell (Y b (off+3)) y):=
 (((Turn.setCell w sn _).trans (Turn.setCell _ sn _)).trans (Turn.setCell _ sn _)).trans (Turn.setCell _ sn _)
def put4 (C:Array Value) (off v:Nat):Array Value:=(((C.setIfInBounds off (cell (v / 16777216 % 256))).setIfInBounds (off+1) (cell (v / 65536 % 256))).setIfInBounds (off+2) (cell (v / 256 % 256))).setIfInBounds (off+3) (cell (v % 256))
def put2 (C:Array Value) (off v:Nat):Array Value:=(C.setIfInBounds off (cell (v / 256 % 256))).setIfInBounds (off+1) (cell (v % 256))
theorem ad4 (C:Array Value) (off v:Nat):(put4 C off v).size=C.size:=by simp [put4]
theorem bf7 (C:Array Value) (off v:Nat):(put2 C off v).size=C.size:=by simp [put2]
theorem ac2 {g off cap v:Nat} (hv:v<4294967296) {C:Array Value} {w:World} (h:Blk 5 w g C) (hs:off+4<=C.size):
  Q 57 #[Mt g off 4 cap,U v] w fun e w'=>e= .returned (.tuple #[])/\Blk 5 w' g (put4 C off v)/\Turn [g] w w':=
 (an5 g off cap v hv C w h hs).mono fun _ _ ⟨he,hw⟩=>⟨he,hw ▸ bm8 h off v,hw ▸ ck0 ..⟩
theorem bq9 {g off cap v:Nat} (hv:v<65536) {C:Array Value} {w:World} (h:Blk 5 w g C) (hs:off+2<=C.size):
  Q 57 #[Mt g off 2 cap,U v] w fun e w'=>e= .returned (.tuple #[])/\Blk 5 w' g (put2 C off v)/\Turn [g] w w':=
 (au7 g off cap v hv C w h hs).mono fun _ _ ⟨he,hw⟩=>⟨he,hw ▸ (h.store _ _).store _ _,hw ▸ (Turn.setCell w sn _).trans (Turn.setCell _ sn _)⟩
def StR (w:World) (b:Nat) (rc:Array Value) (u:World) (C:Array Value):Prop:=Blk 5 u b C/\Blk 160 u w.heap.size rc/\Bw w u
section
variable {w u u':World} {b:Nat} {rc C C':Array Value}
theorem StR.put (h:StR w b rc u C) (hn:w.heap.size≠b/\w.heap.size<=b) (hB:Blk 5 u' b C') (hT:Turn [b] u u'):StR w b rc u' C':=
 ⟨hB,h.2.1.turn hT (by simpa using hn.1),h.2.2.trans (hT.below (by simpa using hn.2) h.2.2.size)⟩
theorem StR.set (h:StR w b rc u C) (hn:w.heap.size≠b/\w.heap.size<=b) (j:Nat) (x:Value):StR w b rc (u.setCell (Y b j) x) (C.setIfInBounds j x):=
 h.put hn (h.1.store j x) (Turn.setCell u sn x)
theorem StR.drew (h:StR w b rc u C):StR w b rc u.drew C:=⟨h.1,h.2.1,h.2.2.drew⟩
end
theorem sum_lt (r:Rc):Crc.all (body r)<4294967296:=Crc.all_lt _ (an0 r)
theorem bs3 (z:Int):(Yy (z % 256):Value)=cell (low z):=by
 unfold cell low;rw [show (((z % 256).toNat:Nat):Int)=z % 256 by omega]
theorem ay9 (k:Int) (g l i a:Nat) (n:Int) (s m:Nat) (o:Bool):
  put4 ((put4 (put4 (put4 (put4 (put2 (if o then ((z48R.setIfInBounds 0 (Yy (k % 256))).setIfInBounds 1 (Yy 1)) else (z48R.setIfInBounds 0 (Yy (k % 256)))) 2 m) 4 g) 8 l) 12 i) 16 a).setIfInBounds 20 (Yy (n % 256))) 24 s=cls (body ⟨k,g,l,i,a,n,o,s,m⟩++[0,0,0,0]):=by
 rw [bs3,bs3]
 cases o<;>simp [put4,put2,z48R,cls,body,Rm.two,Rm.four,List.replicate]<;>rfl
theorem be6 (r:Rc):put4 (cls (body r++[0,0,0,0])) 44 (Crc.all (body r))=cls (Rm.bytes r):=by
 unfold Rm.bytes;generalize Crc.all (body r)=x;simp [put4,cls,body,Rm.two,Rm.four]
theorem cd8 (k:Int) (g l i a:Nat) (n:Int) (o:Bool) (s m:Nat) (ha:a<4294967296) (hr:right ⟨k,g,l,i,a,n,o,s,m⟩=false) (w:World):
  Q 171 #[.agg (rcellsR k g l i a n o s m)] w (Rr0 w (.slice none 0 0)):=by
 have R:=Z (am3 k g l i a n o s m ha);rw [hr] at R;clear hr;have hb0:=aa0 w (.cells (rcellsR k g l i a n o s m) 160);dsimp only [rcellsR] at hb0;go_enter Tryz.func171,Tryz.ntmps171;go_wp2_with fail;refine (R.out _).mono ?_;rintro e w1 ⟨rfl,hb⟩;have HB:=Z (next hb0 hb);clear hb hb0;go_wp2_with fail;go_ret;exact ⟨rfl,HB.out⟩
theorem ax8 (k:Int) (g l i a:Nat) (n:Int) (o:Bool) (s m:Nat) (hf:(⟨k,g,l,i,a,n,o,s,m⟩:Rc).Fits) (hr:right ⟨k,g,l,i,a,n,o,s,m⟩=true) (w:World):
  Kc 171 #[.agg (rcellsR k g l i a n o s m)] w fun e w'=>∃ b,e= .returned (Lt b 48 48)/\w.heap.size<=b/\Blk 5 w' b (cls (Rm.bytes ⟨k,g,l,i,a,n,o,s,m⟩))/\Bw w w':=by
 obtain ⟨-,-,hg,hl,hi,ha,-,-,hs,hm⟩:=hf;simp only at hg hl hi ha hs hm;have hwm:IntKind.u32.wrap (m:Int)=(m:Int):=by simp [IntKind.wrap,IntKind.bits,IntKind.signed]; omega
 have R:=Zq (am3 k g l i a n o s m ha);rw [hr] at R;have HR:=Zq hr;clear hr;have hmk:=make48;have hC:=Zq (Blk.new w 160 (rcellsR k g l i a n o s m));have hb0:=aa0 w (.cells (rcellsR k g l i a n o s m) 160);dsimp only [rcellsR] at hb0 hC;go_enter Tryz.func171,Tryz.ntmps171;go_wp2_with fail;refine (R.out _).mono ?_;rintro e w1 ⟨rfl,hb⟩;have hC1:=hC.out.held hb;have hb1:=next hb0 hb;have hlt:w.heap.size<w1.heap.size:=hC1.lt;clear hb0 hb hC;go_upto_region 4 with (fail);have hz:=Blk.new w1 5 z48R;have hC2:=hC1.more (.cells z48R 5);have hb2:=next hb1 (aa0 w1 (.cells z48R 5));generalize w1.alloc _=u at*;have hge:w.heap.size<=w1.heap.size:=G
 have hne:w.heap.size≠w1.heap.size:=G
 generalize w1.heap.size=b at*;have NE:=H2 hne hge;clear hC1 hb1 hlt hne hge;have z0:u.cell? (Y b 0)=some (cell 0):=hz.at_ 0;have z1:u.cell? (Y b 1)=some (cell 0):=hz.at_ 1;have f0:u.frozen? (Y b 0)=false:=hz.free 0;have f1:u.frozen? (Y b 1)=false:=hz.free 1;have c0:u.cell? (Y w.heap.size 0)=some (I k):=hC2.at_ 0;have c6:u.cell? (Y w.heap.size 6)=some (O o):=hC2.at_ 6;have hSt:StR w b (rcellsR k g l i a n o s m) u z48R:=⟨hz,hC2,hb2⟩;have Z:=Zq hSt;clear hz hC2 hb2 hSt
 cases o
 ·go_wp2_with fail
  have S0:=Z.out.set NE.out 0 (Yy (k % 256));have P:=Zq S0;clear S0 Z z0 z1 f0 f1 c0 c6;generalize (u.setCell (Y b 0) (Yy (k % 256)))=v0 at*;obtain ⟨C0,hC0⟩:∃ C0,C0=(z48R.setIfInBounds 0 (Yy (k % 256))):=⟨_,rfl⟩;rw [<- hC0] at P;have sz0:C0.size=48:=by rw [hC0]; simp [z48R]
  have E0:=Zq hC0;clear hC0;have cc:v0.cell? (Y w.heap.size 8)=some (V m):=P.out.2.1.at_ 8
  skip
  go_region_with (go_at_call 57; refine (bq9 (g:=b) (off:=2) hm P.out.drew.1 G).mono ?_; rintro e v1 ⟨rfl,hB,hT⟩);clear cc;have S2:=P.out.drew.put NE.out hB hT;clear hB hT P;have P:=Zq S2;clear S2;obtain ⟨C1,hC1⟩:=eX (put2 C0 2 m);rw [<- hC1] at P;have sz1:C1.size=48:=by rw [hC1,bf7,sz0]
  have E1:=Zq hC1;clear hC1;have cc:v1.cell? (Y w.heap.size 1)=some (U g):=P.out.2.1.at_ 1;go_wp2_with fail;go_region_with (go_at_call 57; refine (ac2 (g:=b) (off:=4) hg P.out.drew.1 G).mono ?_; rintro e v2 ⟨rfl,hB,hT⟩);clear cc;have S2:=P.out.drew.put NE.out hB hT;clear hB hT P;have P:=Zq S2;clear S2;obtain ⟨C2,hC2⟩:=eX (put4 C1 4 g);rw [<- hC2] at P;have sz2:C2.size=48:=by rw [hC2,ad4,sz1]
  have E2:=Zq hC2;clear hC2;have cc:v2.cell? (Y w.heap.size 2)=some (U l):=P.out.2.1.at_ 2;go_wp2_with fail;go_region_with (go_at_call 57; refine (ac2 (g:=b) (off:=8) hl P.out.drew.1 G).mono ?_; rintro e v3 ⟨rfl,hB,hT⟩);clear cc;have S2:=P.out.drew.put NE.out hB hT;clear hB hT P;have P:=Zq S2;clear S2;obtain ⟨C3,hC3⟩:=eX (put4 C2 8 l);rw [<- hC3] at P;have sz3:C3.size=48:=by rw [hC3,ad4,sz2]
  have E3:=Zq hC3;clear hC3;have cc:v3.cell? (Y w.heap.size 3)=some (U i):=P.out.2.1.at_ 3;go_wp2_with fail;go_region_with (go_at_call 57; refine (ac2 (g:=b) (off:=12) hi P.out.drew.1 G).mono ?_; rintro e v4 ⟨rfl,hB,hT⟩);clear cc;have S2:=P.out.drew.put NE.out hB hT;clear hB hT P;have P:=Zq S2;clear S2;obtain ⟨C4,hC4⟩:=eX (put4 C3 12 i);rw [<- hC4] at P;have sz4:C4.size=48:=by rw [hC4,ad4,sz3]
  have E4:=Zq hC4;clear hC4;have cc:v4.cell? (Y w.heap.size 4)=some (U a):=P.out.2.1.at_ 4;go_wp2_with fail;go_region_with (go_at_call 57; refine (ac2 (g:=b) (off:=16) ha P.out.drew.1 G).mono ?_; rintro e v5 ⟨rfl,hB,hT⟩);clear cc;have S2:=P.out.drew.put NE.out hB hT;clear hB hT P;have P:=Zq S2;clear S2;obtain ⟨C5,hC5⟩:=eX (put4 C4 16 a);rw [<- hC5] at P;have sz5:C5.size=48:=by rw [hC5,ad4,sz4]
  have E5:=Zq hC5;clear hC5;have c5:v5.cell? (Y w.heap.size 5)=some (I n):=P.out.2.1.at_ 5;have z20:v5.cell? (Y b 20)=some C5[20]:=(P.out.1.at_ 20).trans sn;have f20:v5.frozen? (Y b 20)=false:=P.out.1.free 20;generalize C5[20]=x20 at z20;go_wp2_with fail;clear c5 z20 f20;have S2:=P.out.set NE.out 20 (Yy (n % 256));clear P;have P:=Zq S2;clear S2;generalize v5.setCell (Y b 20) (Yy (n % 256))=v6 at*;obtain ⟨C6,hC6⟩:=eX (C5.setIfInBounds 20 (Yy (n % 256)));rw [<- hC6] at P;have sz6:C6.size=48:=by rw [hC6]; simp [sz5]
  have E6:=Zq hC6;clear hC6;have cc:v6.cell? (Y w.heap.size 7)=some (U s):=P.out.2.1.at_ 7;go_wp2_with fail;go_region_with (go_at_call 57; refine (ac2 (g:=b) (off:=24) hs P.out.drew.1 G).mono ?_; rintro e v7 ⟨rfl,hB,hT⟩);clear cc;have S2:=P.out.drew.put NE.out hB hT;clear hB hT P;have P:=Zq S2;clear S2;obtain ⟨C7,hC7⟩:=eX (put4 C6 24 s);rw [<- hC7] at P;have sz7:C7.size=48:=by rw [hC7,ad4,sz6]
  have E7:=Zq hC7;clear hC7;have EB:Hid (C7=cls (body ⟨k,g,l,i,a,n,false,s,m⟩++[0,0,0,0])):=Zq (by
   rw [E7.out,E6.out,E5.out,E4.out,E3.out,E2.out,E1.out,E0.out];exact ay9 k g l i a n s m false)
  clear E0 E1 E2 E3 E4 E5 E6 E7;have EQ:=EB.out;have BA:BytesAt v7.drew (some (Y b 0)) 44 (body ⟨k,g,l,i,a,n,false,s,m⟩):= .of_blk P.out.drew.1 _ 0 44 (aa5 G) rfl (an0 _) (fun x hx=>by
   rw [EQ,Nat.zero_add,ao3 _ _ (by simp [ac1]; omega)];congr 2;simp [List.getD,List.getElem?_append_left (show x<(body ⟨k,g,l,i,a,n,false,s,m⟩).length by rw [ac1]; exact hx)])
  have Q:=Zq BA;clear BA EQ;go_wp2_with fail;go_region_with (first|(go_at_call 195; refine (cx3 _ _ _ _ _ Q.out).mono ?_; rintro e u2 ⟨rfl,rfl⟩)|(go_at_call 57; refine (ac2 (g:=b) (off:=44) (sum_lt _) P.out.drew.1 G).mono ?_; rintro e v8 ⟨rfl,hB,hT⟩));have S2:=P.out.drew.put NE.out hB hT;clear hB hT P Q;have P:=Zq S2;clear S2;go_wp2_with fail;go_ret;refine ⟨b,rfl,NE.out.2,?_,P.out.2.2⟩;have h:=P.out.1;rw [EB.out,be6] at h;exact h
 ·go_wp2_with fail
  have S0:=Z.out.set NE.out 0 (Yy (k % 256));have S1:=S0.set NE.out 1 (Yy 1);have P:=Zq S1;clear S0 S1 Z z0 z1 f0 f1 c0 c6;generalize ((u.setCell (Y b 0) (Yy (k % 256))).setCell (Y b 1) (Yy 1))=v0 at*;obtain ⟨C0,hC0⟩:∃ C0,C0=((z48R.setIfInBounds 0 (Yy (k % 256))).setIfInBounds 1 (Yy 1)):=⟨_,rfl⟩;rw [<- hC0] at P;have sz0:C0.size=48:=by rw [hC0]; simp [z48R]
  have E0:=Zq hC0;clear hC0;have cc:v0.cell? (Y w.heap.size 8)=some (V m):=P.out.2.1.at_ 8
  skip
  go_region_with (go_at_call 57; refine (bq9 (g:=b) (off:=2) hm P.out.drew.1 G).mono ?_; rintro e v1 ⟨rfl,hB,hT⟩);clear cc;have S2:=P.out.drew.put NE.out hB hT;clear hB hT P;have P:=Zq S2;clear S2;obtain ⟨C1,hC1⟩:=eX (put2 C0 2 m);rw [<- hC1] at P;have sz1:C1.size=48:=by rw [hC1,bf7,sz0]
  have E1:=Zq hC1;clear hC1;have cc:v1.cell? (Y w.heap.size 1)=some (U g):=P.out.2.1.at_ 1;go_wp2_with fail;go_region_with (go_at_call 57; refine (ac2 (g:=b) (off:=4) hg P.out.drew.1 G).mono ?_; rintro e v2 ⟨rfl,hB,hT⟩);clear cc;have S2:=P.out.drew.put NE.out hB hT;clear hB hT P;have P:=Zq S2;clear S2;obtain ⟨C2,hC2⟩:=eX (put4 C1 4 g);rw [<- hC2] at P;have sz2:C2.size=48:=by rw [hC2,ad4,sz1]
  have E2:=Zq hC2;clear hC2;have cc:v2.cell? (Y w.heap.size 2)=some (U l):=P.out.2.1.at_ 2;go_wp2_with fail;go_region_with (go_at_call 57; refine (ac2 (g:=b) (off:=8) hl P.out.drew.1 G).mono ?_; rintro e v3 ⟨rfl,hB,hT⟩);clear cc;have S2:=P.out.drew.put NE.out hB hT;clear hB hT P;have P:=Zq S2;clear S2;obtain ⟨C3,hC3⟩:=eX (put4 C2 8 l);rw [<- hC3] at P;have sz3:C3.size=48:=by rw [hC3,ad4,sz2]
  have E3:=Zq hC3;clear hC3;have cc:v3.cell? (Y w.heap.size 3)=some (U i):=P.out.2.1.at_ 3;go_wp2_with fail;go_region_with (go_at_call 57; refine (ac2 (g:=b) (off:=12) hi P.out.drew.1 G).mono ?_; rintro e v4 ⟨rfl,hB,hT⟩);clear cc;have S2:=P.out.drew.put NE.out hB hT;clear hB hT P;have P:=Zq S2;clear S2;obtain ⟨C4,hC4⟩:=eX (put4 C3 12 i);rw [<- hC4] at P;have sz4:C4.size=48:=by rw [hC4,ad4,sz3]
  have E4:=Zq hC4;clear hC4;have cc:v4.cell? (Y w.heap.size 4)=some (U a):=P.out.2.1.at_ 4;go_wp2_with fail;go_region_with (go_at_call 57; refine (ac2 (g:=b) (off:=16) ha P.out.drew.1 G).mono ?_; rintro e v5 ⟨rfl,hB,hT⟩);clear cc;have S2:=P.out.drew.put NE.out hB hT;clear hB hT P;have P:=Zq S2;clear S2;obtain ⟨C5,hC5⟩:=eX (put4 C4 16 a);rw [<- hC5] at P;have sz5:C5.size=48:=by rw [hC5,ad4,sz4]
  have E5:=Zq hC5;clear hC5;have c5:v5.cell? (Y w.heap.size 5)=some (I n):=P.out.2.1.at_ 5;have z20:v5.cell? (Y b 20)=some C5[20]:=(P.out.1.at_ 20).trans sn;have f20:v5.frozen? (Y b 20)=false:=P.out.1.free 20;generalize C5[20]=x20 at z20;go_wp2_with fail;clear c5 z20 f20;have S2:=P.out.set NE.out 20 (Yy (n % 256));clear P;have P:=Zq S2;clear S2;generalize v5.setCell (Y b 20) (Yy (n % 256))=v6 at*;obtain ⟨C6,hC6⟩:=eX (C5.setIfInBounds 20 (Yy (n % 256)));rw [<- hC6] at P;have sz6:C6.size=48:=by rw [hC6]; simp [sz5]
  have E6:=Zq hC6;clear hC6;have cc:v6.cell? (Y w.heap.size 7)=some (U s):=P.out.2.1.at_ 7;go_wp2_with fail;go_region_with (go_at_call 57; refine (ac2 (g:=b) (off:=24) hs P.out.drew.1 G).mono ?_; rintro e v7 ⟨rfl,hB,hT⟩);clear cc;have S2:=P.out.drew.put NE.out hB hT;clear hB hT P;have P:=Zq S2;clear S2;obtain ⟨C7,hC7⟩:=eX (put4 C6 24 s);rw [<- hC7] at P;have sz7:C7.size=48:=by rw [hC7,ad4,sz6]
  have E7:=Zq hC7;clear hC7;have EB:Hid (C7=cls (body ⟨k,g,l,i,a,n,true,s,m⟩++[0,0,0,0])):=Zq (by
   rw [E7.out,E6.out,E5.out,E4.out,E3.out,E2.out,E1.out,E0.out];exact ay9 k g l i a n s m true)
  clear E0 E1 E2 E3 E4 E5 E6 E7;have EQ:=EB.out;have BA:BytesAt v7.drew (some (Y b 0)) 44 (body ⟨k,g,l,i,a,n,true,s,m⟩):= .of_blk P.out.drew.1 _ 0 44 (aa5 G) rfl (an0 _) (fun x hx=>by
   rw [EQ,Nat.zero_add,ao3 _ _ (by simp [ac1]; omega)];congr 2;simp [List.getD,List.getElem?_append_left (show x<(body ⟨k,g,l,i,a,n,true,s,m⟩).length by rw [ac1]; exact hx)])
  have Q:=Zq BA;clear BA EQ;go_wp2_with fail;go_region_with (first|(go_at_call 195; refine (cx3 _ _ _ _ _ Q.out).mono ?_; rintro e u2 ⟨rfl,rfl⟩)|(go_at_call 57; refine (ac2 (g:=b) (off:=44) (sum_lt _) P.out.drew.1 G).mono ?_; rintro e v8 ⟨rfl,hB,hT⟩));have S2:=P.out.drew.put NE.out hB hT;clear hB hT P Q;have P:=Zq S2;clear S2;go_wp2_with fail;go_ret;refine ⟨b,rfl,NE.out.2,?_,P.out.2.2⟩;have h:=P.out.1;rw [EB.out,be6] at h;exact h
end Go.Proofs.YtafkfnodcemefaaGreat
set_option maxRecDepth 20000
namespace Go.Proofs.YtafkfnodcemefaaGreat
open _root_.Go.Proofs.Tryz (prog)
open Go.RowKit Rm
section
variable {w u u':World} {rc nums:Array Value} {b cap b' cap':Nat} {bs bs':List Nat}
end
end Go.Proofs.YtafkfnodcemefaaGreat
set_option maxRecDepth 20000
namespace Go.Proofs.YtafkfnodcemefaaGreat
open _root_.Go.Proofs.Tryz (prog)
section
open Go.RowKit Rm
variable {w:World}{ad:Addr}{k n:Int}{bs:List Nat}{a cap g g' i l m s:Nat}{t:TypeId}{o:Bool}{r:Rc}
theorem bj5 (x y:Nat):val [x,y]=x*256+y:=by simp [val]
theorem ah4 (x y z u:Nat):val [x,y,z,u]=((x*256+y)*256+z)*256+u:=by simp [val]
theorem BytesAt.part {n:Nat} (h:BytesAt w (some ad) n bs) (o m:Nat) (hm:o+m<=n):BytesAt w (some (ad.add o)) m ((bs.drop o).take m):=by
 obtain ⟨h1,h2,h3,h4⟩:=h;refine ⟨by simp; omega,G,fun c hc=>h3 c (List.mem_of_mem_drop (List.mem_of_mem_take hc)),fun k hk=>?_⟩;obtain ⟨ad',e,hc⟩:=h4 (o+k) G
 cases e;refine ⟨_,rfl,?_⟩;rw [Addr.add_add,hc];congr 3;have h5:o+k<bs.length:=G
 simp [List.getD,hk,h5]
theorem cf7 (h:bs.length=48) (o:Nat) (ho:o+4<=48):(bs.drop o).take 4=[bs.getD o 0,bs.getD (o+1) 0,bs.getD (o+2) 0,bs.getD (o+3) 0]:=by
 apply List.ext_getElem
 ·simp; omega
 ·intro k h1 h2
  have hk:k<4:=by simpa using h2
  have:k=0\/k=1\/k=2\/k=3:=G
  rcases this with rfl|rfl|rfl|rfl<;>simp [List.getD,show o<bs.length by omega,show o+1<bs.length by omega,show o+2<bs.length by omega,show o+3<bs.length by omega]
theorem cr0 (h:bs.length=48) (o:Nat) (ho:o+2<=48):(bs.drop o).take 2=[bs.getD o 0,bs.getD (o+1) 0]:=by
 apply List.ext_getElem
 ·simp; omega
 ·intro k h1 h2
  have hk:k<2:=by simpa using h2
  have:k=0\/k=1:=G
  rcases this with rfl|rfl<;>simp [List.getD,show o<bs.length by omega,show o+1<bs.length by omega]
theorem ao0 (h:BytesAt w (some ad) 48 bs) (o:Nat) (ho:o+4<=48):
  Q 38 #[.slice (some (ad.add o)) 4 cap] w fun e w'=>e= .returned (U (num4 bs o:Nat))/\w=w':=by
 have k:=am6 _ 4 cap _ w (h.part o 4 ho) G
 rwa [cf7 h.1 o ho,ah4] at k
theorem de6 (h:BytesAt w (some ad) 48 bs) (o:Nat) (ho:o+2<=48):
  Q 38 #[.slice (some (ad.add o)) 2 cap] w fun e w'=>e= .returned (U (num2 bs o:Nat))/\w=w':=by
 have k:=am6 _ 2 cap _ w (h.part o 2 ho) G
 rwa [cr0 h.1 o ho,bj5] at k
theorem BytesAt.at_ {w:World} {ad:Addr} {n:Nat} {bs:List Nat} (h:BytesAt w (some ad) n bs) {k:Nat} (hk:k<n):w.cell? (ad.add k)=some (Yy (bs.getD k 0:Nat)):=by
 obtain ⟨ad',e,hc⟩:=h.2.2.2 k hk
 cases e;exact hc
theorem cut2 (b off cap:Nat) (hcap:48<=cap) (w:World):(Instr.slice 45 (Mt b off 48 cap) (some (I 2)) (some (I 4)) none).run prog w= .ok (Mt b (off+2) 2 (cap - 2)) w:=by
 have d1:(4:Int)<=(cap:Int):=G
 have d2:¬ cap=2:=G
 go_simp
theorem cut4 (b off cap:Nat) (hcap:48<=cap) (w:World):(Instr.slice 45 (Mt b off 48 cap) (some (I 4)) (some (I 8)) none).run prog w= .ok (Mt b (off+4) 4 (cap - 4)) w:=by
 have d1:(8:Int)<=(cap:Int):=G
 have d2:¬ cap=4:=G
 go_simp
theorem cut8 (b off cap:Nat) (hcap:48<=cap) (w:World):(Instr.slice 45 (Mt b off 48 cap) (some (I 8)) (some (I 12)) none).run prog w= .ok (Mt b (off+8) 4 (cap - 8)) w:=by
 have d1:(12:Int)<=(cap:Int):=G
 have d2:¬ cap=8:=G
 go_simp
theorem cut12 (b off cap:Nat) (hcap:48<=cap) (w:World):(Instr.slice 45 (Mt b off 48 cap) (some (I 12)) (some (I 16)) none).run prog w= .ok (Mt b (off+12) 4 (cap - 12)) w:=by
 have d1:(16:Int)<=(cap:Int):=G
 have d2:¬ cap=12:=G
 go_simp
theorem cut16 (b off cap:Nat) (hcap:48<=cap) (w:World):(Instr.slice 45 (Mt b off 48 cap) (some (I 16)) (some (I 20)) none).run prog w= .ok (Mt b (off+16) 4 (cap - 16)) w:=by
 have d1:(20:Int)<=(cap:Int):=G
 have d2:¬ cap=16:=G
 go_simp
theorem cut24 (b off cap:Nat) (hcap:48<=cap) (w:World):(Instr.slice 45 (Mt b off 48 cap) (some (I 24)) (some (I 28)) none).run prog w= .ok (Mt b (off+24) 4 (cap - 24)) w:=by
 have d1:(28:Int)<=(cap:Int):=G
 have d2:¬ cap=24:=G
 go_simp
structure Gets (b off cap:Nat) (bs:List Nat) (x2 x4 x8 x12 x16 x24:Nat):Prop where
 g2:∀ wx:World,BytesAt wx (some (Y b off)) 48 bs->Q 38 #[Mt b (off+2) 2 (cap - 2)] wx fun e w'=>e= .returned (U (x2:Nat))/\wx=w'
 g4:∀ wx:World,BytesAt wx (some (Y b off)) 48 bs->Q 38 #[Mt b (off+4) 4 (cap - 4)] wx fun e w'=>e= .returned (U (x4:Nat))/\wx=w'
 g8:∀ wx:World,BytesAt wx (some (Y b off)) 48 bs->Q 38 #[Mt b (off+8) 4 (cap - 8)] wx fun e w'=>e= .returned (U (x8:Nat))/\wx=w'
 g12:∀ wx:World,BytesAt wx (some (Y b off)) 48 bs->Q 38 #[Mt b (off+12) 4 (cap - 12)] wx fun e w'=>e= .returned (U (x12:Nat))/\wx=w'
 g16:∀ wx:World,BytesAt wx (some (Y b off)) 48 bs->Q 38 #[Mt b (off+16) 4 (cap - 16)] wx fun e w'=>e= .returned (U (x16:Nat))/\wx=w'
 g24:∀ wx:World,BytesAt wx (some (Y b off)) 48 bs->Q 38 #[Mt b (off+24) 4 (cap - 24)] wx fun e w'=>e= .returned (U (x24:Nat))/\wx=w'
theorem gets (b off cap:Nat) (bs:List Nat):Gets b off cap bs (num2 bs 2) (num4 bs 4) (num4 bs 8) (num4 bs 12) (num4 bs 16) (num4 bs 24):=
 ⟨fun _ h=>de6 h 2 G,fun _ h=>ao0 h 4 G,fun _ h=>ao0 h 8 G,fun _ h=>ao0 h 12 G,fun _ h=>ao0 h 16 G,fun _ h=>ao0 h 24 G⟩
theorem ap7:∃ d,prog.underlying 160=some d/\d.isRow=true:=⟨_,rfl,rfl⟩
theorem ad5 (k:Int) (g l i a:Nat) (n:Int) (o:Bool) (s m:Nat):(prog.info? 160).map (·.size)=some (rcellsR k g l i a n o s m).size:=by
 show _=some 9
 kernel_rfl
theorem ad6 {fn:Func} {p u:Tmp} (h:fn.results=#[.cell p 160,.tmp u]) {tmps:Array Value} {w:World} {g:Nat} {k:Int} {g' l i a:Nat} {n:Int} {o:Bool} {s m:Nat} {v:Value} (hp:tmps.getD p undef= K g) (hu:tmps.getD u undef=v)
  (hb:Blk 160 w g (rcellsR k g' l i a n o s m)):(results fn tmps).run prog w= .ok (.tuple #[.agg (rcellsR k g' l i a n o s m),v]) w:=by
 obtain ⟨d,h1,h2⟩:=ap7;rw [results_cell_tmp h,hp,hu];have hl:=run_loadVar_row (P:=prog) w g 160 160 _ (0,0) d hb h1 (by cases d<;>first|rfl|cases h2) (ad5 k g' l i a n o s m);simp [asAddr,hl]
theorem Blk.rec_there (h:Blk t w g (rcellsR k g' l i a n o s m)):w.there g 0 9:=fun j hj=>by
 rw [Nat.zero_add];refine ⟨?_,h.free j⟩;rw [h.at_ j,Array.getElem?_eq_getElem (show j<(rcellsR k g' l i a n o s m).size from hj)];rfl
theorem Blk.rec_rangeR {C:Array Value} (h:Blk t w g C):w.rangeAt g 0 C.toList:=fun j v hv=>by
 rw [Nat.zero_add,h.at_ j];simpa using hv
theorem am2 (k:Int) (g l i a:Nat) (n:Int) (o:Bool) (s m:Nat):(rcellsR k g l i a n o s m).all (·.oneCell')=true:=by simp [rcellsR,Value.oneCell']
theorem aq3 (vs:List Value) (C:Array Value) (h:C.size=vs.length):over C 0 vs=vs.toArray:=by
 apply Array.ext_getElem?;intro k;rw [ah7 _ _ _ G,Nat.zero_add];by_cases hk:k<vs.length
 ·rw [if_pos G]; simp
 ·rw [if_neg G,Array.getElem?_eq_none G,Array.getElem?_eq_none (by simp; omega)]
theorem Blk.rec_over {b:Nat} {k':Int} {l' i' a':Nat} {n':Int} {o':Bool} {s' m':Nat} (h:Blk t w b (rcellsR k g l i a n o s m)):
  Blk t (w.setCells b 0 (rcellsR k' g' l' i' a' n' o' s' m').toList) b (rcellsR k' g' l' i' a' n' o' s' m'):=by
 have h2:=h.setCells (rcellsR k' g' l' i' a' n' o' s' m').toList 0
 rwa [aq3 _ _ (by rfl)] at h2
theorem bb6 (hp:parse bs=r) (h:right r=false):Rm.of bs=none:=by
 unfold Rm.of;rw [hp,if_neg (by simp [h])]
theorem bb7 (hp:parse bs=r) (h:¬ Rm.bytes r=bs):Rm.of bs=none:=by
 unfold Rm.of;rw [hp,if_neg (by simp [h])]
theorem of_some (hp:parse bs=r) (hl:bs.length=48) (hr:right r=true) (h:Rm.bytes r=bs):Rm.of bs=some r:=by
 unfold Rm.of;rw [hp,if_pos ⟨hl,hr,h⟩]
theorem nil_at (w:World):BytesAt w none 0 []:=⟨rfl,aa5 G,sn,fun k hk=>absurd hk G⟩
theorem db9 (b off cap:Nat) (hcap:48<=cap) (bs:List Nat) (w:World) (h:BytesAt w (some (Y b off)) 48 bs):
  Q 193 #[Mt b off 48 cap] w (Rr0 w (.tuple #[((Rm.of bs).getD Rm.zero).val,O (Rm.of bs).isSome])):=by
 have s2:=cut2 b off cap hcap;have s4:=cut4 b off cap hcap;have s8:=cut8 b off cap hcap;have s12:=cut12 b off cap hcap;have s16:=cut16 b off cap hcap;have s24:=cut24 b off cap hcap;go_enter Tryz.func193,Tryz.ntmps193;go_wp2_with fail;obtain ⟨hb,hZ⟩:=nw w 160 #[I 0,Uu 0,Uu 0,Uu 0,Uu 0,I 0,O false,Uu 0,Vv 0];have hB:=h.held hb;have hsz:=aa1 w (.cells #[I 0,Uu 0,Uu 0,Uu 0,Uu 0,I 0,O false,Uu 0,Vv 0] 160);generalize w.alloc _=w2 at*;have c0:w2.cell? (Y b off)=some (Yy (bs.getD 0 0:Nat)):=hB.at_ (k:=0) og;have c1:w2.cell? (Y b (off+1))=some (Yy (bs.getD 1 0:Nat)):=hB.at_ (k:=1) og;have c20:w2.cell? (Y b (off+20))=some (Yy (bs.getD 20 0:Nat)):=hB.at_ (k:=20) og;have Z:=H2 hZ hb;clear hZ hb h;have G:=gets b off cap bs;have e0:=hB.lt 0;have e20:=hB.lt 20;generalize hv0:bs.getD 0 0=v0 at*;generalize hv1:bs.getD 1 0=v1 at*;generalize hv20:bs.getD 20 0=v20 at*;have hpf:=ak5 hB.2.2.1;have hpx:parse bs=⟨v0,num4 bs 4,num4 bs 8,num4 bs 12,num4 bs 16,v20,v1==1,num4 bs 24,num2 bs 2⟩:=by
  unfold parse;rw [hv0,hv1,hv20]
 have q0:IntKind.i64.wrap (v0:Int)=v0:=by rw [IntKind.wrap_i64]; omega
 have q20:IntKind.i64.wrap (v20:Int)=v20:=by rw [IntKind.wrap_i64]; omega
 have hn2:=cg8 hB.2.2.1 2;clear hv0 hv1 hv20;generalize num4 bs 4=g at*;generalize num4 bs 8=l at*;generalize num4 bs 12=i at*;generalize num4 bs 16=a at*;generalize num4 bs 24=s at*;generalize num2 bs 2=m at*;have q2:IntKind.u16.wrap (m:Int)=m:=by simp [IntKind.wrap,IntKind.bits,IntKind.signed]; omega
 have q1:((v1:Int)==1)=(v1==1):=by rw [Bool.eq_iff_iff]; simp; omega
 generalize (v1==1)=o at*;have V:=H2 hpx hpf;clear hpx hpf;replace G:=Zq G;have hBe:BytesAt (w2.alloc (.cells #[I 0,Uu 0,Uu 0,Uu 0,Uu 0,I 0,O false,Uu 0,Vv 0] 160)).drew (some (Y b off)) 48 bs:=hB.held (aa0 _ _).drew;have hBd:BytesAt w2.drew (some (Y b off)) 48 bs:=hB;go_region_held3 (fun w'=>w'.cell? (Y b off)=some (Yy (v0:Nat))/\w'.cell? (Y b (off+1))=some (Yy (v1:Nat))/\w'.cell? (Y b (off+20))=some (Yy (v20:Nat)))
  (first|exact ⟨c0,c1,c20⟩|exact ⟨held (aa0 _ _) c0,held (aa0 _ _) c1,held (aa0 _ _) c20⟩|go_keep)
  (first|(go_at_call 38; with_reducible refine (G.out.g2 _ (by first|exact hBd|exact hBe)).mono ?_; rintro e w' ⟨rfl,rfl⟩)|(go_at_call 38; with_reducible refine (G.out.g4 _ (by first|exact hBd|exact hBe)).mono ?_; rintro e w' ⟨rfl,rfl⟩)|(go_at_call 38; with_reducible refine (G.out.g8 _ (by first|exact hBd|exact hBe)).mono ?_; rintro e w' ⟨rfl,rfl⟩)|(go_at_call 38; with_reducible refine (G.out.g12 _ (by first|exact hBd|exact hBe)).mono ?_; rintro e w' ⟨rfl,rfl⟩)|(go_at_call 38; with_reducible refine (G.out.g16 _ (by first|exact hBd|exact hBe)).mono ?_; rintro e w' ⟨rfl,rfl⟩)|(go_at_call 38; with_reducible refine (G.out.g24 _ (by first|exact hBd|exact hBe)).mono ?_; rintro e w' ⟨rfl,rfl⟩))
 all_goals
  have hX:=Blk.new w2 160 (rcellsR v0 g l i a v20 o s m);have hY:Blk 160 (w2.alloc (.cells (rcellsR v0 g l i a v20 o s m) 160)) w.heap.size (rcellsR 0 0 0 0 0 0 false 0 0):=Z.out.1.more _;have hb2:=next Z.out.2 (aa0 w2 (.cells (rcellsR v0 g l i a v20 o s m) 160));have hB2:=hB.held (aa0 w2 (.cells (rcellsR v0 g l i a v20 o s m) 160));rw [hsz] at hX;generalize hu:w2.alloc (.cells (rcellsR v0 g l i a v20 o s m) 160)=u at*;have T:=Zq (And.intro hX.drew (And.intro hY.drew (And.intro hb2.drew (show BytesAt u.drew (some (Y b off)) 48 bs from hB2))));clear hBe hBd hB2 hX hY hb2 hu c0 c1 c20 q0 q1 q2 q20 hB Z G s2 s4 s8 s12 s16 s24;generalize u.drew=x at*;obtain ⟨D,hD1,hD2⟩:=ap7;have hl48:bs.length=48:=T.out.2.2.2.1;have hfit:(⟨v0,g,l,i,a,v20,o,s,m⟩:Rc).Fits:=V.out.1 ▸ V.out.2;have U:=H4 hD1 hD2 hl48 hfit;clear hD1 hD2 hl48 hfit
  cases hr:Rm.right ⟨v0,g,l,i,a,v20,o,s,m⟩
  ·have N:=H2 (cd8 v0 g l i a v20 o s m U.out.2.2.2.a hr) (bb6 V.out.1 hr)
   clear hr;go_wp2_with (first|(refine wpList_load_mid (P:=prog) rfl 160 (.tmp 4) rfl _ _ rfl _ _ T.out.1.rec_rangeR U.out.1 U.out.2.1 (ad5 v0 g l i a v20 o s m) ?_));refine (N.out.1 _).mono ?_;rintro e x2 ⟨rfl,hb3⟩;have T2:=H3 (T.out.2.1.held hb3) (next T.out.2.2.1 hb3) (T.out.2.2.2.held hb3);have hne:decide ([]=bs)=false:=decide_eq_false (fun h=>by have:=U.out.2.2.1; rw [<- h] at this; cases this);clear hb3;go_wp2_with fail;refine (aw0 (nil_at _) T2.out.2.2).mono ?_;rintro e w' ⟨rfl,rfl⟩;rw [hne];go_wp2_with (refine wpList_store_mid (P:=prog) rfl 160 (.tmp 2) (.tmp 48) rfl w.heap.size 0 (rcellsR 0 0 0 0 0 0 false 0 0) rfl rfl T2.out.1.rec_there (ad5 0 0 0 0 0 0 false 0 0) (am2 0 0 0 0 0 0 false 0 0) ?_);refine bodyPost_ret (v:= .tuple #[Rm.zero.val,O false]) (ad6 (p:=2) (u:=3) X rfl rfl T2.out.1.rec_over) rfl ⟨?_,?_⟩
   ·rw [N.out.2]; rfl
   ·exact T2.out.2.1.trans ((Turn.setCells (L:=[w.heap.size]) x2 sn 0 _).below sn T2.out.2.1.size)
  ·have N:=H2 (ax8 v0 g l i a v20 o s m U.out.2.2.2 hr) hr
   clear hr;go_wp2_with (first|(refine wpList_load_mid (P:=prog) rfl 160 (.tmp 4) rfl _ _ rfl _ _ T.out.1.rec_rangeR U.out.1 U.out.2.1 (ad5 v0 g l i a v20 o s m) ?_));refine (N.out.1 _).mono ?_;rintro e x2 ⟨b2,rfl,-,hS,hb3⟩;have hS2:BytesAt x2 (some (Y b2 0)) 48 (Rm.bytes ⟨v0,g,l,i,a,v20,o,s,m⟩):=BytesAt.cls hS (bd6 _) (by rw [aj7]; omega);have T2:=H5 (T.out.2.1.held hb3) (next T.out.2.2.1 hb3) (T.out.2.2.2.held hb3) hS2 (T.out.1.held hb3);clear hb3 hS hS2
   cases he:decide (Rm.bytes ⟨v0,g,l,i,a,v20,o,s,m⟩=bs)
   ·have HE:=Zq he
    clear he;go_wp2_with fail;refine (aw0 T2.out.2.2.2.1 T2.out.2.2.1).mono ?_;rintro e w' ⟨rfl,rfl⟩;rw [HE.out];go_wp2_with (refine wpList_store_mid (P:=prog) rfl 160 (.tmp 2) (.tmp 48) rfl w.heap.size 0 (rcellsR 0 0 0 0 0 0 false 0 0) rfl rfl T2.out.1.rec_there (ad5 0 0 0 0 0 0 false 0 0) (am2 0 0 0 0 0 0 false 0 0) ?_);refine bodyPost_ret (v:= .tuple #[Rm.zero.val,O false]) (ad6 (p:=2) (u:=3) X rfl rfl T2.out.1.rec_over) rfl ⟨?_,?_⟩
    ·rw [bb7 V.out.1 (of_decide_eq_false HE.out)]; rfl
    ·exact T2.out.2.1.trans ((Turn.setCells (L:=[w.heap.size]) x2 sn 0 _).below sn T2.out.2.1.size)
   ·have HE:=Zq he
    clear he;go_wp2_with fail;refine (aw0 T2.out.2.2.2.1 T2.out.2.2.1).mono ?_;rintro e w' ⟨rfl,rfl⟩;rw [HE.out];go_wp2_with (first
     |(refine wpList_load_mid (P:=prog) rfl 160 (.tmp 4) rfl _ _ rfl _ _ T2.out.2.2.2.2.rec_rangeR U.out.1 U.out.2.1 (ad5 v0 g l i a v20 o s m) ?_)
     |(refine wpList_store_mid (P:=prog) rfl 160 (.tmp 2) (.tmp 49) rfl w.heap.size 0 (rcellsR v0 g l i a v20 o s m) rfl rfl T2.out.1.rec_there (ad5 v0 g l i a v20 o s m) (am2 v0 g l i a v20 o s m) ?_))
    refine bodyPost_ret (v:= .tuple #[.agg (rcellsR v0 g l i a v20 o s m),O true]) (ad6 (p:=2) (u:=3) X rfl rfl T2.out.1.rec_over) rfl ⟨?_,?_⟩
    ·rw [of_some V.out.1 U.out.2.2.1 N.out.2 (of_decide_eq_true HE.out)]; rfl
    ·exact T2.out.2.1.trans ((Turn.setCells (L:=[w.heap.size]) x2 sn 0 _).below sn T2.out.2.1.size)
end
section
open Go.RowKit Go.Maps Go.WideShapes
open Go.WideElems (Fit rd rg rd_key rg_of)
variable {D:DataW Value}{cnt:Nat}
structure Ke (P:Program) (k:TypeId) (α:Type) where
 enc:α->Value
 lit:α->Lit
 ok:α->Prop
 law:Keyed P k
 made:∀ x,ok x->keyOf P k (enc x)=some (lit x)
 inv:∀ v l,keyOf P k v=some l->∃ x,ok x/\v=enc x/\l=lit x
 inj:∀ x y,ok x->ok y->lit x=lit y->x=y
def asIs (v:Value):Option (DataW Value×List MemPlace):=some (.held v,[])
theorem bc9 {a b:Value} (h:(DataW.held a:DataW Value)= .held b):a=b:=by cases h; rfl
section
variable {P:Program} {k t e:TypeId} {α:Type} {E:Ke P k α} {w w':World} {b r n:Nat} {f:α->Option Value}
def Sees (E:Ke P k α) (D:DataW Value) (f:α->Option Value):Prop:=
 ∀ z,E.ok z->(∀ v,D.atKey (E.lit z) (.held v)= .held ((f z).getD v))/\Maps.has D (E.lit z)=(f z).isSome
def Mk (E:Ke P k α) (w:World) (b n:Nat) (f:α->Option Value):Prop:=
 ∃ D:DataW Value,w.ownsMap P k asIs b (Maps.size D) D/\Maps.size D=n/\Sees E D f
theorem Ke.isKey (E:Ke P k α) {z:α} (h:E.ok z):WideAt.IsKeyLit (E.lit z):=E.law.key (E.made z h)
theorem Ke.lit_ne (E:Ke P k α) {z i:α} (hz:E.ok z) (hi:E.ok i) (h:z≠i):E.lit z≠E.lit i:=fun e=>h (E.inj z i hz hi e)
theorem Mk.lt (h:Mk E w b n f):b<w.heap.size:=by obtain ⟨D,h,_⟩:=h; exact h.lt
theorem Mk.isMap (h:Mk E w b n f):∃ es clock,w.heap[b]?=some (.map es clock):=by obtain ⟨D,⟨es,clock,h,_⟩,_⟩:=h; exact ⟨es,clock,h⟩
theorem Mk.of_block (h:Mk E w b n f) (hb:w'.heap[b]?=w.heap[b]?):Mk E w' b n f:=by
 obtain ⟨D,⟨es,clock,h1,r⟩,S⟩:=h;exact ⟨D,⟨es,clock,hb.trans h1,r⟩,S⟩
theorem Mk.held (h:Mk E w b n f) (hb:Below w.heap.size w w'):Mk E w' b n f:=h.of_block (hb.block _ h.lt)
theorem Mk.new (E:Ke P k α) (w:World):Mk E (w.alloc (.map #[] 0)) w.heap.size 0 (fun _=>none):=
 ⟨.map [],World.ownsMap_made _ _ _ _,rfl,fun _ _=>⟨fun _=>rfl,rfl⟩⟩
theorem aj1 {n:Nat} (h:w.ownsMap P k asIs b n D):w.ownsMap P k asIs b (Maps.size D) D:=by
 obtain ⟨es,clock,h1,F,hs,rfl⟩:=h;exact ⟨es,clock,h1,F,by simp [Maps.size,length_sorted],rfl⟩
theorem Mk.look (h:Mk E w b n f) (ht:P.underlying t=some (.map k e)) {z:Value} (hz:(zeroValue e).run P w= .ok z w) {i:α} (hw:E.ok i):
  (Instr.lookup t (.map (some b)) (E.enc i) false).run P w= .ok ((f i).getD z) w:=by
 obtain ⟨D,h,-,S⟩:=h;obtain ⟨v,ps,hrun,hv⟩:=h.lookup E.law ht hz (zd:= .held z) (zp:=[]) rfl (E.made i hw);rw [hrun];simp only [asIs,Option.some.injEq,Prod.mk.injEq] at hv;rw [bc9 (hv.1.trans ((S i hw).1 z))]
theorem Mk.look_ok (h:Mk E w b n f) (ht:P.underlying t=some (.map k e)) {z:Value} (hz:(zeroValue e).run P w= .ok z w) {i:α} (hw:E.ok i):
  (Instr.lookup t (.map (some b)) (E.enc i) true).run P w= .ok (.tuple #[(f i).getD z,O (f i).isSome]) w:=by
 obtain ⟨D,h,-,S⟩:=h;obtain ⟨v,ps,hrun,hv⟩:=h.look_ok E.law ht hz (zd:= .held z) (zp:=[]) rfl (E.made i hw);rw [hrun,(S i hw).2];simp only [asIs,Option.some.injEq,Prod.mk.injEq] at hv;rw [bc9 (hv.1.trans ((S i hw).1 z))]
theorem bm0 (ht:P.underlying t=some (.map k e)) {z:Value} (hz:(zeroValue e).run P w= .ok z w) {i:α} (hw:E.ok i):
  (Instr.lookup t (.map none) (E.enc i) true).run P w= .ok (.tuple #[z,O false]) w:=by
 have h:=Maps.look_nil true E.law ht hz (E.made i hw);simpa using h
theorem Mk.len (h:Mk E w b n f) (ht:P.underlying t=some (.map k e)) (ty:TypeId):(Builtin.len_ #[t] ty #[.map (some b)]).run P w= .ok (I (n:Int)) w:=by
 obtain ⟨D,h,rfl,-⟩:=h;exact h.len ht ty
section
variable [DecidableEq α]
def upd (f:α->Option Value) (i:α) (v:Value):α->Option Value:=fun z=>if z=i then some v else f z
theorem upd_same (f:α->Option Value) (i:α) (v:Value):upd f i v i=some v:=by simp [upd]
theorem cb7 (f:α->Option Value) {i z:α} (h:z≠i) (v:Value):upd f i v z=f z:=by simp [upd,h]
theorem Sees.put (hD:Maps.IsMap D) (S:Sees E D f) {i:α} (hi:E.ok i) (v:Value):Sees E (D.put (E.lit i) (.held v)) (upd f i v):=by
 intro z hz;by_cases h:z=i
 ·subst h
  rw [upd_same];exact ⟨fun u=>by rw [atKey_put_same hD (E.isKey hz)]; rfl,by rw [has_put_same hD (E.isKey hz)]; rfl⟩
 ·rw [cb7 f h]
  exact ⟨fun u=>by rw [atKey_put_other (E.lit_ne hz hi h)]; exact (S z hz).1 u,by rw [has_put_other (E.lit_ne hz hi h)]; exact (S z hz).2⟩
theorem Mk.store (h:Mk E w b n f) (ht:P.underlying t=some (.map k e)) (hN:n<maxLen) {i:α} (hw:E.ok i) (v:Value):
  ∃ w',(Instr.mapUpdate t (.map (some b)) (E.enc i) v).run P w= .ok () w'/\Mk E w' b (if (f i).isSome then n else n+1) (upd f i v)/\w.grownBy w' (some b)/\w'.heap.size=w.heap.size:=by
 obtain ⟨D,h,hn,S⟩:=h;obtain ⟨w',hrun,h',hg⟩:=h.store E.law ht G (E.made i hw) (val:=v) (d:= .held v) (ps:=[]) rfl;have hsz:Maps.size (D.put (E.lit i) (.held v))=if (f i).isSome then n else n+1:=by
  rw [<- (S i hw).2,Maps.size_put (h.tidy E.law),hn]
 obtain ⟨es0,c0,es1,c1,hb0,rfl⟩:=id hg;exact ⟨_,hrun,⟨_,aj1 h',hsz,S.put h.isMap hw v⟩,hg.grown,by simp [ChangeMaps.setBlock]⟩
end
def Rg (E:Ke P k α) (w:World) (b r n:Nat) (f:α->Option Value) (left:α->Bool) (cnt:Nat):Prop:=
 ∃ (D:DataW Value) (m:Nat) (L:Lit->Bool),w.ranges P k asIs b r m D L cnt/\Maps.size D=n/\Sees E D f/\∀ z,E.ok z->L (E.lit z)=left z
theorem Rg.map {left:α->Bool} (h:Rg E w b r n f left cnt):Mk E w b n f:=by
 obtain ⟨D,m,L,h,hn,S,_⟩:=h;exact ⟨D,aj1 h.owns,hn,S⟩
theorem Rg.left_eq {left:α->Bool} (h:Rg E w b r n f left cnt):w.rangeLeft b r=cnt:=by obtain ⟨D,n,L,h,S,_⟩:=h; exact h.left_eq
theorem Mk.range (h:Mk E w b n f) (ht:P.underlying t=some (.map k e)):
  ∃ w',(Instr.range t (.map (some b))).run P w= .ok (K w.heap.size) w'/\Rg E w' b w.heap.size n f (fun z=>(f z).isSome) n/\w.grownBy w' none/\w'.heap.size=w.heap.size+1:=by
 obtain ⟨D,h,rfl,S⟩:=h;obtain ⟨w',hrun,hr,hg,hs⟩:=h.range E.law ht;exact ⟨w',hrun,⟨D,_,_,hr,rfl,S,fun z hz=>(S z hz).2⟩,hg,hs⟩
section
variable [DecidableEq α]
theorem Ke.sameKey (E:Ke P k α) {z i:α} (hz:E.ok z) (hi:E.ok i):(E.lit z).sameKey (E.lit i)=decide (z=i):=by
 by_cases h:z=i
 ·subst h; rw [WideAt.sameKey_self (E.isKey hz)]; simp
 ·rw [sameKey_ne (E.lit_ne hz hi h)]; simp [h]
theorem Rg.next {left:α->Bool} (h:Rg E w b r n f left cnt) (ty:TypeId):
  (cnt=0/\(∀ z,E.ok z->left z=false)/\(Instr.next (K r) false ty).run P w= .ok (.tuple #[O false]) w)\/
  ∃ (i:α) (v:Value) (w':World) (cnt':Nat),E.ok i/\left i=true/\f i=some v/\(Instr.next (K r) false ty).run P w= .ok (.tuple #[O true,E.enc i,v]) w'/\
   Rg E w' b r n f (fun z=>left z && !decide (z=i)) cnt'/\cnt'<cnt/\w.grownBy w' (some r)/\w'.heap.size=w.heap.size/\(Instr.entry (K r)).run P w'= .ok (.tuple #[E.enc i,v]) w':=by
 obtain ⟨D,m,L,h,hn,S,hL⟩:=h;rcases h.next E.law ty with ⟨h0,hl,hrun⟩|⟨key,v,kl,y,w',cnt',hkey,hlk,hv,hat,hrun,hrg,hlt,hgr,hsz,hen⟩
 ·exact .inl ⟨h0,fun z hz=>by rw [<- hL z hz]; exact hl _,hrun⟩
 ·obtain ⟨i,hi,rfl,rfl⟩:=E.inv _ _ hkey
  simp only [asIs,Option.some.injEq] at hv;subst hv;have hf:f i=some v:=by
   have hh:(f i).isSome=true:=by rw [<- (S i hi).2]; exact has_true_of_atKey hat
   obtain ⟨u,hu⟩:=Option.isSome_iff_exists.1 hh;have:=(S i hi).1 v;rw [hat,hu] at this;rw [hu,bc9 this];rfl
  exact .inr ⟨i,v,w',cnt',hi,by rw [<- hL i hi]; exact hlk,hf,hrun,⟨D,m,_,hrg,hn,S,fun z hz=>by simp only [hL z hz,E.sameKey hz hi]⟩,hlt,hgr,hsz,hen⟩
end
end
end
section
open Go.RowKit Go.Maps Go.WideMaps
variable {z:Int}{α:Type}
theorem ap2:laidOutB prog=true:=X
structure Pk where
 a:Nat
 n:Int
deriving DecidableEq
structure Ky where
 a:Nat
 n:Int
 id:Nat
deriving DecidableEq
def Pk.ok (p:Pk):Prop:=p.a<4294967296/\-9223372036854775808<=p.n/\p.n<=9223372036854775807
def Ky.ok (p:Ky):Prop:=p.a<4294967296/\(-9223372036854775808<=p.n/\p.n<=9223372036854775807)/\p.id<4294967296
def Pk.enc (p:Pk):Value:= .agg #[U p.a,I p.n]
def Ky.enc (p:Ky):Value:= .agg #[U p.a,I p.n,U p.id]
def Pk.lit (p:Pk):Lit:= .string (keyBytes [.int .u32 p.a,.int .i64 p.n])
def Ky.lit (p:Ky):Lit:= .string (keyBytes [.int .u32 p.a,.int .i64 p.n,.int .u32 p.id])
theorem pk_key:prog.keyType 28=true:=X
theorem ky_key:prog.keyType 185=true:=X
theorem ao4:prog.cellsOf 26=1:=X
theorem af9:prog.cellsOf 28=2:=X
theorem aw7:prog.cellsOf 185=3:=X
theorem ao5:prog.cellsOf 3=1:=X
theorem wf_u32 {n:Nat} (h:n<4294967296):(Lit.int .u32 (n:Int)).wf=true:=by
 have h1:IntKind.u32.min=0:=rfl;have h2:IntKind.u32.max=4294967295:=rfl;simp only [Lit.wf,Bool.and_eq_true,decide_eq_true_eq];omega
theorem wf_i64 (h1:-9223372036854775808<=z) (h2:z<=9223372036854775807):(Lit.int .i64 z).wf=true:=by
 have e1:IntKind.i64.min=-9223372036854775808:=rfl;have e2:IntKind.i64.max=9223372036854775807:=rfl;simp only [Lit.wf,Bool.and_eq_true,decide_eq_true_eq];omega
theorem cx1 (h:(Lit.int .u32 z).wf=true):∃ n:Nat,z=n/\n<4294967296:=by
 have h1:IntKind.u32.min=0:=rfl;have h2:IntKind.u32.max=4294967295:=rfl;simp only [Lit.wf,Bool.and_eq_true,decide_eq_true_eq] at h;exact ⟨z.toNat,G,G⟩
theorem cx2 (h:(Lit.int .i64 z).wf=true):-9223372036854775808<=z/\z<=9223372036854775807:=by
 have e1:IntKind.i64.min=-9223372036854775808:=rfl;have e2:IntKind.i64.max=9223372036854775807:=rfl;simp only [Lit.wf,Bool.and_eq_true,decide_eq_true_eq] at h;omega
theorem ag1 {P:Program} {t:TypeId} {q:IntKind} (ht:P.underlying t=some (.int q)) (d:Nat) (c:Value) (ls:List Lit):P.keyLits (d+1) t [c]=some ls↔∃ z,c= .int q z/\(Lit.int q z).wf=true/\ls=[.int q z]:=by
 unfold Program.keyLits;rw [ht];constructor
 ·intro h
  cases c with
  |int q' z=>
   simp only at h;split at h
   ·rename_i hc
    obtain ⟨rfl,hw⟩:=hc;simp only [Option.some.injEq] at h;exact ⟨z,rfl,hw,h.symm⟩
   ·cases h
  |_=>simp at h
 ·rintro ⟨z,rfl,hw,rfl⟩
  simp [hw]
theorem list2 {l:List α} (h:l.length=2):∃ a b,l=[a,b]:=by
 match l,h with
 |[a,b],_=>exact ⟨a,b,rfl⟩
theorem list3 {l:List α} (h:l.length=3):∃ a b c,l=[a,b,c]:=by
 match l,h with
 |[a,b,c],_=>exact ⟨a,b,c,rfl⟩
theorem ak7 (d:Nat) (cs:List Value) (ls:List Lit):prog.keyLits (d+2) 28 cs=some ls↔∃ p:Pk,p.ok/\cs=[.int .u32 p.a,.int .i64 p.n]/\ls=[.int .u32 p.a,.int .i64 p.n]:=by
 constructor
 ·intro h
  unfold Program.keyLits at h;rw [Tryz.underlying28] at h;simp only [af9] at h;split at h
  case isFalse=>cases h
  rename_i hc;obtain ⟨c0,c1,rfl⟩:=list2 hc.1;simp [ao4,ao5,Option.bind_eq_some_iff] at h;obtain ⟨l0,h0,_,⟨l1,h1,rfl⟩,rfl⟩:=h;obtain ⟨z0,rfl,w0,rfl⟩:=(ag1 Tryz.underlying26 d c0 l0).1 h0;obtain ⟨z1,rfl,w1,rfl⟩:=(ag1 Tryz.underlying3 d c1 l1).1 h1;obtain ⟨a,rfl,ha⟩:=cx1 w0;exact ⟨⟨a,z1⟩,⟨ha,cx2 w1⟩,rfl,rfl⟩
 ·rintro ⟨p,⟨h1,h2,h3⟩,rfl,rfl⟩
  unfold Program.keyLits;rw [Tryz.underlying28];simp [af9,ao4,ao5,(ag1 Tryz.underlying26 d _ _).2 ⟨_,rfl,wf_u32 h1,rfl⟩,(ag1 Tryz.underlying3 d _ _).2 ⟨_,rfl,wf_i64 h2 h3,rfl⟩]
theorem bs4 (d:Nat) (cs:List Value) (ls:List Lit):prog.keyLits (d+3) 185 cs=some ls↔∃ p:Ky,p.ok/\cs=[.int .u32 p.a,.int .i64 p.n,.int .u32 p.id]/\ls=[.int .u32 p.a,.int .i64 p.n,.int .u32 p.id]:=by
 constructor
 ·intro h
  unfold Program.keyLits at h;rw [Tryz.underlying185] at h;simp only [aw7] at h;split at h
  case isFalse=>cases h
  rename_i hc;obtain ⟨c0,c1,c2,rfl⟩:=list3 hc.1;simp [ao4,af9,Option.bind_eq_some_iff] at h;obtain ⟨l0,h0,_,⟨l1,h1,rfl⟩,rfl⟩:=h;obtain ⟨p,hp,e0,rfl⟩:=(ak7 d _ l0).1 h0;obtain ⟨z1,rfl,w1,rfl⟩:=(ag1 Tryz.underlying26 (d+1) c2 l1).1 h1;obtain ⟨a,rfl,ha⟩:=cx1 w1;simp only [List.cons.injEq,and_true] at e0;obtain ⟨rfl,rfl⟩:=e0;exact ⟨⟨p.a,p.n,a⟩,⟨hp.1,hp.2,ha⟩,rfl,rfl⟩
 ·rintro ⟨p,⟨h1,h2,h3⟩,rfl,rfl⟩
  unfold Program.keyLits;rw [Tryz.underlying185];simp [aw7,ao4,af9,(ak7 d _ _).2 ⟨⟨p.a,p.n⟩,⟨h1,h2⟩,rfl,rfl⟩,(ag1 Tryz.underlying26 (d+1) _ _).2 ⟨_,rfl,wf_u32 h3,rfl⟩]
theorem ap0:∃ d,prog.types.size+1=d+3:=by
 have h:2<=prog.types.size:=of_decide_eq_true X;exact ⟨prog.types.size - 2,G⟩
theorem cq5 (v:Value) (l:Lit):keyOf prog 28 v=some l↔∃ p:Pk,p.ok/\v=p.enc/\l=p.lit:=by
 obtain ⟨d,hd⟩:=ap0;unfold keyOf;rw [Tryz.underlying28,pk_key,hd];simp only [Bool.true_and];constructor
 ·intro h
  split at h
  case isFalse=>cases h
  rename_i hf
  cases e:prog.keyLits (d+3) 28 v.cells.toList with
  |none=>rw [e] at h; cases h
  |some ls=>
   rw [e] at h;obtain ⟨p,hp,hc,rfl⟩:=(ak7 (d+1) _ _).1 e;simp only [Option.map_some,Option.some.injEq] at h
   cases v with
   |agg cs=>
    refine ⟨p,hp,?_,h.symm⟩;have e2:cs.toList=[.int .u32 p.a,.int .i64 p.n]:=by simpa [Value.cells] using hc
    unfold Pk.enc;have e3:cs=#[.int .u32 p.a,.int .i64 p.n]:=Array.toList_inj.1 e2;rw [e3]
   |_=>simp [Value.formed,Tryz.underlying28] at hf
 ·rintro ⟨p,hp,rfl,rfl⟩
  have hf:(Pk.enc p).formed prog 28=true:=by simp [Value.formed,Pk.enc,Tryz.underlying28,af9]
  have hl:prog.keyLits (d+3) 28 p.enc.cells.toList=some [.int .u32 p.a,.int .i64 p.n]:=(ak7 (d+1) _ _).2 ⟨p,hp,rfl,rfl⟩;rw [hf,hl];rfl
theorem ct0 (v:Value) (l:Lit):keyOf prog 185 v=some l↔∃ p:Ky,p.ok/\v=p.enc/\l=p.lit:=by
 obtain ⟨d,hd⟩:=ap0;unfold keyOf;rw [Tryz.underlying185,ky_key,hd];simp only [Bool.true_and];constructor
 ·intro h
  split at h
  case isFalse=>cases h
  rename_i hf
  cases e:prog.keyLits (d+3) 185 v.cells.toList with
  |none=>rw [e] at h; cases h
  |some ls=>
   rw [e] at h;obtain ⟨p,hp,hc,rfl⟩:=(bs4 d _ _).1 e;simp only [Option.map_some,Option.some.injEq] at h
   cases v with
   |agg cs=>
    refine ⟨p,hp,?_,h.symm⟩;have e2:cs.toList=[.int .u32 p.a,.int .i64 p.n,.int .u32 p.id]:=by simpa [Value.cells] using hc
    unfold Ky.enc;have e3:cs=#[.int .u32 p.a,.int .i64 p.n,.int .u32 p.id]:=Array.toList_inj.1 e2;rw [e3]
   |_=>simp [Value.formed,Tryz.underlying185] at hf
 ·rintro ⟨p,hp,rfl,rfl⟩
  have hf:(Ky.enc p).formed prog 185=true:=by simp [Value.formed,Ky.enc,Tryz.underlying185,aw7]
  have hl:prog.keyLits (d+3) 185 p.enc.cells.toList=some [.int .u32 p.a,.int .i64 p.n,.int .u32 p.id]:=(bs4 d _ _).2 ⟨p,hp,rfl,rfl⟩;rw [hf,hl];rfl
theorem cx0:Keyed prog 28:=Keyed.of_law (deep_law_laid ap2 (m:=5) G (of_decide_eq_true X) X (by rw [Tryz.underlying28]))
theorem cx5:Keyed prog 185:=Keyed.of_law (deep_law_laid ap2 (m:=5) G (of_decide_eq_true X) X (by rw [Tryz.underlying185]))
def pkE:Ke prog 28 Pk where
 enc:=Pk.enc
 lit:=Pk.lit
 ok:=Pk.ok
 law:=cx0
 made x h:=(cq5 _ _).2 ⟨x,h,rfl,rfl⟩
 inv v l h:=(cq5 v l).1 h
 inj x y hx hy h:=by
  have e:=cx0.inj ((cq5 _ _).2 ⟨x,hx,rfl,rfl⟩) (h ▸ (cq5 _ _).2 ⟨y,hy,rfl,rfl⟩)
  cases x
  cases y;simp [Pk.enc] at e;obtain ⟨e1,rfl⟩:=e;rw [Int.ofNat_inj.1 e1]
def kyE:Ke prog 185 Ky where
 enc:=Ky.enc
 lit:=Ky.lit
 ok:=Ky.ok
 law:=cx5
 made x h:=(ct0 _ _).2 ⟨x,h,rfl,rfl⟩
 inv v l h:=(ct0 v l).1 h
 inj x y hx hy h:=by
  have e:=cx5.inj ((ct0 _ _).2 ⟨x,hx,rfl,rfl⟩) (h ▸ (ct0 _ _).2 ⟨y,hy,rfl,rfl⟩)
  cases x
  cases y;simp [Ky.enc] at e;obtain ⟨e1,rfl,e2⟩:=e;rw [Int.ofNat_inj.1 e1,Int.ofNat_inj.1 e2]
end
section
open Go.RowKit
def cmpI (a b:Int):Int:=if a<b then -1 else if b<a then 1 else 0
theorem bn9 {x y:Int} (h:x<y):cmpI x y=-1:=by unfold cmpI; rw [if_pos h]
theorem bo0 {x y:Int} (h:y<x):cmpI x y=1:=by unfold cmpI; rw [if_neg G,if_pos h]
theorem aw6 (x:Int):cmpI x x=0:=by unfold cmpI; rw [if_neg G,if_neg G]
def or2 (x y:Int):Int:=if x=0 then y else x
end
end Go.Proofs.YtafkfnodcemefaaGreat
