import Derived.Test.YtafkfnodcemefaaGreatB17
set_option maxHeartbeats 8000000
set_option maxRecDepth 100000
namespace Go.Proofs.YtafkfnodcemefaaGreat
open _root_.Go.Proofs.Tryz (prog)
section
open Go.RowKit Go.Lib Go.Sort Fm Sb
theorem setCells3 (w:World) (b o:Nat) (v0 v1 v2:Value):w.setCells b o [v0,v1,v2]=((w.setCell (Y b o) v0).setCell (Y b (o+1)) v1).setCell (Y b (o+2)) v2:=rfl
structure At3 (W:World) (b o:Nat) (e:En):Prop where
 c0:W.cell? (Y b o)=some (U e.a)
 c1:W.cell? (Y b (o+1))=some (I e.n)
 c2:W.cell? (Y b (o+2))=some (O e.on)
 f0:W.frozen? (Y b o)=false
 f1:W.frozen? (Y b (o+1))=false
 f2:W.frozen? (Y b (o+2))=false
theorem dx1 {W:World} {blk off:Nat} {dk:Array De} (H:HoldsK dcl 3 W blk off dk) {i:Nat} (hi:i<dk.size) {x:De} (hx:dk[i]! =x):At3 W blk (off+i*3) x.e:=by
 subst hx;have k0:=H.cell hi (show 0<3 by omega);have k1:=H.cell hi (show 1<3 by omega);have k2:=H.cell hi (show 2<3 by omega);exact ⟨k0.1,k1.1,k2.1,k0.2,k1.2,k2.2⟩
theorem cc6 {W w0:World} {blk off:Nat} {d0 dk:Array De} (S:SW w0 blk off dk W) (R:RW w0 blk off d0) (hs:dk.size=d0.size) {i:Nat} (hi:i<dk.size) {x:De} (hx:dk[i]! =x):At3 W blk (off+i*3) x.e:=
 dx1 (S.holds R.hblk R.hH hs) hi hx
structure Swd (a b n i:Nat) (d dk:Array De):Prop where
 perm:PermIn a (b+n) d dk
 l:∀ k,a<=k->k<a+i->dk[k]! =d[k+(b - a)]!
 r:∀ k,b<=k->k<b+i->dk[k]! =d[k - (b - a)]!
 m:∀ k,a+i<=k->k<b->dk[k]! =d[k]!
 o:∀ k,b+i<=k->dk[k]! =d[k]!
theorem Swd.none (a b n:Nat) (d:Array De):Swd a b n 0 d d:=⟨permIn_refl _ _ _,fun k h1 h2=>by omega,fun k h1 h2=>by omega,fun _ _ _=>rfl,fun _ _=>rfl⟩
theorem Swd.step {a b n i:Nat} {d dk:Array De} (h:Swd a b n i d dk) (hi:i<n) (hab:a+n<=b) (hb:b+n<=d.size):Swd a b n (i+1) d (swp dk (a+i) (b+i)):=by
 have hs:=h.perm.1;have x:(swp dk (a+i) (b+i))[a+i]! =d[b+i]!:=by rw [swp_left dk _ _ G G]; exact h.o _ G
 have y:(swp dk (a+i) (b+i))[b+i]! =d[a+i]!:=by rw [swp_right dk _ _ G]; exact h.m _ G G
 have z:∀ k,k≠a+i->k≠b+i->(swp dk (a+i) (b+i))[k]! =dk[k]!:=fun k h1 h2=>swp_other dk _ _ k h1 h2
 refine ⟨permIn_trans _ _ _ _ _ h.perm (swp_permIn _ _ _ _ _ G G G G G),fun k h1 h2=>?_,fun k h1 h2=>?_,fun k h1 h2=>?_,fun k h1=>?_⟩
 ·by_cases e:k=a+i
  ·rw [e,x]; congr 1; omega
  ·rw [z k e G]; exact h.l k h1 G
 ·by_cases e:k=b+i
  ·rw [e,y]; congr 1; omega
  ·rw [z k G e]; exact h.r k h1 G
 ·rw [z k G G]; exact h.m k G h2
 ·rw [z k G G]; exact h.o k G
theorem bl5 {blk off cap a b n:Nat} {d0 d:Array De} {w0 w:World} (R:RW w0 blk off d0) (hs:d.size=d0.size) (S:SW w0 blk off d w) (hab:a+n<=b) (hb:b+n<=d.size) (hsz:d.size<4611686018427387904) (F:Value):
  Q 206 #[Mt blk off d.size cap,I a,I b,I n,F] w fun e w'=>e= .returned (.tuple #[])/\∃ d',SW w0 blk off d' w'/\Swd a b n n d d':=by
 have mixed:prog.follows .mixedOrders=true:=X
 have S0:Aside (SW w0 blk off d w):=S;have HS:=Z hs;clear S hs;go_enter Tryz.func206,Tryz.ntmps206;go_wp2;go_loopg [10] n (fun g vi wr=>∃ (i:Nat) (dk:Array De),vi= I i/\i<=n/\n - i<=g/\dk.size=d.size/\Aside (SW w0 blk off dk wr)/\Swd a b n i d dk)
 case atStart=>exact ⟨0,d,rfl,G,G,rfl,S0,.none _ _ _ _⟩
 case round=>
  clear S0;obtain ⟨i,dk,rfl,hin,hg,hds,S1,h1⟩:=hrel;have H1:=Z h1;have HD:=H2 hds (hds.trans HS.out);clear h1;by_cases hlt:i<n
  ·have hltz:(i:Int)<(n:Int):=G
   go_wp2_with fail;have ea:((a:Int)+(i:Int)).toNat=a+i:=G
   have pa:(0:Int)<=(a:Int)+(i:Int):=G
   have ba:(a:Int)+(i:Int)<(d.size:Int):=G
   have ra:IntKind.i64.wrap ((a:Int)+(i:Int))=(a:Int)+(i:Int):=by rw [IntKind.wrap_i64]; omega
   have eb:((b:Int)+(i:Int)).toNat=b+i:=G
   have pb:(0:Int)<=(b:Int)+(i:Int):=G
   have bb:(b:Int)+(i:Int)<(d.size:Int):=G
   have rb:IntKind.i64.wrap ((b:Int)+(i:Int))=(b:Int)+(i:Int):=by rw [IntKind.wrap_i64]; omega
   have ia:a+i<dk.size:=G
   have ib:b+i<dk.size:=G
   have S2:Aside (SW w0 blk off (swp dk (a+i) (b+i)) ((wr.setCells blk (off+(a+i)*3) (dcl dk[b+i]!)).setCells blk (off+(b+i)*3) (dcl dk[a+i]!))):=S1.out.swap R.hk R.hblk (a+i) (b+i) ia ib;have A1:At3 wr blk (off+(a+i)*3) dk[a+i]!.e:=cc6 S1.out R HD.out.2 (by assumption) rfl;have A2:At3 wr blk (off+(b+i)*3) dk[b+i]!.e:=cc6 S1.out R HD.out.2 (by assumption) rfl;simp only [dcl,ecl,setCells3] at S2;generalize dk[a+i]!.e=xI at S2 A1;generalize dk[b+i]!.e=xJ at S2 A2;obtain ⟨a0,a1,a2⟩:=xI;obtain ⟨b0,b1,b2⟩:=xJ;obtain ⟨c0,c1,c2,f0,f1,f2⟩:=A1;obtain ⟨c4,c5,c6,f4,f5,f6⟩:=A2;clear S1 hds ia ib;go_wp2_with fail;go_big_region_o;all_goals go_wp2
   go_roundg (n - (i+1))
   case measure=>omega
   case rel=>exact ⟨i+1,swp dk (a+i) (b+i),by go_num,G,Nat.le_refl _,by rw [size_swp]; exact HD.out.1,S2.out.drew,H1.out.step hlt hab hb⟩
  ·obtain rfl:i=n:=G
   go_wp2;go_end0;exact ⟨rfl,dk,S1.out,H1.out⟩
def turned (d:Array De) (a m b x:Nat):De:=if x<a+(b - m) then d[x+(m - a)]! else d[x - (b - m)]!
structure Rtd (a m b i j:Nat) (d dk:Array De):Prop where
 i0:0<i
 j0:0<j
 im:a+i<=m
 jb:m+j<=b
 perm:PermIn a b d dk
 o:∀ x,a<=x->x<b->x<m - i\/m+j<=x->dk[x]! =turned d a m b x
 l:∀ x,m - i<=x->x<m - i+j->turned d a m b x=dk[x+i]!
 r:∀ x,m - i+j<=x->x<m+j->turned d a m b x=dk[x - j]!
theorem Rtd.start {a m b:Nat} (d:Array De) (h1:a<m) (h2:m<b):Rtd a m b (m - a) (b - m) d d:=
 ⟨by omega,G,G,G,permIn_refl _ _ _,fun x _ _ h5=>by omega,fun x h3 h4=>by unfold turned; rw [if_pos G],fun x h3 h4=>by unfold turned; rw [if_neg G]⟩
theorem Swd.outL {a b n:Nat} {d dk:Array De} (h:Swd a b n n d dk) {x:Nat} (hx:x<a):dk[x]! =d[x]!:=h.perm.2.1 x (.inl hx)
theorem Rtd.more {a m b i j:Nat} {d dk dk':Array De} (h:Rtd a m b i j d dk) (hij:j<i) (hb:b<=d.size) (hS:Swd (m - i) m j j dk dk'):Rtd a m b (i - j) j d dk':=by
 obtain ⟨i0,j0,im,jb,perm,o,l,r⟩:=h;have hs:=perm.1;refine ⟨by omega,j0,G,jb,permIn_trans _ _ _ _ _ perm (permIn_mono _ _ _ _ _ _ G jb G hS.perm),fun x h1 h2 h3=>?_,fun x h1 h2=>?_,fun x h1 h2=>?_⟩
 ·rcases h3 with h3|h3
  ·by_cases c:x<m - i
   ·rw [hS.outL c]; exact o x h1 h2 (.inl c)
   ·rw [hS.l x G G,l x G G]; congr 1; omega
  ·rw [hS.o x h3]; exact o x h1 h2 (.inr h3)
 ·rw [r x G G,hS.r (x+(i - j)) G G]; congr 1; omega
 ·rw [r x G G,hS.m (x - j) G G]
theorem Rtd.less {a m b i j:Nat} {d dk dk':Array De} (h:Rtd a m b i j d dk) (hij:i<j) (hb:b<=d.size) (hS:Swd (m - i) (m+j - i) i i dk dk'):Rtd a m b i (j - i) d dk':=by
 obtain ⟨i0,j0,im,jb,perm,o,l,r⟩:=h;have hs:=perm.1;refine ⟨i0,G,im,G,permIn_trans _ _ _ _ _ perm (permIn_mono _ _ _ _ _ _ G G G hS.perm),fun x h1 h2 h3=>?_,fun x h1 h2=>?_,fun x h1 h2=>?_⟩
 ·rcases h3 with h3|h3
  ·rw [hS.outL h3]; exact o x h1 h2 (.inl h3)
  ·by_cases c:m+j<=x
   ·rw [hS.o x G]; exact o x h1 h2 (.inr c)
   ·rw [hS.r x G G,r x G G]; congr 1; omega
 ·rw [l x G G,hS.m (x+i) G G]
 ·rw [l x G G,hS.l (x - (j - i)) G G]; congr 1; omega
theorem Rtd.last {a m b i:Nat} {d dk dk':Array De} (h:Rtd a m b i i d dk) (hb:b<=d.size) (hS:Swd (m - i) m i i dk dk'):Rot a m b d dk':=by
 obtain ⟨i0,j0,im,jb,perm,o,l,r⟩:=h;have hs:=perm.1;have all:∀ x,a<=x->x<b->dk'[x]! =turned d a m b x:=fun x h1 h2=>by
  by_cases c:x<m - i
  ·rw [hS.outL c]; exact o x h1 h2 (.inl c)
  ·by_cases c2:m+i<=x
   ·rw [hS.o x c2]; exact o x h1 h2 (.inr c2)
   ·by_cases c3:x<m
    ·rw [hS.l x G G,l x G G]; congr 1; omega
    ·rw [hS.r x G G,r x G G]; congr 1; omega
 refine ⟨permIn_trans _ _ _ _ _ perm (permIn_mono _ _ _ _ _ _ G G G hS.perm),fun x h1 h2=>?_,fun x h1 h2=>?_⟩
 ·rw [all x h1 G]; unfold turned; rw [if_pos h2]
 ·rw [all x G h2]; unfold turned; rw [if_neg G]
theorem br0 {blk off cap a b n:Nat} {za zb zn:Int} {sz:Nat} {d0 d:Array De} {w0 w:World} (R:RW w0 blk off d0) (hs:d.size=d0.size) (hz:d.size=sz) (S:SW w0 blk off d w) (hab:a+n<=b) (hb:b+n<=d.size) (hsz:d.size<4611686018427387904) (F:Value) (ha:za=(a:Int)) (hbz:zb=(b:Int)) (hn:zn=(n:Int)):
  Q 206 #[Mt blk off sz cap,I za,I zb,I zn,F] w fun e w'=>e= .returned (.tuple #[])/\∃ d',SW w0 blk off d' w'/\Swd a b n n d d':=by
 subst ha hbz hn hz;exact bl5 R hs S hab hb hsz F
theorem bh7 {blk off cap a m b sz:Nat} {d0 d:Array De} {w0 w:World} (R:RW w0 blk off d0) (hs:d.size=d0.size) (hz:d.size=sz) (S:SW w0 blk off d w) (ham:a<m) (hmb:m<b) (hb:b<=d.size) (hsz:d.size<4611686018427387904) (F:Value):
  Q 189 #[Mt blk off sz cap,I a,I m,I b,F] w fun e w'=>e= .returned (.tuple #[])/\∃ d',SW w0 blk off d' w'/\Rot a m b d d':=by
 have S0:=Z (And.intro S (Rtd.start d ham hmb));have HS:=Z (And.intro hs hz);have eA:IntKind.i64.wrap ((m:Int) - (a:Int))=(m:Int) - (a:Int):=by rw [IntKind.wrap_i64]; omega
 have eB:IntKind.i64.wrap ((b:Int) - (m:Int))=(b:Int) - (m:Int):=by rw [IntKind.wrap_i64]; omega
 have hb2:b<4611686018427387904:=G
 have HZ:Hid ((∀ dk:Array De,dk.size=d.size->dk.size<4611686018427387904)/\True):=⟨fun dk e=>by rw [e]; exact hsz,trivial⟩;clear S hs hz hsz;go_enter Tryz.func189,Tryz.ntmps189;go_wp2;go_loopg [10,11] b (fun g vi vj wr=>∃ (i j:Nat) (dk:Array De),vi= I i/\vj= I j/\i+j<=g/\Hid (SW w0 blk off dk wr/\Rtd a m b i j d dk))
 case atStart=>exact ⟨m - a,b - m,d,by congr 1; omega,by congr 1; omega,G,S0⟩
 case round=>
  clear S0;obtain ⟨i,j,dk,rfl,rfl,hg,H⟩:=hrel;have hi0:=H.out.2.i0;have hj0:=H.out.2.j0;have him:=H.out.2.im;have hjb:=H.out.2.jb;have hds:dk.size=d.size:=H.out.2.perm.1;have ds0:dk.size=d0.size:=hds.trans HS.out.1;have dsz:dk.size=sz:=hds.trans HS.out.2;have r1:IntKind.i64.wrap ((m:Int) - (i:Int))=(m:Int) - (i:Int):=by rw [IntKind.wrap_i64]; omega
  have hb':b<=dk.size:=G
  have SR:=fun (x y:Nat) (zx zy zn:Int) (n:Nat) (k1:x+n<=y) (k2:y+n<=dk.size) (k3:zx=(x:Int)) (k4:zy=(y:Int)) (k5:zn=(n:Int))=>br0 (cap:=cap) R ds0 dsz H.out.1 k1 k2 (HZ.out.1 dk hds) F k3 k4 k5
  have SR':=Z SR;have HB:=Z (And.intro hb' hds);clear SR hds ds0 dsz hb';rcases Nat.lt_trichotomy i j with hij|hij|hij
  ·have hne:((i:Int) !=(j:Int))=true:=by simp; omega
   have hgt:¬ ((j:Int)<(i:Int)):=G
   have r2:IntKind.i64.wrap ((m:Int)+(j:Int))=(m:Int)+(j:Int):=by rw [IntKind.wrap_i64]; omega
   have r3:IntKind.i64.wrap ((m:Int)+(j:Int) - (i:Int))=(m:Int)+(j:Int) - (i:Int):=by rw [IntKind.wrap_i64]; omega
   have r4:IntKind.i64.wrap ((j:Int) - (i:Int))=(j:Int) - (i:Int):=by rw [IntKind.wrap_i64]; omega
   go_wp2_with fail;refine (SR'.out (m - i) (m+j - i) _ _ _ i G (by have:=HB.out.1; omega) G G rfl).mono ?_;rintro e w2 ⟨rfl,d2,hS,hW⟩;have H2:Hid (SW w0 blk off d2 w2/\Rtd a m b i (j - i) d d2):=⟨hS,H.out.2.less hij hb hW⟩;clear hS hW SR' H HB;go_wp2;go_roundg (i+(j - i))
   case measure=>omega
   case rel=>exact ⟨i,j - i,d2,rfl,by congr 1; omega,Nat.le_refl _,H2⟩
  ·subst hij
   go_wp2_with fail;refine (SR'.out (m - i) m _ _ _ i G (by have:=HB.out.1; omega) G rfl rfl).mono ?_;rintro e w2 ⟨rfl,d2,hS,hW⟩;have H2:Hid (SW w0 blk off d2 w2/\Rot a m b d d2):=⟨hS,H.out.2.last hb hW⟩;clear hS hW SR' H HB;go_wp2;go_end0;exact ⟨rfl,d2,H2.out⟩
  ·have hne:((i:Int) !=(j:Int))=true:=by simp; omega
   have hgt:((j:Int)<(i:Int)):=G
   have r4:IntKind.i64.wrap ((i:Int) - (j:Int))=(i:Int) - (j:Int):=by rw [IntKind.wrap_i64]; omega
   go_wp2_with fail;refine (SR'.out (m - i) m _ _ _ j G (by have:=HB.out.1; omega) G rfl rfl).mono ?_;rintro e w2 ⟨rfl,d2,hS,hW⟩;have H2:Hid (SW w0 blk off d2 w2/\Rtd a m b (i - j) j d d2):=⟨hS,H.out.2.more hij hb hW⟩;clear hS hW SR' H HB;go_wp2;go_roundg (i - j+j)
   case measure=>omega
   case rel=>exact ⟨i - j,j,d2,by congr 1; omega,rfl,Nat.le_refl _,H2⟩
end
section
end
section
open Go.RowKit Go.Lib Go.Sort Fm Sb
theorem al2 {W w0:World} {blk off:Nat} {d0 dk:Array De} (S:SW w0 blk off dk W) (R:RW w0 blk off d0) (hs:dk.size=d0.size) {i:Nat} (hi:i<dk.size) {x:De} (hx:dk[i]! =x) (n:Nat) (os:Array Obj):At3 (grow (W.drewN n) os) blk (off+i*3) x.e:=
 cc6 (S.grown n os) R hs hi hx
theorem di4 {a i b:Nat} {d d':Array De} (hM:Mer a (a+1) b d) (hb:b<=d.size) (hi:a+1<=i) (hib:i<=b) (h1:i=a+1\/Kl d[i - 1]! d[a]!) (h2:i=b\/¬ Kl d[i]! d[a]!) (hR:Rot a (a+1) i d d'):PermIn a b d d'/\Srt a b d':=by
 have s:=av8 (mid:=i - 1) hM hR (Nat.le_refl _) G hi hib hb G (.inl rfl) (by rcases h1 with h1|h1; exact .inr (.inl h1); exact .inr (.inr h1));refine ⟨s.perm,s.l.r.glue (s.r.done ?_) s.lt⟩;rcases h2 with h2|h2
 ·exact .inr (.inl h2)
 ·refine .inr (.inr ?_)
  rw [hR.perm.2.1 i (.inr (Nat.le_refl _)),hR.snd (i - 1) G G,show i - 1 - (i - (a+1))=a by omega];exact h2
theorem di3 {a i m:Nat} {d d':Array De} (hM:Mer a m (m+1) d) (hb:m+1<=d.size) (hi:a<=i) (him:i<=m) (h1:i=a\/¬ Kl d[m]! d[i - 1]!) (h2:i=m\/Kl d[m]! d[i]!) (hR:Rot i m (m+1) d d'):PermIn a (m+1) d d'/\Srt a (m+1) d':=by
 have s:=av8 (mid:=i+1) hM hR hi him G (Nat.le_refl _) hb G (.inr (.inl rfl)) (by rcases h2 with h2|h2; exact .inl h2; exact .inr (.inr (by rw [Nat.add_sub_cancel]; exact h2)));refine ⟨s.perm,(s.l.done ?_).glue s.r.l s.lt⟩;rcases h1 with h1|h1
 ·exact .inl h1.symm
 ·by_cases hia:a=i
  ·exact .inl hia
  ·refine .inr (.inr ?_)
   rw [hR.perm.2.1 (i - 1) (.inl G),hR.fst i (Nat.le_refl _) G,show i+(m - i)=m by omega];exact h1
structure Up (a i k:Nat) (d dk:Array De):Prop where
 perm:PermIn a i d dk
 l:∀ x,a<=x->x<k->dk[x]! =d[x+1]!
 c:dk[k]! =d[a]!
 o:∀ x,k<x->dk[x]! =d[x]!
theorem Up.start (a i:Nat) (d:Array De):Up a i a d d:=⟨permIn_refl _ _ _,fun x h1 h2=>by omega,rfl,fun _ _=>rfl⟩
theorem Up.step {a i k:Nat} {d dk:Array De} (h:Up a i k d dk) (hk:a<=k) (hi:k+1<i) (hs:i<=d.size):Up a i (k+1) d (swp dk k (k+1)):=by
 have e:=h.perm.1;refine ⟨permIn_trans _ _ _ _ _ h.perm (swp_permIn _ _ _ _ _ hk G G hi G),fun x h1 h2=>?_,?_,fun x h1=>?_⟩
 ·by_cases c:x=k
  ·rw [c,swp_left dk _ _ G G]; exact h.o _ G
  ·rw [swp_other dk _ _ x c G]; exact h.l x h1 G
 ·rw [swp_right dk _ _ G]; exact h.c
 ·rw [swp_other dk _ _ x G G]; exact h.o x G
theorem Up.done {a i:Nat} {d dk:Array De} (h:Up a i (i - 1) d dk) (hi:a+1<=i):Rot a (a+1) i d dk:=
 ⟨h.perm,fun x h1 h2=>by rw [h.l x h1 G]; congr 1; omega,fun x h1 h2=>by rw [show x=i - 1 by omega,h.c]; congr 1; omega⟩
structure Dn (i m k:Nat) (d dk:Array De):Prop where
 perm:PermIn i (m+1) d dk
 r:∀ x,k<x->x<=m->dk[x]! =d[x - 1]!
 c:dk[k]! =d[m]!
 o:∀ x,x<k->dk[x]! =d[x]!
theorem Dn.start (i m:Nat) (d:Array De):Dn i m m d d:=⟨permIn_refl _ _ _,fun x h1 h2=>by omega,rfl,fun _ _=>rfl⟩
theorem Dn.step {i m k:Nat} {d dk:Array De} (h:Dn i m (k+1) d dk) (hk:i<=k) (hm:k+1<=m) (hs:m+1<=d.size):Dn i m k d (swp dk (k+1) k):=by
 have e:=h.perm.1;refine ⟨permIn_trans _ _ _ _ _ h.perm (swp_permIn _ _ _ _ _ G G G G G),fun x h1 h2=>?_,?_,fun x h1=>?_⟩
 ·by_cases c:x=k+1
  ·rw [c,swp_left dk _ _ G G]; exact h.o _ G
  ·rw [swp_other dk _ _ x c G]; exact h.r x G h2
 ·rw [swp_right dk _ _ G]; exact h.c
 ·rw [swp_other dk _ _ x G G]; exact h.o x G
theorem Dn.done {i m:Nat} {d dk:Array De} (h:Dn i m i d dk) (him:i<=m):Rot i m (m+1) d dk:=
 ⟨h.perm,fun x h1 h2=>by rw [show x=i by omega,h.c]; congr 1; omega,fun x h1 h2=>by rw [h.r x G G]; congr 1; omega⟩
theorem dv8 {blk off cap a b sz:Nat} {d0 d:Array De} {w0 w:World} (R:RW w0 blk off d0) (hs:d.size=d0.size) (hz:d.size=sz) (S:SW w0 blk off d w) (hb:b<=d.size) (hab:a+1<b) (hsz:d.size<4611686018427387904) (hM:Mer a (a+1) b d):
  Q 163 #[Mt blk off sz cap,I a,I ((a:Int)+1),I b,FV] w fun e w'=>e= .returned (.tuple #[])/\∃ d',SW w0 blk off d' w'/\PermIn a b d d'/\Srt a b d':=by
 have mixed:prog.follows .mixedOrders=true:=X
 have HS:=H4 S hs hz hM;have hb2:b<4611686018427387904:=G
 have hbz:b<=sz:=G
 have r1:IntKind.i64.wrap ((a:Int)+1 - (a:Int))=1:=by rw [IntKind.wrap_i64]; omega
 have e1:(a:Int)+1 - (a:Int)=1:=G
 unfold FV;clear S hs hz hM hb;go_enter Tryz.func163,Tryz.ntmps163;go_wp2;go_loopg [10,11] b (fun g vi vj wr=>∃ (i j:Nat),vi= I i/\vj= I j/\j - i<=g/\a+1<=i/\i<=j/\j<=b/\Hid (SW w0 blk off d wr/\(i=a+1\/Kl d[i - 1]! d[a]!)/\(j=b\/¬ Kl d[j]! d[a]!)))
 case atStart=>exact ⟨a+1,b,by go_num,rfl,G,Nat.le_refl _,G,Nat.le_refl _,HS.out.1,.inl rfl,.inl rfl⟩
 case round=>
  obtain ⟨i,j,rfl,rfl,hg,hai,hij,hjb,H⟩:=hrel;have hds:b<=d.size:=by rw [HS.out.2.2.1]; exact hbz
  by_cases hlt:i<j
  ·have hltz:(i:Int)<(j:Int):=G
   obtain ⟨h,hh⟩:∃ h:Nat,h=(i+j) / 2:=⟨_,rfl⟩;have hh2:((i:Int)+(j:Int)) / 2=(h:Int):=G
   have h1:i<=h:=G
   have h2:h<j:=G
   have hhz:(h:Int)<(sz:Int):=G
   have haz:(a:Int)<(sz:Int):=G
   clear hh;have G1:=al2 H.out.1 R HS.out.2.1 (show h<d.size by omega) rfl;have G2:=al2 H.out.1 R HS.out.2.1 (show a<d.size by omega) rfl;have HC:=fun n os=>df7 d[h]! d[a]! (grow (wr.drewN n) os)
   have hK:=dv1 d[h]! d[a]!;obtain ⟨c,hc⟩:=ey (cf d[h]! d[a]!);simp only [hc,dcl,ecl] at HC;rw [hc] at hK;generalize d[h]!.e=xh at G1 HC;generalize d[a]!.e=xa at G2 HC;obtain ⟨a0,a1,a2⟩:=xh;obtain ⟨b0,b1,b2⟩:=xa;have HC':=H3 HC hK hds;have c0:=fun n os=>(G1 n os).c0
   have c1:=fun n os=>(G1 n os).c1
   have c2:=fun n os=>(G1 n os).c2
   have c4:=fun n os=>(G2 n os).c0
   have c5:=fun n os=>(G2 n os).c1
   have c6:=fun n os=>(G2 n os).c2
   dsimp only at c0 c1 c2 c4 c5 c6;clear HC hK hc G1 G2 hds;by_cases hlv:c<0
   ·have hKl:=Z (HC'.out.2.1.1 hlv)
    go_wp2_with fail;go_quiet_grown (first|(go_at_call 102; refine Calls.grown_of (HC'.out.1 _ _)));have H2:=Z (H.out.1.grown nq osq);clear c0 c1 c2 c4 c5 c6 HC';go_wp2;go_roundg (j - (h+1))
    case measure=>omega
    case rel=>exact ⟨h+1,j,by go_num,rfl,Nat.le_refl _,G,G,hjb,H2.out,.inr hKl.out,H.out.2.2⟩
   ·have hKl:=Z (fun hk=>hlv (HC'.out.2.1.2 hk))
    go_wp2_with fail;go_quiet_grown (first|(go_at_call 102; refine Calls.grown_of (HC'.out.1 _ _)));have H2:=Z (H.out.1.grown nq osq);clear c0 c1 c2 c4 c5 c6 HC';go_wp2;go_roundg (h - i)
    case measure=>omega
    case rel=>exact ⟨i,h,rfl,rfl,Nat.le_refl _,hai,h1,G,H2.out,H.out.2.1,.inr hKl.out⟩
  ·obtain rfl:i=j:=G
   have hi1:IntKind.i64.wrap ((i:Int) - 1)=(i:Int) - 1:=by rw [IntKind.wrap_i64]; omega
   have HD:=H3 H.out.2.1 H.out.2.2 hds;have S1:=Z H.out.1;clear H hds;go_wp2;go_loopg [13] b (fun g vk wr2=>∃ (k:Nat) (dk:Array De),vk= I k/\b - k<=g/\a<=k/\k+1<=i/\Hid (SW w0 blk off dk wr2/\Up a i k d dk))
   case atStart=>exact ⟨a,d,rfl,G,Nat.le_refl _,hai,S1.out,.start _ _ _⟩
   case round=>
    clear S1;obtain ⟨k,dk,rfl,hg2,hak,hki,H2⟩:=hrel;by_cases hk:k+1<i
    ·have hkz:(k:Int)<(i:Int) - 1:=G
     have r5:IntKind.i64.wrap ((k:Int)+1)=(k:Int)+1:=by rw [IntKind.wrap_i64]; omega
     have ea:((k:Int)+1).toNat=k+1:=G
     have pa:(0:Int)<=(k:Int)+1:=G
     have ba:(k:Int)+1<(sz:Int):=G
     have bb:(k:Int)<(sz:Int):=G
     have hdk:dk.size=d.size:=H2.out.2.perm.1;have ia:k<dk.size:=by rw [hdk]; have:=HD.out.2.2; omega
     have ib:k+1<dk.size:=by rw [hdk]; have:=HD.out.2.2; omega
     have S2:Aside (SW w0 blk off (swp dk k (k+1)) ((wr.setCells blk (off+k*3) (dcl dk[k+1]!)).setCells blk (off+(k+1)*3) (dcl dk[k]!))):=H2.out.1.swap R.hk R.hblk k (k+1) ia ib;have A1:At3 wr blk (off+k*3) dk[k]!.e:=cc6 H2.out.1 R (hdk.trans HS.out.2.1) ia rfl;have A2:At3 wr blk (off+(k+1)*3) dk[k+1]!.e:=cc6 H2.out.1 R (hdk.trans HS.out.2.1) ib rfl;have U:=Z (H2.out.2.step hak hk (by have:=HD.out.2.2; omega));simp only [dcl,ecl,setCells3] at S2;generalize dk[k]!.e=xI at S2 A1;generalize dk[k+1]!.e=xJ at S2 A2;obtain ⟨a0,a1,a2⟩:=xI;obtain ⟨b0,b1,b2⟩:=xJ;obtain ⟨c0,c1,c2,f0,f1,f2⟩:=A1;obtain ⟨c4,c5,c6,f4,f5,f6⟩:=A2;clear H2 hdk ia ib;go_wp2_with fail;go_big_region_o;all_goals go_wp2
     go_roundg (b - (k+1))
     case measure=>omega
     case rel=>exact ⟨k+1,swp dk k (k+1),by go_num,Nat.le_refl _,G,G,S2.out.drew,U.out⟩
    ·obtain rfl:k=i - 1:=G
     have hkz:¬ (((i - 1:Nat):Int)<(i:Int) - 1):=G
     have E:=Z (And.intro H2.out.1 (di4 HS.out.2.2.2 HD.out.2.2 hai hjb HD.out.1 HD.out.2.1 (H2.out.2.done hai)));clear H2;go_wp2;refine bodyPost_ret (results_none rfl _ _ _) rfl ?_;exact ⟨rfl,dk,E.out.1,E.out.2⟩
theorem dv7 {blk off cap a m sz:Nat} {d0 d:Array De} {w0 w:World} (R:RW w0 blk off d0) (hs:d.size=d0.size) (hz:d.size=sz) (S:SW w0 blk off d w) (hb:m+1<=d.size) (ham:a+1<m) (hsz:d.size<4611686018427387904) (hM:Mer a m (m+1) d):
  Q 163 #[Mt blk off sz cap,I a,I m,I ((m:Int)+1),FV] w fun e w'=>e= .returned (.tuple #[])/\∃ d',SW w0 blk off d' w'/\PermIn a (m+1) d d'/\Srt a (m+1) d':=by
 have mixed:prog.follows .mixedOrders=true:=X
 have HS:=H4 S hs hz hM;have hb2:m<4611686018427387904:=G
 have hbz:m+1<=sz:=G
 have r1:IntKind.i64.wrap ((m:Int) - (a:Int))=(m:Int) - (a:Int):=by rw [IntKind.wrap_i64]; omega
 have q1:((m:Int) - (a:Int)==1)=false:=by simp; omega
 have r2:IntKind.i64.wrap ((m:Int)+1 - (m:Int))=1:=by rw [IntKind.wrap_i64]; omega
 have e2:(m:Int)+1 - (m:Int)=1:=G
 unfold FV;clear S hs hz hM hb;go_enter Tryz.func163,Tryz.ntmps163;go_wp2;go_loopg [14,15] m (fun g vi vj wr=>∃ (i j:Nat),vi= I i/\vj= I j/\j - i<=g/\a<=i/\i<=j/\j<=m/\Hid (SW w0 blk off d wr/\(i=a\/¬ Kl d[m]! d[i - 1]!)/\(j=m\/Kl d[m]! d[j]!)))
 case atStart=>exact ⟨a,m,rfl,rfl,G,Nat.le_refl _,G,Nat.le_refl _,HS.out.1,.inl rfl,.inl rfl⟩
 case round=>
  obtain ⟨i,j,rfl,rfl,hg,hai,hij,hjb,H⟩:=hrel;have hds:m+1<=d.size:=by rw [HS.out.2.2.1]; exact hbz
  by_cases hlt:i<j
  ·have hltz:(i:Int)<(j:Int):=G
   obtain ⟨h,hh⟩:∃ h:Nat,h=(i+j) / 2:=⟨_,rfl⟩;have hh2:((i:Int)+(j:Int)) / 2=(h:Int):=G
   have h1:i<=h:=G
   have h2:h<j:=G
   clear hh;have hhz:(h:Int)<(sz:Int):=G
   have hmz:(m:Int)<(sz:Int):=G
   have G1:=al2 H.out.1 R HS.out.2.1 (show m<d.size by omega) rfl;have G2:=al2 H.out.1 R HS.out.2.1 (show h<d.size by omega) rfl;have HC:=fun n os=>df7 d[m]! d[h]! (grow (wr.drewN n) os)
   have hK:=dv1 d[m]! d[h]!;obtain ⟨c,hc⟩:=ey (cf d[m]! d[h]!);simp only [hc,dcl,ecl] at HC;rw [hc] at hK;generalize d[m]!.e=xh at G1 HC;generalize d[h]!.e=xa at G2 HC;obtain ⟨a0,a1,a2⟩:=xh;obtain ⟨b0,b1,b2⟩:=xa;have HC':=H3 HC hK hds;have c0:=fun n os=>(G1 n os).c0
   have c1:=fun n os=>(G1 n os).c1
   have c2:=fun n os=>(G1 n os).c2
   have c4:=fun n os=>(G2 n os).c0
   have c5:=fun n os=>(G2 n os).c1
   have c6:=fun n os=>(G2 n os).c2
   dsimp only at c0 c1 c2 c4 c5 c6;clear HC hK hc G1 G2 hds;by_cases hlv:c<0
   ·have hKl:=Z (HC'.out.2.1.1 hlv)
    have hnd:decide (c<0)=true:=decide_eq_true hlv;go_wp2_with fail;go_quiet_grown (first|(go_at_call 102; refine Calls.grown_of (HC'.out.1 _ _)));have H2:=Z (H.out.1.grown nq osq);clear c0 c1 c2 c4 c5 c6 HC';go_wp2;go_roundg (h - i)
    case measure=>omega
    case rel=>exact ⟨i,h,rfl,rfl,Nat.le_refl _,hai,h1,G,H2.out,H.out.2.1,.inr hKl.out⟩
   ·have hKl:=Z (fun hk=>hlv (HC'.out.2.1.2 hk))
    have hnd:decide (c<0)=false:=decide_eq_false hlv;go_wp2_with fail;go_quiet_grown (first|(go_at_call 102; refine Calls.grown_of (HC'.out.1 _ _)));have H2:=Z (H.out.1.grown nq osq);clear c0 c1 c2 c4 c5 c6 HC';go_wp2;go_roundg (j - (h+1))
    case measure=>omega
    case rel=>exact ⟨h+1,j,by go_num,rfl,Nat.le_refl _,G,G,hjb,H2.out,.inr hKl.out,H.out.2.2⟩
  ·obtain rfl:i=j:=G
   have HD:=H3 H.out.2.1 H.out.2.2 hds;have S1:=Z H.out.1;clear H hds;go_wp2;go_loopg [17] m (fun g vk wr2=>∃ (k:Nat) (dk:Array De),vk= I k/\k<=g/\i<=k/\k<=m/\Hid (SW w0 blk off dk wr2/\Dn i m k d dk))
   case atStart=>exact ⟨m,d,rfl,Nat.le_refl _,hjb,Nat.le_refl _,S1.out,.start _ _ _⟩
   case round=>
    clear S1;obtain ⟨k,dk,rfl,hg2,hik,hkm,H2⟩:=hrel;by_cases hk:i<k
    ·obtain ⟨k,rfl⟩:∃ k',k=k'+1:=⟨k - 1,G⟩
     have hkz:(i:Int)<(k:Int)+1:=G
     have r5:IntKind.i64.wrap ((k:Int)+1 - 1)=(k:Int):=by rw [IntKind.wrap_i64]; omega
     have e5:(k:Int)+1 - 1=(k:Int):=G
     have ea:((k:Int)+1).toNat=k+1:=G
     have pa:(0:Int)<=(k:Int)+1:=G
     have ba:(k:Int)+1<(sz:Int):=G
     have bb:(k:Int)<(sz:Int):=G
     have hdk:dk.size=d.size:=H2.out.2.perm.1;have ia:k<dk.size:=by rw [hdk]; have:=HD.out.2.2; omega
     have ib:k+1<dk.size:=by rw [hdk]; have:=HD.out.2.2; omega
     have S2:Aside (SW w0 blk off (swp dk (k+1) k) ((wr.setCells blk (off+(k+1)*3) (dcl dk[k]!)).setCells blk (off+k*3) (dcl dk[k+1]!))):=H2.out.1.swap R.hk R.hblk (k+1) k ib ia;have A1:At3 wr blk (off+k*3) dk[k]!.e:=cc6 H2.out.1 R (hdk.trans HS.out.2.1) ia rfl;have A2:At3 wr blk (off+(k+1)*3) dk[k+1]!.e:=cc6 H2.out.1 R (hdk.trans HS.out.2.1) ib rfl;have U:=Z (H2.out.2.step G hkm (by have:=HD.out.2.2; omega));simp only [dcl,ecl,setCells3] at S2;generalize dk[k]!.e=xI at S2 A1;generalize dk[k+1]!.e=xJ at S2 A2;obtain ⟨a0,a1,a2⟩:=xI;obtain ⟨b0,b1,b2⟩:=xJ;obtain ⟨c0,c1,c2,f0,f1,f2⟩:=A1;obtain ⟨c4,c5,c6,f4,f5,f6⟩:=A2;clear H2 hdk ia ib;go_wp2_with fail;go_big_region_o;all_goals go_wp2
     go_roundg k
     case measure=>omega
     case rel=>exact ⟨k,swp dk (k+1) k,by go_num,Nat.le_refl _,G,G,S2.out.drew,U.out⟩
    ·obtain rfl:k=i:=G
     have hkz:¬ ((k:Int)<(k:Int)):=G
     have E:=Z (And.intro H2.out.1 (di3 HS.out.2.2.2 HD.out.2.2 hai hjb HD.out.1 HD.out.2.1 (H2.out.2.done hjb)));clear H2;go_wp2;refine bodyPost_ret (results_none rfl _ _ _) rfl ?_;exact ⟨rfl,dk,E.out.1,E.out.2⟩
end
end Go.Proofs.YtafkfnodcemefaaGreat
