import Derived.Test.YtafkfnodcemefaaGreatB37
import Derived.Test.YtafkfnodcemefaaGreatB19
set_option maxHeartbeats 8000000
set_option maxRecDepth 100000
namespace Go.Proofs.YtafkfnodcemefaaGreat
open _root_.Go.Proofs.Tryz (prog)
section
open Go.RowKit Go.Lib Go.Sort Fm Sb
def SymIH (b a blk off cap sz:Nat) (w0:World) (d0:Array De):Prop:=∀ (a' m' b':Nat) (d':Array De) (w':World),b' - a'<b - a->d'.size=d0.size->d'.size=sz->SW w0 blk off d' w'->a'<m'->m'<b'->b'<=d'.size->Mer a' m' b' d'->
 Q 163 #[Mt blk off sz cap,I a',I m',I b',.func (.func 102) #[] #[]] w' fun e w2=>e= .returned (.tuple #[])/\∃ d2,SW w0 blk off d2 w2/\PermIn a' b' d' d2/\Srt a' b' d2
structure Halfway (a t b mid:Nat) (d d3:Array De):Prop where
 perm:PermIn a b d d3
 l:Srt a mid d3
 r:Mer mid t b d3
 lt:∀ i j,a<=i->i<mid->mid<=j->j<b->Lx d3[i]! d3[j]!
 am:a<=mid
 mb:mid<=b
theorem Sb.Step.half {a s m t b mid:Nat} {d d2 d3:Array De} (h:Step a s m t b mid d d2) (hb:b<=d2.size) (ham:a<=mid) (hmt:mid<=t) (htb:t<=b) (hp:PermIn a mid d2 d3) (hs:Srt a mid d3):Halfway a t b mid d d3:=by
 have out:∀ i,mid<=i->d3[i]! =d2[i]!:=fun i hi=>hp.2.1 i (.inr hi)
 refine ⟨permIn_trans _ _ _ _ _ h.perm (permIn_mono _ _ _ _ _ _ (Nat.le_refl _) G hb hp),hs,⟨h.r.l.same fun i h1 _=>out i h1,h.r.r.same fun i h1 _=>out i G,fun i j h1 h2 h3 h4=>by rw [out i h1,out j G]; exact h.r.aft i j h1 h2 h3 h4⟩,?_,ham,G⟩;exact ds2 G hb h.lt hp (permIn_refl _ _ _)
theorem Sb.Step.ldone {a s m t b mid:Nat} {d d2:Array De} (h:Step a s m t b mid d d2) (hk:a=s\/s=mid):Srt a mid d2:=by
 rcases hk with rfl|rfl
 ·exact h.l.r
 ·exact h.l.l
theorem Halfway.rdone {a t b mid:Nat} {d d3:Array De} (h:Halfway a t b mid d d3) (hk:mid=t\/t=b):Srt mid b d3:=by
 rcases hk with rfl|rfl
 ·exact h.r.r
 ·exact h.r.l
theorem Halfway.fin {a t b mid:Nat} {d d3 d4:Array De} (h:Halfway a t b mid d d3) (hb:b<=d3.size) (hp:PermIn mid b d3 d4) (hs:Srt mid b d4):PermIn a b d d4/\Srt a b d4:=by
 have k1:=h.am;have k2:=h.mb;refine ⟨permIn_trans _ _ _ _ _ h.perm (permIn_mono _ _ _ _ _ _ k1 (Nat.le_refl _) hb hp),?_⟩;exact (h.l.same fun i _ h2=>hp.2.1 i (.inl h2)).glue hs (ds2 G hb h.lt (permIn_refl _ _ _) hp)
theorem di0 {blk off cap a m b mid sz:Nat} {d0 d:Array De} {w0 w:World} (R:RW w0 blk off d0) (hs:d.size=d0.size) (hz:d.size=sz) (S:SW w0 blk off d w) (hb:b<=d.size) (ham:a+1<m) (hmb:m+1<b) (hsz:d.size<4611686018427387904) (hM:Mer a m b d) (hmid:mid=(a+b) / 2) (hcase:m<=mid)
  (IH:SymIH b a blk off cap sz w0 d0):
  Q 163 #[Mt blk off sz cap,I a,I m,I b,FV] w fun e w'=>e= .returned (.tuple #[])/\∃ d',SW w0 blk off d' w'/\PermIn a b d d'/\Srt a b d':=by
 have mixed:prog.follows .mixedOrders=true:=X
 have HS:=H5 S hs hz hM IH;have hb2:b<4611686018427387904:=G
 have hbz:b<=sz:=G
 have r1:IntKind.i64.wrap ((m:Int) - (a:Int))=(m:Int) - (a:Int):=by rw [IntKind.wrap_i64]; omega
 have q1:((m:Int) - (a:Int)==1)=false:=by simp; omega
 have r2:IntKind.i64.wrap ((b:Int) - (m:Int))=(b:Int) - (m:Int):=by rw [IntKind.wrap_i64]; omega
 have q2:((b:Int) - (m:Int)==1)=false:=by simp; omega
 have e3:((a:Int)+(b:Int)) / 2=(mid:Int):=G
 have hm1:a<mid:=G
 have hm2:mid<b:=G
 obtain ⟨lo,hlo⟩:=eX a;have hlo1:a<=lo:=G
 have hlu:lo<=m:=G
 have hmp:mid+m - lo<=b:=G
 unfold FV;clear S hs hz hM hb hmid IH;go_enter Tryz.func163,Tryz.ntmps163;have h0:¬ ((mid:Int)<(m:Int)):=G
 go_wp2;go_loopg [20,21] b (fun g vi vj wr=>∃ (i j:Nat),vi= I i/\vj= I j/\j - i<=g/\lo<=i/\i<=j/\j<=m/\Hid (SW w0 blk off d wr/\(i=lo\/¬ Kl d[mid+m - i]! d[i - 1]!)/\(j=m\/Kl d[mid+m - 1 - j]! d[j]!)))
 case atStart=>exact ⟨lo,m,by congr 1; omega,rfl,G,Nat.le_refl _,hlu,Nat.le_refl _,HS.out.1,.inl rfl,.inl rfl⟩
 case round=>
  obtain ⟨i,j,rfl,rfl,hg,hai,hij,hjb,H⟩:=hrel;have hds:b<=d.size:=by rw [HS.out.2.2.1]; exact hbz
  by_cases hlt:i<j
  ·have hltz:(i:Int)<(j:Int):=G
   obtain ⟨h,hh⟩:∃ h:Nat,h=(i+j) / 2:=⟨_,rfl⟩;have hh2:((i:Int)+(j:Int)) / 2=(h:Int):=G
   have h1:i<=h:=G
   have h2:h<j:=G
   clear hh;obtain ⟨p,hp⟩:=eX (mid+m - 1 - h);have r6:IntKind.i64.wrap ((mid:Int)+(m:Int) - 1 - (h:Int))=(mid:Int)+(m:Int) - 1 - (h:Int):=by rw [IntKind.wrap_i64]; omega
   have e6:((mid:Int)+(m:Int) - 1 - (h:Int)).toNat=p:=G
   have e6a:(0:Int)<=(mid:Int)+(m:Int) - 1 - (h:Int):=G
   have e6c:(h:Int)<=(mid:Int)+(m:Int) - 1:=G
   have e6b:(mid:Int)+(m:Int) - 1 - (h:Int)<(sz:Int):=G
   have hhz:(h:Int)<(sz:Int):=G
   have hpz:(p:Int)<(sz:Int):=G
   have hpp:mid+m - (h+1)=p:=G
   have hpl:p<b:=G
   have G1:=al2 H.out.1 R HS.out.2.1 (show p<d.size by omega) rfl;have G2:=al2 H.out.1 R HS.out.2.1 (show h<d.size by omega) rfl;have HC:=fun n os=>df7 d[p]! d[h]! (grow (wr.drewN n) os)
   have hK:=dv1 d[p]! d[h]!;obtain ⟨c,hc⟩:=ey (cf d[p]! d[h]!);simp only [hc,dcl,ecl] at HC;rw [hc] at hK;generalize d[p]!.e=xh at G1 HC;generalize d[h]!.e=xa at G2 HC;obtain ⟨a0,a1,a2⟩:=xh;obtain ⟨b0,b1,b2⟩:=xa;have HC':=H3 HC hK hds;have c0:=fun n os=>(G1 n os).c0
   have c1:=fun n os=>(G1 n os).c1
   have c2:=fun n os=>(G1 n os).c2
   have c4:=fun n os=>(G2 n os).c0
   have c5:=fun n os=>(G2 n os).c1
   have c6:=fun n os=>(G2 n os).c2
   dsimp only at c0 c1 c2 c4 c5 c6;clear HC hK hc G1 G2 hds;have HP:=Z (And.intro hp hpp);clear hp hpp;by_cases hlv:c<0
   ·have hKl:=Z (HC'.out.2.1.1 hlv)
    have hnd:decide (c<0)=true:=decide_eq_true hlv;go_wp2_with fail;go_quiet_grown (first|(go_at_call 102; refine Calls.grown_of (HC'.out.1 _ _)));have H2:=Z (H.out.1.grown nq osq);clear c0 c1 c2 c4 c5 c6 HC';go_wp2;go_roundg (h - i)
    case measure=>omega
    case rel=>exact ⟨i,h,rfl,rfl,Nat.le_refl _,hai,h1,G,H2.out,H.out.2.1,.inr (by rw [<- HP.out.1]; exact hKl.out)⟩
   ·have hKl:=Z (fun hk=>hlv (HC'.out.2.1.2 hk))
    have hnd:decide (c<0)=false:=decide_eq_false hlv;go_wp2_with fail;go_quiet_grown (first|(go_at_call 102; refine Calls.grown_of (HC'.out.1 _ _)));have H2:=Z (H.out.1.grown nq osq);clear c0 c1 c2 c4 c5 c6 HC';go_wp2;go_roundg (j - (h+1))
    case measure=>omega
    case rel=>exact ⟨h+1,j,by go_num,rfl,Nat.le_refl _,G,G,hjb,H2.out,.inr (by rw [HP.out.2,Nat.add_sub_cancel]; exact hKl.out),H.out.2.2⟩
  ·obtain rfl:i=j:=G
   obtain ⟨t,ht⟩:=eX (mid+m - i);have r7:IntKind.i64.wrap ((mid:Int)+(m:Int) - (i:Int))=(t:Int):=by rw [IntKind.wrap_i64]; omega
   have e7:(mid:Int)+(m:Int) - (i:Int)=(t:Int):=G
   have him:i<=m:=G
   have him2:i<=mid:=G
   have hai2:a<=i:=G
   have hmt:m<=t:=G
   have htb:t<=b:=G
   have hmt2:mid<=t:=G
   have hst:i+t=mid+m:=G
   have hMS:∀ d2,Rot i m t d d2->Step a i m t b mid d d2:=fun d2 hr=>av8 HS.out.2.2.2.1 hr hai2 him hmt htb hds hst
    (by rcases H.out.2.1 with h|h; exact .inl G; exact .inr (.inr (by rw [ht]; exact h)))
    (by rcases H.out.2.2 with h|h; exact .inl h; exact .inr (.inr (by rw [ht,show mid+m - i - 1=mid+m - 1 - i by omega]; exact h)))
   have MS:=H3 hMS H.out.1 hds;clear H hds ht hMS;go_upto_region 39 with (fail);go_cut [185] from 149 (fun s u=>s= O (decide (i<m) && decide (m<t))/\u=wr)
   case first=>
    by_cases q1:i<m
    ·have z1:=dT ((i:Int)<(m:Int))
     by_cases q2:m<t
     ·have z2:=dT ((m:Int)<(t:Int))
      go_wp2_with fail;go_meet
      case rel=>exact ⟨by simp [q1,q2],rfl⟩
     ·have z2:=df ((m:Int)<(t:Int))
      go_wp2_with fail;go_meet
      case rel=>exact ⟨by simp [q1,q2],rfl⟩
    ·have z1:=df ((i:Int)<(m:Int))
     go_wp2_with fail;go_meet
     case rel=>exact ⟨by simp [q1],rfl⟩
   case rest=>
    obtain ⟨rfl,rfl⟩:=hcut;obtain ⟨sb,hsb⟩:∃ sb,sb=(decide (i<m) && decide (m<t)):=⟨_,rfl⟩;rw [<- hsb];have SB:=Z hsb;clear hsb;go_upto_if 185 with fail;go_cut [] from 149 (fun u=>∃ d2,SW w0 blk off d2 u/\Step a i m t b mid d d2)
    case first=>
     cases sb
     ·have hor:i=m\/m=t:=by have:=SB.out; simp at this; omega
      go_wp2_with fail;go_meet
      case rel=>exact ⟨d,MS.out.2.1,MS.out.1 d (.none him hmt hor)⟩
     ·have hand:i<m/\m<t:=by have:=SB.out; simp at this; omega
      go_wp2_with fail;refine (bh7 R HS.out.2.1 HS.out.2.2.1 MS.out.2.1 hand.1 hand.2 (by have:=MS.out.2.2; omega) hsz _).mono ?_;rintro e w2 ⟨rfl,d2,hS2,hR2⟩;have T:=Z (And.intro hS2 (MS.out.1 d2 hR2));clear hS2 hR2;go_wp2_with fail;go_meet
      case rel=>exact ⟨d2,T.out⟩
    case rest=>
     obtain ⟨d2,hS2,hP2⟩:=hcut;have hd2:d2.size=d.size:=hP2.perm.1;have k0:d2.size=d0.size:=hd2.trans HS.out.2.1;have k1:d2.size=sz:=hd2.trans HS.out.2.2.1;have kb:b<=d2.size:=by rw [hd2]; exact MS.out.2.2
     have W2:=H5 hS2 hP2 k0 k1 kb;clear hS2 hP2 hd2 k0 k1 kb SB;go_upto_region 41 with (fail);go_cut [199] from 149 (fun s u=>s= O (decide (a<i) && decide (i<mid))/\u=wc)
     case first=>
      by_cases q1:a<i
      ·have z1:=dT ((a:Int)<(i:Int))
       by_cases q2:i<mid
       ·have z2:=dT ((i:Int)<(mid:Int))
        go_wp2_with fail;go_meet
        case rel=>exact ⟨by simp [q1,q2],rfl⟩
       ·have z2:=df ((i:Int)<(mid:Int))
        go_wp2_with fail;go_meet
        case rel=>exact ⟨by simp [q1,q2],rfl⟩
      ·have z1:=df ((a:Int)<(i:Int))
       go_wp2_with fail;go_meet
       case rel=>exact ⟨by simp [q1],rfl⟩
     case rest=>
      obtain ⟨rfl,rfl⟩:=hcut;obtain ⟨sb,hsb⟩:∃ sb,sb=(decide (a<i) && decide (i<mid)):=⟨_,rfl⟩;rw [<- hsb];have SB:=Z hsb;clear hsb;go_upto_if 199 with fail;go_cut [] from 149 (fun u=>∃ d3,SW w0 blk off d3 u/\Halfway a t b mid d d3)
      case first=>
       cases sb
       ·have hor:a=i\/i=mid:=by have:=SB.out; simp at this; omega
        go_wp2_with fail;go_meet
        case rel=>exact ⟨d2,W2.out.1,W2.out.2.1.half W2.out.2.2.2.2 G hmt2 htb (permIn_refl _ _ _) (W2.out.2.1.ldone hor)⟩
       ·have hand:a<i/\i<mid:=by have:=SB.out; simp at this; omega
        go_wp2_with fail;refine (HS.out.2.2.2.2 a i mid _ _ G W2.out.2.2.1 W2.out.2.2.2.1 W2.out.1 hand.1 hand.2 (by have:=W2.out.2.2.2.2; omega) W2.out.2.1.l).mono ?_;rintro e w3 ⟨rfl,d3,hS3,hP3,hT3⟩;have V3:=Z (And.intro hS3 (W2.out.2.1.half W2.out.2.2.2.2 G hmt2 htb hP3 hT3));clear hS3 hP3 hT3;go_wp2_with fail;go_meet
        case rel=>exact ⟨d3,V3.out⟩
      case rest=>
       obtain ⟨d3,hS3,hH3⟩:=hcut;have hd3:d3.size=d.size:=hH3.perm.1;have k0:d3.size=d0.size:=hd3.trans HS.out.2.1;have k1:d3.size=sz:=hd3.trans HS.out.2.2.1;have kb:b<=d3.size:=by rw [hd3]; exact MS.out.2.2
       have W3:=H5 hS3 hH3 k0 k1 kb;clear hS3 hH3 hd3 k0 k1 kb W2 SB;by_cases c3:mid<t/\t<b
       ·obtain ⟨c3a,c3b⟩:=c3
        have x1:=dT ((mid:Int)<(t:Int));have x2:=dT ((t:Int)<(b:Int));go_wp2_with fail;refine (HS.out.2.2.2.2 mid t b _ _ G W3.out.2.2.1 W3.out.2.2.2.1 W3.out.1 c3a c3b W3.out.2.2.2.2 W3.out.2.1.r).mono ?_;rintro e w4 ⟨rfl,d4,hS4,hP4,hT4⟩;have V:=Z (And.intro hS4 (W3.out.2.1.fin W3.out.2.2.2.2 hP4 hT4));clear hS4 hP4 hT4;go_wp2;go_end0;exact ⟨rfl,d4,V.out⟩
       ·have V:=Z (And.intro W3.out.1 (W3.out.2.1.fin W3.out.2.2.2.2 (permIn_refl _ _ _) (W3.out.2.1.rdone G)))
        by_cases c3a:mid<t
        ·have x1:=dT ((mid:Int)<(t:Int))
         have x2:=df ((t:Int)<(b:Int));go_wp2;go_end0;exact ⟨rfl,d3,V.out⟩
        ·have x1:=df ((mid:Int)<(t:Int))
         go_wp2;go_end0;exact ⟨rfl,d3,V.out⟩
theorem di2 {blk off cap a m b mid sz:Nat} {d0 d:Array De} {w0 w:World} (R:RW w0 blk off d0) (hs:d.size=d0.size) (hz:d.size=sz) (S:SW w0 blk off d w) (hb:b<=d.size) (ham:a+1<m) (hmb:m+1<b) (hsz:d.size<4611686018427387904) (hM:Mer a m b d) (hmid:mid=(a+b) / 2) (hcase:mid<m)
  (IH:SymIH b a blk off cap sz w0 d0):
  Calls prog 163 #[.slice (some ⟨blk,off,none⟩) sz cap,.int .i64 a,.int .i64 m,.int .i64 b,FV] w fun e w'=>e= .returned (.tuple #[])/\∃ d',SW w0 blk off d' w'/\PermIn a b d d'/\Srt a b d':=by
 have mixed:prog.follows .mixedOrders=true:=by kernel_rfl
 have HS:=H5 S hs hz hM IH;have hb2:b<4611686018427387904:=by omega
 have hbz:b<=sz:=by omega
 have r1:IntKind.i64.wrap ((m:Int) - (a:Int))=(m:Int) - (a:Int):=by rw [IntKind.wrap_i64]; omega
 have q1:((m:Int) - (a:Int)==1)=false:=by simp; omega
 have r2:IntKind.i64.wrap ((b:Int) - (m:Int))=(b:Int) - (m:Int):=by rw [IntKind.wrap_i64]; omega
 have q2:((b:Int) - (m:Int)==1)=false:=by simp; omega
 have e3:((a:Int)+(b:Int)) / 2=(mid:Int):=by omega
 have hm1:a<mid:=by omega
 have hm2:mid<b:=by omega
 obtain ⟨lo,hlo⟩:∃ lo,lo=mid+m - b:=⟨_,rfl⟩;have hlo1:a<=lo:=by omega
 have hlu:lo<=mid:=by omega
 have hmp:mid+m - lo<=b:=by omega
 unfold FV;clear S hs hz hM hb hmid IH;go_enter Tryz.func163,Tryz.ntmps163;have h0:(mid:Int)<(m:Int):=by omega
 go_wp2;go_loopg [20,21] b (fun g vi vj wr=>∃ (i j:Nat),vi= .int .i64 i/\vj= .int .i64 j/\j - i<=g/\lo<=i/\i<=j/\j<=mid/\Hid (SW w0 blk off d wr/\(i=lo\/¬ Kl d[mid+m - i]! d[i - 1]!)/\(j=mid\/Kl d[mid+m - 1 - j]! d[j]!)))
 case atStart=>exact ⟨lo,mid,by congr 1; omega,rfl,by omega,Nat.le_refl _,hlu,Nat.le_refl _,HS.out.1,.inl rfl,.inl rfl⟩
 case round=>
  obtain ⟨i,j,rfl,rfl,hg,hai,hij,hjb,H⟩:=hrel;have hds:b<=d.size:=by rw [HS.out.2.2.1]; exact hbz
  by_cases hlt:i<j
  ·have hltz:(i:Int)<(j:Int):=by omega
   obtain ⟨h,hh⟩:∃ h:Nat,h=(i+j) / 2:=⟨_,rfl⟩;have hh2:((i:Int)+(j:Int)) / 2=(h:Int):=by omega
   have h1:i<=h:=by omega
   have h2:h<j:=by omega
   clear hh;obtain ⟨p,hp⟩:∃ p:Nat,p=mid+m - 1 - h:=⟨_,rfl⟩;have r6:IntKind.i64.wrap ((mid:Int)+(m:Int) - 1 - (h:Int))=(mid:Int)+(m:Int) - 1 - (h:Int):=by rw [IntKind.wrap_i64]; omega
   have e6:((mid:Int)+(m:Int) - 1 - (h:Int)).toNat=p:=by omega
   have e6a:(0:Int)<=(mid:Int)+(m:Int) - 1 - (h:Int):=by omega
   have e6c:(h:Int)<=(mid:Int)+(m:Int) - 1:=by omega
   have e6b:(mid:Int)+(m:Int) - 1 - (h:Int)<(sz:Int):=by omega
   have hhz:(h:Int)<(sz:Int):=by omega
   have hpz:(p:Int)<(sz:Int):=by omega
   have hpp:mid+m - (h+1)=p:=by omega
   have hpl:p<b:=by omega
   have G1:=al2 H.out.1 R HS.out.2.1 (show p<d.size by omega) rfl;have G2:=al2 H.out.1 R HS.out.2.1 (show h<d.size by omega) rfl;have HC:=fun n os=>df7 d[p]! d[h]! (grow (wr.drewN n) os)
   have hK:=dv1 d[p]! d[h]!;obtain ⟨c,hc⟩:∃ c,cf d[p]! d[h]! =c:=⟨_,rfl⟩;simp only [hc,dcl,ecl] at HC;rw [hc] at hK;generalize d[p]!.e=xh at G1 HC;generalize d[h]!.e=xa at G2 HC;obtain ⟨a0,a1,a2⟩:=xh;obtain ⟨b0,b1,b2⟩:=xa;have HC':=H3 HC hK hds;have c0:=fun n os=>(G1 n os).c0
   have c1:=fun n os=>(G1 n os).c1
   have c2:=fun n os=>(G1 n os).c2
   have c4:=fun n os=>(G2 n os).c0
   have c5:=fun n os=>(G2 n os).c1
   have c6:=fun n os=>(G2 n os).c2
   dsimp only at c0 c1 c2 c4 c5 c6;clear HC hK hc G1 G2 hds;have HP:=Lib.hid (And.intro hp hpp);clear hp hpp;by_cases hlv:c<0
   ·have hKl:=Lib.hid (HC'.out.2.1.1 hlv)
    have hnd:decide (c<0)=true:=decide_eq_true hlv;go_wp2_with fail;go_quiet_grown (first|(go_at_call 102; refine Calls.grown_of (HC'.out.1 _ _)));have H2:=Lib.hid (H.out.1.grown nq osq);clear c0 c1 c2 c4 c5 c6 HC';go_wp2;go_roundg (h - i)
    case measure=>omega
    case rel=>exact ⟨i,h,rfl,rfl,Nat.le_refl _,hai,h1,by omega,H2.out,H.out.2.1,.inr (by rw [<- HP.out.1]; exact hKl.out)⟩
   ·have hKl:=Lib.hid (fun hk=>hlv (HC'.out.2.1.2 hk))
    have hnd:decide (c<0)=false:=decide_eq_false hlv;go_wp2_with fail;go_quiet_grown (first|(go_at_call 102; refine Calls.grown_of (HC'.out.1 _ _)));have H2:=Lib.hid (H.out.1.grown nq osq);clear c0 c1 c2 c4 c5 c6 HC';go_wp2;go_roundg (j - (h+1))
    case measure=>omega
    case rel=>exact ⟨h+1,j,by go_num,rfl,Nat.le_refl _,by omega,by omega,hjb,H2.out,.inr (by rw [HP.out.2,Nat.add_sub_cancel]; exact hKl.out),H.out.2.2⟩
  ·obtain rfl:i=j:=by omega
   obtain ⟨t,ht⟩:∃ t:Nat,t=mid+m - i:=⟨_,rfl⟩;have r7:IntKind.i64.wrap ((mid:Int)+(m:Int) - (i:Int))=(t:Int):=by rw [IntKind.wrap_i64]; omega
   have e7:(mid:Int)+(m:Int) - (i:Int)=(t:Int):=by omega
   have him:i<=m:=by omega
   have him2:i<=mid:=by omega
   have hai2:a<=i:=by omega
   have hmt:m<=t:=by omega
   have htb:t<=b:=by omega
   have hmt2:mid<=t:=by omega
   have hst:i+t=mid+m:=by omega
   have hMS:∀ d2,Rot i m t d d2->Step a i m t b mid d d2:=fun d2 hr=>av8 HS.out.2.2.2.1 hr hai2 him hmt htb hds hst
    (by rcases H.out.2.1 with h|h; exact .inr (.inl (by omega)); exact .inr (.inr (by rw [ht]; exact h)))
    (by rcases H.out.2.2 with h|h; exact .inr (.inl (by omega)); exact .inr (.inr (by rw [ht,show mid+m - i - 1=mid+m - 1 - i by omega]; exact h)))
   have MS:=H3 hMS H.out.1 hds;clear H hds ht hMS;go_upto_region 39 with (fail);go_cut [185] from 149 (fun s u=>s= .bool (decide (i<m) && decide (m<t))/\u=wr)
   case first=>
    by_cases q1:i<m
    ·have z1:decide ((i:Int)<(m:Int))=true:=decide_eq_true (by omega)
     by_cases q2:m<t
     ·have z2:decide ((m:Int)<(t:Int))=true:=decide_eq_true (by omega)
      go_wp2_with fail;go_meet
      case rel=>exact ⟨by simp [q1,q2],rfl⟩
     ·have z2:decide ((m:Int)<(t:Int))=false:=decide_eq_false (by omega)
      go_wp2_with fail;go_meet
      case rel=>exact ⟨by simp [q1,q2],rfl⟩
    ·have z1:decide ((i:Int)<(m:Int))=false:=decide_eq_false (by omega)
     go_wp2_with fail;go_meet
     case rel=>exact ⟨by simp [q1],rfl⟩
   case rest=>
    obtain ⟨rfl,rfl⟩:=hcut;obtain ⟨sb,hsb⟩:∃ sb,sb=(decide (i<m) && decide (m<t)):=⟨_,rfl⟩;rw [<- hsb];have SB:=Lib.hid hsb;clear hsb;go_upto_if 185 with fail;go_cut [] from 149 (fun u=>∃ d2,SW w0 blk off d2 u/\Step a i m t b mid d d2)
    case first=>
     cases sb
     ·have hor:i=m\/m=t:=by have:=SB.out; simp at this; omega
      go_wp2_with fail;go_meet
      case rel=>exact ⟨d,MS.out.2.1,MS.out.1 d (.none him hmt hor)⟩
     ·have hand:i<m/\m<t:=by have:=SB.out; simp at this; omega
      go_wp2_with fail;refine (bh7 R HS.out.2.1 HS.out.2.2.1 MS.out.2.1 hand.1 hand.2 (by have:=MS.out.2.2; omega) hsz _).mono ?_;rintro e w2 ⟨rfl,d2,hS2,hR2⟩;have T:=Lib.hid (And.intro hS2 (MS.out.1 d2 hR2));clear hS2 hR2;go_wp2_with fail;go_meet
      case rel=>exact ⟨d2,T.out⟩
    case rest=>
     obtain ⟨d2,hS2,hP2⟩:=hcut;have hd2:d2.size=d.size:=hP2.perm.1;have k0:d2.size=d0.size:=hd2.trans HS.out.2.1;have k1:d2.size=sz:=hd2.trans HS.out.2.2.1;have kb:b<=d2.size:=by rw [hd2]; exact MS.out.2.2
     have W2:=H5 hS2 hP2 k0 k1 kb;clear hS2 hP2 hd2 k0 k1 kb SB;go_upto_region 41 with (fail);go_cut [199] from 149 (fun s u=>s= .bool (decide (a<i) && decide (i<mid))/\u=wc)
     case first=>
      by_cases q1:a<i
      ·have z1:decide ((a:Int)<(i:Int))=true:=decide_eq_true (by omega)
       by_cases q2:i<mid
       ·have z2:decide ((i:Int)<(mid:Int))=true:=decide_eq_true (by omega)
        go_wp2_with fail;go_meet
        case rel=>exact ⟨by simp [q1,q2],rfl⟩
       ·have z2:decide ((i:Int)<(mid:Int))=false:=decide_eq_false (by omega)
        go_wp2_with fail;go_meet
        case rel=>exact ⟨by simp [q1,q2],rfl⟩
      ·have z1:decide ((a:Int)<(i:Int))=false:=decide_eq_false (by omega)
       go_wp2_with fail;go_meet
       case rel=>exact ⟨by simp [q1],rfl⟩
     case rest=>
      obtain ⟨rfl,rfl⟩:=hcut;obtain ⟨sb,hsb⟩:∃ sb,sb=(decide (a<i) && decide (i<mid)):=⟨_,rfl⟩;rw [<- hsb];have SB:=Lib.hid hsb;clear hsb;go_upto_if 199 with fail;go_cut [] from 149 (fun u=>∃ d3,SW w0 blk off d3 u/\Halfway a t b mid d d3)
      case first=>
       cases sb
       ·have hor:a=i\/i=mid:=by have:=SB.out; simp at this; omega
        go_wp2_with fail;go_meet
        case rel=>exact ⟨d2,W2.out.1,W2.out.2.1.half W2.out.2.2.2.2 (by omega) hmt2 htb (permIn_refl _ _ _) (W2.out.2.1.ldone hor)⟩
       ·have hand:a<i/\i<mid:=by have:=SB.out; simp at this; omega
        go_wp2_with fail;refine (HS.out.2.2.2.2 a i mid _ _ (by omega) W2.out.2.2.1 W2.out.2.2.2.1 W2.out.1 hand.1 hand.2 (by have:=W2.out.2.2.2.2; omega) W2.out.2.1.l).mono ?_;rintro e w3 ⟨rfl,d3,hS3,hP3,hT3⟩;have V3:=Lib.hid (And.intro hS3 (W2.out.2.1.half W2.out.2.2.2.2 (by omega) hmt2 htb hP3 hT3));clear hS3 hP3 hT3;go_wp2_with fail;go_meet
        case rel=>exact ⟨d3,V3.out⟩
      case rest=>
       obtain ⟨d3,hS3,hH3⟩:=hcut;have hd3:d3.size=d.size:=hH3.perm.1;have k0:d3.size=d0.size:=hd3.trans HS.out.2.1;have k1:d3.size=sz:=hd3.trans HS.out.2.2.1;have kb:b<=d3.size:=by rw [hd3]; exact MS.out.2.2
       have W3:=H5 hS3 hH3 k0 k1 kb;clear hS3 hH3 hd3 k0 k1 kb W2 SB;by_cases c3:mid<t/\t<b
       ·obtain ⟨c3a,c3b⟩:=c3
        have x1:decide ((mid:Int)<(t:Int))=true:=decide_eq_true (by omega);have x2:decide ((t:Int)<(b:Int))=true:=decide_eq_true (by omega);go_wp2_with fail;refine (HS.out.2.2.2.2 mid t b _ _ (by omega) W3.out.2.2.1 W3.out.2.2.2.1 W3.out.1 c3a c3b W3.out.2.2.2.2 W3.out.2.1.r).mono ?_;rintro e w4 ⟨rfl,d4,hS4,hP4,hT4⟩;have V:=Lib.hid (And.intro hS4 (W3.out.2.1.fin W3.out.2.2.2.2 hP4 hT4));clear hS4 hP4 hT4;go_wp2;go_end0;exact ⟨rfl,d4,V.out⟩
       ·have V:=Lib.hid (And.intro W3.out.1 (W3.out.2.1.fin W3.out.2.2.2.2 (permIn_refl _ _ _) (W3.out.2.1.rdone (by omega))))
        by_cases c3a:mid<t
        ·have x1:decide ((mid:Int)<(t:Int))=true:=decide_eq_true (by omega)
         have x2:decide ((t:Int)<(b:Int))=false:=decide_eq_false (by omega);go_wp2;go_end0;exact ⟨rfl,d3,V.out⟩
        ·have x1:decide ((mid:Int)<(t:Int))=false:=decide_eq_false (by omega)
         go_wp2;go_end0;exact ⟨rfl,d3,V.out⟩
theorem dy7 {blk off cap sz:Nat} {d0:Array De} {w0:World} (R:RW w0 blk off d0) (hsz:sz<4611686018427387904):∀ (N a m b:Nat) (d:Array De) (w:World),b - a<=N->d.size=d0.size->d.size=sz->SW w0 blk off d w->a<m->m<b->b<=d.size->Mer a m b d->
  Q 163 #[Mt blk off sz cap,I a,I m,I b,FV] w fun e w'=>e= .returned (.tuple #[])/\∃ d',SW w0 blk off d' w'/\PermIn a b d d'/\Srt a b d':=by
 intro N
 induction N with
 |zero=>intro a m b d w h1 _ _ _ h2 h3; omega
 |succ N ih=>
  intro a m b d w hN hs hz S ham hmb hb hM;have hsz':d.size<4611686018427387904:=G
  by_cases h1:m=a+1
  ·subst h1
   exact dv8 R hs hz S hb hmb hsz' hM
  ·by_cases h2:b=m+1
   ·subst h2
    exact dv7 R hs hz S hb G hsz' hM
   ·have IH:SymIH b a blk off cap sz w0 d0:=fun a' m' b' d' w' k1 k2 k3 k4 k5 k6 k7 k8=>ih a' m' b' d' w' G k2 k3 k4 k5 k6 k7 k8
    by_cases h3:m<=(a+b) / 2
    ·exact di0 R hs hz S hb G G hsz' hM rfl h3 IH
    ·exact di2 R hs hz S hb G G hsz' hM rfl G IH
end
section
end
section
open Go.RowKit Go.Lib Go.Sort Fm Sb
theorem ci9 {q k m:Nat} (h:q*m<k*m):q*m+m<=k*m:=by
 have h1:q<k:=Nat.lt_of_mul_lt_mul_right h;have:=Nat.mul_le_mul_right m (Nat.succ_le_of_lt h1);rw [Nat.succ_mul] at this;exact this
theorem do4 {q k m:Nat} (h1:k*m<=q*m) (h2:q*m<k*m+m):q*m=k*m:=by
 rcases Nat.lt_or_ge (k*m) (q*m) with h|h
 ·have:=ci9 h; omega
 ·omega
def Ph (bs n:Nat) (d:Array De):Prop:=∀ q,q*bs<n->Run (q*bs) (min (q*bs+bs) n) d
structure Px (k bs n:Nat) (d:Array De):Prop where
 lo:∀ q,q*(2*bs)<k*(2*bs)->Run (q*(2*bs)) (min (q*(2*bs)+2*bs) n) d
 hi:∀ q,k*(2*bs)<=q*bs->q*bs<n->Run (q*bs) (min (q*bs+bs) n) d
theorem Px.start {bs n:Nat} {d:Array De} (h:Ph bs n d):Px 0 bs n d:=⟨fun q hq=>by rw [Nat.zero_mul] at hq; omega,fun q _ hq=>h q hq⟩
theorem twice (k bs:Nat):k*(2*bs)=(2*k)*bs:=by rw [Nat.mul_comm 2 k,Nat.mul_assoc]
theorem Px.two {k bs n:Nat} {d:Array De} (h:Px k bs n d) (hbs:0<bs) (hb:k*(2*bs)+2*bs<=n):Run (k*(2*bs)) (k*(2*bs)+bs) d/\Run (k*(2*bs)+bs) (k*(2*bs)+2*bs) d:=by
 have e:=twice k bs;have e2:(2*k+1)*bs=k*(2*bs)+bs:=by rw [Nat.succ_mul,e]
 have h1:=h.hi (2*k) G G;have h2:=h.hi (2*k+1) G G;rw [<- e,Nat.min_eq_left G] at h1;rw [e2,Nat.min_eq_left G] at h2;rw [show k*(2*bs)+bs+bs=k*(2*bs)+2*bs by omega] at h2;exact ⟨h1,h2⟩
theorem Px.next {k bs n:Nat} {d d':Array De} (h:Px k bs n d) (hbs:0<bs) (hb:k*(2*bs)+2*bs<=n) (hp:PermIn (k*(2*bs)) (k*(2*bs)+2*bs) d d') (hr:Run (k*(2*bs)) (k*(2*bs)+2*bs) d'):Px (k+1) bs n d':=by
 have ek:(k+1)*(2*bs)=k*(2*bs)+2*bs:=Nat.succ_mul _ _;refine ⟨fun q hq=>?_,fun q h1 h2=>(h.hi q G h2).keep hp (.inr G)⟩;rcases Nat.lt_or_ge (q*(2*bs)) (k*(2*bs)) with hlt|hge
 ·have:=ci9 hlt
  exact (h.lo q hlt).keep hp (.inl G)
 ·have e:=do4 hge G
  rw [e,Nat.min_eq_left hb];exact hr
theorem Px.rest {k bs n:Nat} {d:Array De} (h:Px k bs n d) (hbs:0<bs) (h1:k*(2*bs)+bs<n) (h2:n<k*(2*bs)+2*bs):Run (k*(2*bs)) (k*(2*bs)+bs) d/\Run (k*(2*bs)+bs) n d:=by
 have e:=twice k bs;have e2:(2*k+1)*bs=k*(2*bs)+bs:=by rw [Nat.succ_mul,e]
 have r1:=h.hi (2*k) G G;have r2:=h.hi (2*k+1) G G;rw [<- e,Nat.min_eq_left G] at r1;rw [e2,Nat.min_eq_right G] at r2;exact ⟨r1,r2⟩
theorem Px.done {k bs n:Nat} {d d':Array De} (h:Px k bs n d) (h2:n<k*(2*bs)+2*bs) (hp:PermIn (k*(2*bs)) n d d') (hr:k*(2*bs)<n->Run (k*(2*bs)) n d'):Ph (2*bs) n d':=by
 intro q hq;rcases Nat.lt_or_ge (q*(2*bs)) (k*(2*bs)) with hlt|hge
 ·have:=ci9 hlt
  exact (h.lo q hlt).keep hp (.inl G)
 ·have e:=do4 hge G
  rw [e,Nat.min_eq_right G];exact hr G
theorem Px.last {k bs n:Nat} {d:Array De} (h:Px k bs n d) (h2:n<=k*(2*bs)+bs) (hlt:k*(2*bs)<n):Run (k*(2*bs)) n d:=by
 have e:=twice k bs;have r1:=h.hi (2*k) G G;rw [<- e,Nat.min_eq_right G] at r1;exact r1
structure P1 (k n:Nat) (d:Array De):Prop where
 lo:∀ q,q*20<k*20->Run (q*20) (q*20+20) d
 raw:Raw (k*20) n d
theorem P1.start {n:Nat} {d:Array De} (h:Raw 0 n d):P1 0 n d:=⟨fun q hq=>by omega,h.later G⟩
theorem P1.next {k n:Nat} {d d':Array De} (h:P1 k n d) (hb:k*20+20<=n) (hn:n<=d.size) (hp:PermIn (k*20) (k*20+20) d d') (hs:Srt (k*20) (k*20+20) d'):P1 (k+1) n d':=by
 refine ⟨fun q hq=>?_,(h.raw.later G).keep hp G⟩;by_cases e:q=k
 ·subst e
  exact h.raw.run (Nat.le_refl _) hb G hp hs
 ·exact (h.lo q G).keep hp (.inl G)
theorem P1.done {k n:Nat} {d d':Array De} (h:P1 k n d) (h1:k*20<=n) (h2:n<k*20+20) (hn:n<=d.size) (hp:PermIn (k*20) n d d') (hs:Srt (k*20) n d'):Ph 20 n d':=by
 intro q hq;by_cases e:q=k
 ·subst e
  rw [Nat.min_eq_right G];exact h.raw.run (Nat.le_refl _) (Nat.le_refl _) hn hp hs
 ·rw [Nat.min_eq_left G]
  exact (h.lo q G).keep hp (.inl G)
theorem dy2 {blk off cap sz a m b:Nat} {za zm zb:Int} {d0 d:Array De} {w0 w:World} (ea:za=(a:Int)) (em:zm=(m:Int)) (eb:zb=(b:Int)) (R:RW w0 blk off d0) (hs:d.size=d0.size) (hz:d.size=sz) (S:SW w0 blk off d w) (ham:a<m) (hmb:m<b) (hb:b<=d.size) (hsz:d.size<4611686018427387904) (hM:Mer a m b d):
  Q 163 #[Mt blk off sz cap,I za,I zm,I zb,.func (.func 102) #[] #[]] w fun e w'=>e= .returned (.tuple #[])/\∃ d',SW w0 blk off d' w'/\PermIn a b d d'/\Srt a b d':=by
 subst ea em eb;exact dy7 R G (b - a) a m b d w (Nat.le_refl _) hs hz S ham hmb hb hM
theorem cx7 {blk off cap n:Nat} {d:Array De} {w:World} (R:RW w blk off d) (hn:d.size=n) (hbig:n<=1000000000) (hraw:Raw 0 n d):
  Calls prog 131 #[.slice (some ⟨blk,off,none⟩) n cap,.int .i64 n,.func (.func 102) #[] #[]] w fun e w'=>e= .returned (.tuple #[])/\∃ d',SW w blk off d' w'/\PermIn 0 n d d'/\Srt 0 n d':=by
 have G0:=Lib.hid (And.intro (show Stg blk off n w d w d from ⟨SWK.start R.hH,hn,rfl,permIn_refl d 0 n⟩) (P1.start hraw));clear hn hraw;go_enter Tryz.func131,Tryz.ntmps131;go_wp2_with fail;go_loopw [7,8] (fun va vb wr=>∃ (k:Nat) (a:Nat) (dk:Array De),va= .int .i64 a/\vb= .int .i64 ((a+20:Nat):Int)/\a<=n/\Hid (a=k*20)/\Hid (Stg blk off n w d wr dk/\P1 k n dk)) (fun va _ _=>n - (intOf va).toNat)
 case atStart=>exact ⟨0,0,d,rfl,rfl,Nat.zero_le _,Lib.hid (by omega),G0⟩
 case round=>
  clear G0;obtain ⟨k,a,dk,rfl,rfl,hk,HA,H⟩:=hrel;obtain ⟨b,hb⟩:∃ b,a+20=b:=⟨_,rfl⟩;rw [hb];by_cases hlt:b<=n
  ·have hle:(b:Int)<=(n:Int):=by omega
   have hI:=du0 (za:=a) (zb:=b) (cap:=cap) rfl rfl R H.out.1.s0 H.out.1.sz H.out.1.s (by omega) (by rw [H.out.1.sz]; exact hlt) (by rw [H.out.1.sz]; omega) (H.out.2.raw.inc (by have:=HA.out; omega) hlt);have hw:IntKind.i64.wrap ((b:Int)+20)=((b+20:Nat):Int):=by rw [IntKind.wrap_i64]; omega
   have HB:=Lib.hid hb;obtain ⟨c,hc⟩:∃ c,b+20=c:=⟨_,rfl⟩;rw [hc] at hw;have HC:=Lib.hid hc;clear hb hc;go_wp2_with fail;refine hI.mono ?_;rintro e w1 ⟨rfl,d1,hS,hP,hT⟩;have G1:=Lib.hid (And.intro (H.out.1.next hS hP hlt) (show P1 (k+1) n d1 by
    have e1:=HA.out;have e2:=HB.out;refine H.out.2.next (by omega) (by rw [H.out.1.sz]; exact Nat.le_refl _) ?_ ?_
    ·rw [<- e1,e2]; exact hP
    ·rw [<- e1,e2]; exact hT))
   clear hI hS hP hT H;go_wp2_with fail;go_roundw
   case rel=>exact ⟨k+1,b,d1,rfl,by congr 1; have:=HC.out; omega,hlt,Lib.hid (by have:=HA.out; have:=HB.out; omega),G1⟩
   case measure=>simp [intOf]; have:=HB.out; omega
  ·have hle:¬ (b:Int)<=(n:Int):=by omega
   have hI:=du0 (za:=a) (zb:=n) (cap:=cap) rfl rfl R H.out.1.s0 H.out.1.sz H.out.1.s hk (by rw [H.out.1.sz]; exact Nat.le_refl _) (by rw [H.out.1.sz]; omega) (H.out.2.raw.inc (by have:=HA.out; omega) (Nat.le_refl _));have HB:=Lib.hid hb;clear hb;go_wp2_with fail;refine hI.mono ?_;rintro e w1 ⟨rfl,d1,hS,hP,hT⟩;have G1:=Lib.hid (And.intro (H.out.1.next hS hP (Nat.le_refl _)) (show Ph 20 n d1 by
    have e1:=HA.out;have e2:=HB.out;refine H.out.2.done (by omega) (by omega) (by rw [H.out.1.sz]; exact Nat.le_refl _) ?_ ?_
    ·rw [<- e1]; exact hP
    ·rw [<- e1]; exact hT))
   clear hI hS hP hT H hle;go_wp2_with fail;go_loopw [6,7,8,9] (fun vs _ _ _ wr=>∃ (bs:Nat) (dk:Array De),vs= .int .i64 bs/\0<bs/\bs<=2000000000/\Hid (Stg blk off n w d wr dk/\Ph bs n dk)) (fun vs _ _ _ _=>n - (intOf vs).toNat)
   case atStart=>exact ⟨20,d1,rfl,by omega,by omega,G1⟩
   case round=>
    clear G1 HB HA;obtain ⟨bs,dk,rfl,h0,hbs,H⟩:=hrel;by_cases hlt2:bs<n
    ·have hltz:(bs:Int)<(n:Int):=by omega
     have hw:IntKind.i64.wrap (2*(bs:Int))=((2*bs:Nat):Int):=by rw [IntKind.wrap_i64]; omega
     obtain ⟨b2,hb2⟩:∃ b2,2*bs=b2:=⟨_,rfl⟩;rw [hb2] at hw;have HB2:=Lib.hid hb2;have hb2n:b2<=2000000000:=by omega
     have G2:=H2 H.out.1 (Px.start H.out.2);clear hb2 H;go_wp2_with fail;go_loopw [7,8] (fun va vb wr=>∃ (k a b:Nat) (dk:Array De),va= .int .i64 a/\vb= .int .i64 b/\a<=n/\Hid (a=k*(2*bs)/\b=a+b2)/\Hid (Stg blk off n w d wr dk/\Px k bs n dk)) (fun va _ _=>n - (intOf va).toNat)
     case atStart=>exact ⟨0,0,b2,dk,rfl,rfl,Nat.zero_le _,Lib.hid ⟨by omega,by omega⟩,G2⟩
     case round=>
      clear G2;obtain ⟨k,a,b,dk,rfl,rfl,hk,HA,H⟩:=hrel;by_cases hlt:b<=n
      ·have hle:(b:Int)<=(n:Int):=by omega
       have ea:=HA.out.1;have eb:=HA.out.2;have e2:=HB2.out;obtain ⟨r1,r2⟩:=H.out.2.two h0 (by omega);have hI:=dy2 (za:=a) (zm:=(a:Int)+(bs:Int)) (zb:=b) (a:=a) (m:=a+bs) (b:=b) (cap:=cap) rfl (by omega) rfl R H.out.1.s0 H.out.1.sz H.out.1.s (by omega) (by omega) (by rw [H.out.1.sz]; exact hlt) (by rw [H.out.1.sz]; omega) (by rw [ea] at eb ⊢; rw [show b=k*(2*bs)+2*bs by omega]; exact r1.mer r2);have w1':IntKind.i64.wrap ((a:Int)+(bs:Int))=(a:Int)+(bs:Int):=by rw [IntKind.wrap_i64]; omega
       have w2':IntKind.i64.wrap ((b:Int)+(b2:Int))=((b+b2:Nat):Int):=by rw [IntKind.wrap_i64]; omega
       obtain ⟨c,hc⟩:∃ c,b+b2=c:=⟨_,rfl⟩;rw [hc] at w2';have HC:=H3 hc r1 r2;clear hc ea eb e2 r1 r2;go_wp2_with fail;refine hI.mono ?_;rintro e w2 ⟨rfl,d2,hS,hP,hT⟩;have G3:=Lib.hid (And.intro (H.out.1.next hS hP hlt) (show Px (k+1) bs n d2 by
        have ea:=HA.out.1;have eb:=HA.out.2;have e2:=HB2.out;have e3:b=k*(2*bs)+2*bs:=by omega
        rw [ea,e3] at hP hT;have hz:=H.out.1.sz;refine H.out.2.next h0 (by omega) hP (Run.join HC.out.2.1 HC.out.2.2 (by omega) (by omega) (by omega) hP hT)))
       clear hI hS hP hT H;go_wp2_with fail;go_roundw
       case rel=>exact ⟨k+1,b,c,d2,rfl,by go_num,hlt,Lib.hid ⟨by have:=HA.out; have:=HB2.out; rw [Nat.succ_mul]; omega,HC.out.1.symm⟩,G3⟩
       case measure=>simp [intOf]; have:=HA.out.2; have:=HB2.out; omega
      ·have hle:¬ (b:Int)<=(n:Int):=by omega
       have w1':IntKind.i64.wrap ((a:Int)+(bs:Int))=((a+bs:Nat):Int):=by rw [IntKind.wrap_i64]; omega
       obtain ⟨m,hm⟩:∃ m,a+bs=m:=⟨_,rfl⟩;rw [hm] at w1';have w3:IntKind.i64.wrap ((bs:Int)*2)=(b2:Int):=by have:=HB2.out; rw [IntKind.wrap_i64]; omega
       have HM:=H2 hm hlt;clear hm hlt;by_cases hmn:m<n
       ·have hmz:(m:Int)<(n:Int):=by omega
        have ea:=HA.out.1;have eb:=HA.out.2;have e2:=HB2.out;have e4:=HM.out;obtain ⟨r1,r2⟩:=H.out.2.rest h0 (by omega) (by omega);have hI:=dy2 (za:=a) (zm:=m) (zb:=n) (a:=a) (m:=m) (b:=n) (cap:=cap) rfl rfl rfl R H.out.1.s0 H.out.1.sz H.out.1.s (by omega) hmn (by rw [H.out.1.sz]; exact Nat.le_refl _) (by rw [H.out.1.sz]; omega) (by rw [<- e4.1,ea]; exact r1.mer r2);have HC:=H2 r1 r2;clear ea eb e2 e4 r1 r2;go_wp2_with fail;refine hI.mono ?_;rintro e w2 ⟨rfl,d2,hS,hP,hT⟩;have G3:=Lib.hid (And.intro (H.out.1.next hS hP (Nat.le_refl _)) (show Ph b2 n d2 by
         have ea:=HA.out.1;have eb:=HA.out.2;have e2:=HB2.out;have e4:=HM.out;have hz:=H.out.1.sz;rw [ea] at hP hT;rw [<- e2];exact H.out.2.done (by omega) hP (fun _=>Run.join HC.out.1 HC.out.2 (by omega) (by omega) (by omega) hP hT)))
        clear hI hS hP hT H;go_wp2_with fail;go_roundw
        case rel=>exact ⟨b2,d2,rfl,by have:=HB2.out; omega,hb2n,G3⟩
        case measure=>simp [intOf]; have:=HB2.out; omega
       ·have hmz:¬ (m:Int)<(n:Int):=by omega
        have G3:=Lib.hid (And.intro H.out.1 (show Ph b2 n dk by
         have ea:=HA.out.1;have eb:=HA.out.2;have e2:=HB2.out;have e4:=HM.out;rw [<- e2];exact H.out.2.done (by omega) (permIn_refl _ _ _) (fun hlt=>H.out.2.last (by omega) hlt)))
        clear H;go_wp2_with fail;go_roundw
        case rel=>exact ⟨b2,dk,rfl,by have:=HB2.out; omega,hb2n,G3⟩
        case measure=>simp [intOf]; have:=HB2.out; omega
    ·have hltz:¬ (bs:Int)<(n:Int):=by omega
     have HZ:=Lib.hid hlt2;clear hlt2;go_wp2_with fail;go_end0;refine ⟨rfl,dk,H.out.1.s,H.out.1.perm,?_⟩;by_cases hz:0<n
     ·have:=H.out.2 0 (by omega)
      rw [Nat.zero_mul,Nat.zero_add,Nat.min_eq_right (by have:=HZ.out; omega)] at this;exact this.srt
     ·intro i j h1 h2 h3
      omega
end
section
open Go.RowKit Go.Lib Go.Sort Go.Maps Rm Fm Sb
theorem bs6 {blk off cap n:Nat} {d:Array De} {w:World} (R:RW w blk off d) (hn:d.size=n) (h60:n<=100001100) (hraw:Raw 0 n d):
  Q 101 #[Mt blk off n cap,.func (.func 102) #[] #[]] w fun e w'=>e= .returned (.tuple #[])/\∃ d',SW w blk off d' w'/\PermIn 0 n d d'/\Srt 0 n d':=by
 have H:=Z (cx7 (cap:=cap) R hn G hraw);clear R hn hraw;go_enter Tryz.func101,Tryz.ntmps101;go_wp2_with fail;refine H.out.mono ?_;rintro e w' ⟨rfl,d',h⟩;have H2:=Z h;clear h H;go_wp2_with fail;go_end0;exact ⟨rfl,d',H2.out⟩
theorem dw1 {W:World} {n₀:Nat} {v:Value} {L:List En} (hrow:W.ownsRow n₀ 142 3 v L.length (L.flatMap ecl)) (hnil:v= .slice none 0 0↔L=[]) (hl:L.length<=100001100):
  Calls prog 101 #[v,FV] W fun e W'=>e= .returned (.tuple #[])/\∃ ds,SortOf L ds/\SjAt W' v (ds.map (·.e))/\Turn v.ownBlock.toList W W':=by
 rcases hrow.2 with ⟨rfl,-⟩|⟨g,cap,cur,rfl,h0,hg,h1,h2,h3,h4⟩
 ·obtain rfl:=hnil.1 rfl
  refine (be8 W).mono ?_;rintro e w' ⟨rfl,rfl⟩;exact ⟨rfl,[],⟨rfl,fun k h=>absurd h (by simp),fun p q _ h=>absurd h (by simp),fun i h=>absurd h (by simp)⟩,.inl ⟨rfl,rfl⟩,.refl _ _⟩
 ·have hgl:g<W.heap.size:=(Array.getElem?_eq_some_iff.1 hg).1
  have R:RW W g 0 (deco L).toArray:=⟨bd5,cl7,ae4 bd5 hg (by rw [cl5,ae9]; exact h4),hgl⟩;refine (bs6 (cap:=cap) R (n:=L.length) (by simp [ae9]) hl (ce9 L)).mono ?_;rintro e w' ⟨rfl,d',hS,hp,hs⟩;have hso:=cd0 hp hs;have hz:d'.size=(deco L).toArray.size:=hp.1;have hz2:d'.size=L.length:=by rw [hz]; simp [ae9]
  have hH:=hS.holds R.hblk R.hH hz;have hSR:=SR.of_holds hH;have hsz:W.heap.size<=w'.heap.size:=by
   obtain ⟨n',os,rfl⟩:=hS;exact (ae0 (cl:=dcl) (k:=3) (w:=W) (g:=g) (n:=n') (os:=os) d').size
  have hT:Turn [g] W w':=by
   obtain ⟨n',os,rfl⟩:=hS;exact Turn.of_grown (ae0 d') (by simp)
  have hlen:(d'.toList.map (·.e)).length=L.length:=by simp [hz2]
  refine ⟨rfl,d'.toList,hso,.inr ⟨g,cap,by rw [hlen],Nat.lt_of_lt_of_le hgl hsz,by rw [hlen]; exact h1,_,by rw [hlen,<- hz2]; exact hSR,fun i h=>?_⟩,hT⟩;have hi:i<d'.size:=by rw [hlen] at h; omega
  simp [hi]
theorem cc7 {W:World} {v:Value} {es:List En} (h:SjAt W v es) (hl:es.length<=100001100):
  Q 104 #[v,.func (.func 105) #[] #[]] W fun e W'=>∃ v',e= .returned v'/\SjAt W' v' (keepE (fun i=>es[i]!) es.length)/\Turn v.ownBlock.toList W W'/\v'.ownBlock=v.ownBlock:=by
 rcases h with ⟨rfl,rfl⟩|⟨g,cap,rfl,hgl,hc,F,hS,hF⟩
 ·refine (aw4 W).mono ?_
  rintro e w' ⟨rfl,rfl⟩;exact ⟨_,rfl,.inl ⟨rfl,rfl⟩,.refl _ _,rfl⟩
 ·have hS2:=hS.congr (f':=fun i=>es[i]!) (fun i hi=>by rw [hF i hi]; simp [hi])
  refine (aw5 hS2 hgl G hc).mono ?_;rintro e w' ⟨v',rfl,hv,⟨f',hR,hf'⟩,hT⟩;have hk:=bh0 (fun i=>es[i]!) es.length;exact ⟨v',rfl,.inr ⟨g,cap,hv,Nat.lt_of_lt_of_le hgl hT.size,G,f',hR,hf'⟩,hT,by rw [hv]; rfl⟩
end
section
open Go.RowKit Go.Maps Rm Fm Sb
attribute [local go_sem] Oper.semAt_some
theorem bs7 {w:World} {R:Nat} {o fl tb:Option Nat} {j:Jr} {N n:Nat} {M:Mr} (h:Rr w R o fl tb j N n M) (hnn:2*N+n<=100001100):
  Calls prog 68 #[.pointer (some ⟨R,0,none⟩)] w fun e w'=>∃ v,∃ xs:List Pk,∃ ys:List Ky,∃ ps:List Pk,∃ es:List (ElP M.sm.own),∃ fs:List (ElK M.sm.floor),∃ ds,e= .returned v/\(EsP M.sm.own xs es/\xs.Pairwise ltP/\∀ x,x∈xs↔x.ok/\(M.sm.own x).isSome=true)/\(EsK M.sm.floor ys fs/\ys.Pairwise ltK/\∀ x,x∈ys↔x.ok/\(M.sm.floor x).isSome=true)/\
   (∀ p,p∈ps↔∃ fr,Rk.ok ⟨p.a,p.n,fr⟩/\(M.f ⟨p.a,p.n,fr⟩).isSome=true)/\SortOf (es.map sO++fs.map sF++ps.map sW) ds/\ds.length<=100001100/\SjAt w' v (keepE (fun i=>(ds.map (·.e))[i]!) (ds.map (·.e)).length)/\(∀ b,v.ownBlock=some b->w.heap.size<=b)/\Below w.heap.size w w':=by
 have hb1:=next (aa0 w (.cells #[.slice none 0 0] 139)) (aa0 _ (.cells #[.func (.func 97) #[] #[.pointer (some ⟨w.heap.size,0,none⟩)]] 177));have hBx:Boxed ((w.alloc (.cells #[.slice none 0 0] 139)).alloc (.cells #[.func (.func 97) #[] #[.pointer (some ⟨w.heap.size,0,none⟩)]] 177)) w.heap.size 139 (.slice none 0 0):=(Blk.new w 139 #[.slice none 0 0]).more (.cells #[.func (.func 97) #[] #[.pointer (some ⟨w.heap.size,0,none⟩)]] 177);have hAB:=Blk.new (w.alloc (.cells #[.slice none 0 0] 139)) 177 #[.func (.func 97) #[] #[.pointer (some ⟨w.heap.size,0,none⟩)]];rw [aa1] at hAB;have hz:((w.alloc (.cells #[.slice none 0 0] 139)).alloc (.cells #[.func (.func 97) #[] #[.pointer (some ⟨w.heap.size,0,none⟩)]] 177)).heap.size=w.heap.size+2:=by rw [aa1,aa1]
 have h1:=h.held hb1;have HST:=ac4 h1;have HR:=Lib.hid h;refine (callsIn_wide (n:=9)).1 ?_;refine callsIn_of_wp_marks Tryz.func68 rfl trivial ?_ rfl;simp only [Tryz.ntmps68,List.size_toArray,List.length_cons,List.length_nil,Nat.reduceAdd,Nat.reduceSub,Array.replicate_succ,Array.replicate_zero,List.push_toArray,List.append_toArray,List.nil_append,List.cons_append];clear h
 gi_wp2
 generalize (w.alloc (.cells #[.slice none 0 0] 139)).alloc (.cells #[.func (.func 97) #[] #[.pointer (some ⟨w.heap.size,0,none⟩)]] 177)=w1 at*;refine ⟨trivial,(aa7 HST).mono ?_⟩;rintro e w1' ⟨rfl,hb1'⟩;have hR1:=h1.held hb1';obtain ⟨cn,cm,hnm,hS⟩:=hR1.nt;have HO:=bb5 hS;clear HST
 gi_wp2
 refine ⟨trivial,(aa7 HO).mono ?_⟩;rintro e w2 ⟨B1,B2,B3,v1,oo,xs,rfl,hI,h3,hfr,hB3,hB⟩;clear HO
 gi_wp2
 have hbb:=next hb1' hB;have hsz2:=hbb.size;have hsz1:=hb1'.size;obtain ⟨es,hE⟩:=bt7 (f:=M.sm.own) (fun _ _ _=>rfl) xs (fun x hx=>(hI.mem x).1 hx);have hlenE:es.length<=1000000000:=by
  have:es.length=xs.length:=by rw [<- show es.map (·.key)=xs from hE]; simp
  have:=hI.len;have:=hS.counts;omega
 have hL1:Ls2 w w.heap.size w.heap.size (w.heap.size+1) w1'.heap.size w2.heap.size [] w2:=by
  refine ⟨⟨⟨.slice none 0 0,(hbb.block _ (by omega)).trans hBx,World.ownsRow_nil _ _ _ _,by simp,fun b hb=>by cases hb⟩,next hb1 hbb,Nat.le_refl _⟩,hAB.held hbb⟩
 have h1w:w.heap.size<=w.heap.size:=Nat.le_refl _;refine bc5 (α:=ElP M.sm.own) rfl am8 (au9 hI hE h3) (fun _=>rfl) (fun h k=>⟨h.1.trans k.1,fun b C hb=>k.2 b C (h.2 b C hb)⟩) (fun W l o o' hl h hc hw=>⟨af8 hI.lt W l o o' hl h hc hw,KeepT.put W l o o' h hc⟩)
  (fun pre W=>Ls2 w w.heap.size w.heap.size (w.heap.size+1) w1'.heap.size w2.heap.size (pre.map sO) W) (bl9 _ h1w (by omega)) hL1
  (fun x a' W=>∃ Bx,Blk 28 W Bx #[.int .u32 x.key.a,.int .i64 x.key.n]/\a'={ tmps:=#[.pointer (some ⟨R,0,none⟩),undef,.slice none 0 0,.pointer (some ⟨w.heap.size,0,none⟩),.pointer (some ⟨w.heap.size+1,0,none⟩),.pointer (some ⟨Bx,0,none⟩),undef,undef,.func (.func 97) #[] #[.pointer (some ⟨w.heap.size,0,none⟩)],.pointer (some ⟨R,0,none⟩),.pointer (some ⟨R,0,none⟩),.func (.func 125) #[] #[.pointer (some ⟨B3,0,none⟩)],.agg #[.int .u32 x.key.a,.int .i64 x.key.n],.bool x.val,undef,undef,undef,undef,undef,undef,undef,undef,undef,undef,undef,undef,undef,undef,undef,undef,undef,undef,undef,undef,undef,undef,undef,undef,undef,undef],defers:=[] })
  ?_ ?assign ?body ?done
 ·rintro x a' s W W' row ⟨Bx,hp,rfl⟩ hg hr
  exact ⟨Bx,hp.grown hg hr,rfl⟩
 case assign=>
  rintro l pre ⟨⟨xa,xn⟩,y,hok,hfit,hhas⟩ W K hL hK;have hb:=aa0 W (.cells #[.int .u32 xa,.int .i64 xn] 28);have hl:=hL.1.2.2;simp only [arO,clP]
  gi_wp2
  exact hK _ _ (ac7 _ hb) ⟨.of_below (fun b hb'=>Nat.lt_of_lt_of_le (hI.lt b hb') hl) hb,.of_below hb⟩ (hL.alloc h1w _) ⟨_,Blk.new _ _ _,rfl⟩
 case body=>
  rintro l pre ⟨⟨xa,xn⟩,y,hok,hfit,hhas⟩ a' W hL ⟨Bx,hp,rfl⟩ hlt;have p0:=hp.at_ 0;have p1:=hp.at_ 1;have a0:=hL.2.at_ 0;have hrl:(pre.map sO).length=pre.length:=by simp
  have HA:=cn9 h1w (Nat.le_refl _) hL.1 (by omega) xa xn;have X:=H2 hL hp;clear hL hp
  gi_wp2
  refine ⟨trivial,rfl,(ad1 HA).mono ?_⟩;rintro e W2 ⟨rfl,hl2,hk2,hb2,hoth,hkt⟩;have hne:∀ {t C b},Blk t W b C->t≠139->b≠w.heap.size:=fun {t C b} hb ht e=>by
   obtain ⟨⟨⟨v,hv,-⟩,-⟩,-⟩:=X.out.1;subst e;exact hb.ne (show Blk 139 W w.heap.size #[v] from hv) ht rfl
  gi_wp2
  refine ⟨hk2.from _,⟨⟨fun b hb=>hoth b (Nat.lt_of_lt_of_le (hI.lt b hb) X.out.1.1.2.2) (fun e=>?_) (hfr b hb) (hI.lt b hb),hk2.size⟩,fun b C hb=>hkt _ C b hb (by decide) (hne hb (by decide))⟩,?_,hkt _ _ _ X.out.1.2 (by decide) (by omega)⟩
  ·have:=hfr b hb
   omega
  ·simpa [sO] using hl2
 case done=>
  rintro D es' W hD rfl hL hK;have hDW:D<W.heap.size:=(Array.getElem?_eq_some_iff.1 hK).1;have hDw:w1.heap.size<=D:=Nat.le_trans hsz2 hD;have hR2:=HR.out.held hL.1.2.1;have HST2:=ac4 hR2;have HE:=H3 hE hI.srt hI.mem;have hkl:=hI.count;have hcn:=hS.counts;clear hI h3 hfr hB3 hB hL1 hb1 hBx hE hAB h1 hb1' hR1 hS hbb
  gi_wp2
  refine ⟨trivial,(aa7 HST2).mono ?_⟩;rintro e W3 ⟨rfl,hb3⟩;have hR3:=hR2.held hb3;obtain ⟨cn3,cm3,hnm3,hS3⟩:=hR3.nt;have HF:=by3 hS3;clear HST2
  gi_wp2
  refine ⟨trivial,(aa7 HF).mono ?_⟩;rintro e w4 ⟨C1,C2,v2,oo2,ys,rfl,hI2,hfr2,hB2⟩;clear HF
  gi_wp2
  have hb34:=next hb3 hB2;have hsz4:=hB2.size;have hsz3:=hb3.size;obtain ⟨fs,hE2⟩:=cx9 (f:=M.sm.floor) hS3.small ys (fun x hx=>(hI2.mem x).1 hx);have hlenF:fs.length<=1000000000:=by
   have:fs.length=ys.length:=by rw [<- show fs.map (·.key)=ys from hE2]; simp
   have:=hI2.len;have:=hS3.counts;omega
  have hlenE2:(es'.map sO).length<=1000000000:=by rw [List.length_map]; omega
  have hL4:Ls2 w w.heap.size w.heap.size (w.heap.size+1) W3.heap.size w4.heap.size (es'.map sO++([]:List (ElK M.sm.floor)).map sF) w4:=by
   have:=(hL.1.held hb3 h1w).rebase hB2 h1w;exact ⟨by simpa using this,hL.2.held hb34⟩
  have hD4:w4.heap[D]?=some (.deferred (some [])):=(hb34.block D hDW).trans hK;refine wpIn_rangeFunc_ownH (α:=ElK M.sm.floor) rfl (by omega) (gf:=159) (lb:=#[.pointer (some ⟨C1,0,none⟩),.pointer (some ⟨C2,0,none⟩)]) rfl trivial bi2 (bh4 hI2 hE2 8) KeepS.trans (af8 hI2.lt) (Below.refl _ _) (fun _=>rfl)
   (fun pre V9=>Ls2 w w.heap.size w.heap.size (w.heap.size+1) W3.heap.size w4.heap.size (es'.map sO++pre.map sF) V9/\V9.heap[D]?=some (.deferred (some [])))
   (fun _ _ _=>False)
   (OwnFrom.and (bl9 (B':=w4.heap.size) _ h1w (by omega)) (fun _ _ _ _ h hg hr=>ac0 hg hr (by omega) h))
   (fun _ _ _ _ _ h _ _=>h) ⟨hL4,hD4⟩
   (fun x a' V8=>∃ Bk,Blk 185 V8 Bk #[.int .u32 x.key.a,.int .i64 x.key.n,.int .u32 x.key.id]/\a'={ tmps:=#[.pointer (some ⟨R,0,none⟩),undef,.slice none 0 0,.pointer (some ⟨w.heap.size,0,none⟩),.pointer (some ⟨w.heap.size+1,0,none⟩),undef,.pointer (some ⟨Bk,0,none⟩),undef,.func (.func 97) #[] #[.pointer (some ⟨w.heap.size,0,none⟩)],.pointer (some ⟨R,0,none⟩),.pointer (some ⟨R,0,none⟩),.func (.func 125) #[] #[.pointer (some ⟨B3,0,none⟩)],undef,undef,undef,undef,undef,.pointer (some ⟨R,0,none⟩),.pointer (some ⟨R,0,none⟩),.func (.func 159) #[] #[.pointer (some ⟨C1,0,none⟩),.pointer (some ⟨C2,0,none⟩)],.agg #[.int .u32 x.key.a,.int .i64 x.key.n,.int .u32 x.key.id],.agg #[.int .u32 x.val.1,.int .u16 x.val.2],undef,undef,undef,undef,undef,undef,undef,undef,undef,undef,undef,undef,undef,undef,undef,undef,undef,undef],defers:=[] })
   ?_ ?assign ?body ?done ?stop
  ·rintro x a' s W1 W2 row ⟨Bk,hp,rfl⟩ hg hr
   exact ⟨Bk,hp.grown hg hr,rfl⟩
  case assign=>
   rintro l pre ⟨⟨xa,xn,xi⟩,⟨s,y⟩,hok,hfit,hhas⟩ W1 K ⟨hL,hd⟩ hK;have hbb:=aa0 W1 (.cells #[.int .u32 xa,.int .i64 xn,.int .u32 xi] 185);have hl:=hL.1.2.2;have hdl:D<W1.heap.size:=(Array.getElem?_eq_some_iff.1 hd).1;have hd2:=(hbb.block D hdl).trans hd;simp only [arK,clK,dV]
   gi_wp2
   exact hK _ _ (ac7 _ hbb) (.of_below (fun b hb'=>Nat.lt_of_lt_of_le (hI2.lt b hb') hl) hbb) ⟨hL.alloc h1w _,hd2⟩ ⟨_,Blk.new _ _ _,rfl⟩
  case body=>
   rintro l pre ⟨⟨xa,xn,xi⟩,⟨s,y⟩,hok,hfit,hhas⟩ a' W1 _ _ ⟨hL,hd⟩ ⟨Bk,hp,rfl⟩ hlt;have p0:=hp.at_ 0;have p1:=hp.at_ 1;have a0:=hL.2.at_ 0;have hrl:(es'.map sO++pre.map sF).length<=3000000000:=by
    have h2:(pre.map (sF (f:=M.sm.floor))).length=pre.length:=by simp
    rw [List.length_append,h2];omega
   have HA:=cn9 h1w (Nat.le_refl _) hL.1 hrl xa xn;have X:=H2 hL hp;clear hL hp
   gi_wp2
   first|refine ⟨trivial,trivial,(ad1 HA).mono ?_⟩|refine ⟨trivial,trivial,rfl,(ad1 HA).mono ?_⟩|refine ⟨rfl,trivial,(ad1 HA).mono ?_⟩|refine ⟨trivial,(ad1 HA).mono ?_⟩
   rintro e W2 ⟨rfl,hl2,hk2,hb2,hoth,hkt⟩
   gi_wp2
   refine ⟨hk2.from _,⟨fun b hb=>hoth b (Nat.lt_of_lt_of_le (hI2.lt b hb) X.out.1.1.2.2) (fun e=>?_) (hfr2 b hb) (hI2.lt b hb),hk2.size⟩,⟨?_,hkt _ _ _ X.out.1.2 (by decide) (by omega)⟩,hk2.same _ _ hd rfl⟩
   ·have:=hfr2 b hb
    omega
   ·simpa [sF] using hl2
  case stop=>
   rintro D2 c pre W2 _ _ h _;exact h.elim
  case done=>
   rintro D2 fs' W2 hD2 rfl ⟨hL2,hd⟩ hK2;have hDW2:D<W2.heap.size:=(Array.getElem?_eq_some_iff.1 hd).1;have hDW3:D2<W2.heap.size:=(Array.getElem?_eq_some_iff.1 hK2).1;have hR4:=HR.out.held hL2.1.2.1;have HP:=db4 hR4.tab (by omega);have HE2:=H3 hE2 hI2.srt hI2.mem;have hkl2:=hI2.count;have hcn3:=hS3.counts;clear hI2 hfr2 hB2 hL4 hD4 hE2 hL hK hR2 hR3 hS3 hb3 hb34
   gi_wp2
   refine ⟨trivial,(aa7 HP).mono ?_⟩;rintro e w5 ⟨B,gx,capx,ps,rfl,hPf⟩;clear HP
   gi_wp2
   have hb5:=hPf.below;have hsz5:=hb5.size;have hlenP:ps.length<=1000000000:=by have:=hPf.len; omega
   have hlenS:(es'.map sO++fs'.map sF).length<=2000000000:=by have h0:(fs'.map (sF (f:=M.sm.floor))).length=fs'.length:=(by simp); rw [List.length_append]; omega
   have hL5:Ls2 w w.heap.size w.heap.size (w.heap.size+1) W2.heap.size w5.heap.size (es'.map sO++fs'.map sF++([]:List Pk).map sW) w5:=by
    have:=hL2.1.rebase hb5 h1w;exact ⟨by simpa using this,hL2.2.held hb5⟩
   have hd5:w5.heap[D]?=some (.deferred (some [])):=(hb5.block D hDW2).trans hd;have hK5:w5.heap[D2]?=some (.deferred (some [])):=(hb5.block D2 hDW3).trans hK2;have hBl:∀ b,b∈[B,gx]->b<w5.heap.size:=fun b hb=>by
    simp at hb;rcases hb with rfl|rfl
    ·exact hPf.box.lt
    ·exact hPf.gl
   have hBf:∀ b,b∈[B,gx]->W2.heap.size<=b:=fun b hb=>by
    simp at hb;rcases hb with rfl|rfl
    ·exact hPf.B0
    ·exact hPf.g0
   refine bc5 (α:=Pk) rfl by9 (bw9 hPf.box hPf.row hPf.gl hlenP) (fun _=>rfl) KeepS.trans (fun W l o o' hl h hc hw=>af8 hBl W l o o' hl h hc hw)
    (fun pre W9=>Ls2 w w.heap.size w.heap.size (w.heap.size+1) W2.heap.size w5.heap.size (es'.map sO++fs'.map sF++pre.map sW) W9/\W9.heap[D]?=some (.deferred (some []))/\W9.heap[D2]?=some (.deferred (some [])))
    (OwnFrom.and (bl9 (B':=w5.heap.size) _ h1w (by omega)) (OwnFrom.and (fun _ _ _ _ h hg hr=>ac0 hg hr (by omega) h) (fun _ _ _ _ h hg hr=>ac0 hg hr (by omega) h))) ⟨hL5,hd5,hK5⟩
    (fun x a' W8=>∃ Bp,Blk 28 W8 Bp #[.int .u32 x.a,.int .i64 x.n]/\a'={ tmps:=#[.pointer (some ⟨R,0,none⟩),undef,.slice none 0 0,.pointer (some ⟨w.heap.size,0,none⟩),.pointer (some ⟨w.heap.size+1,0,none⟩),undef,undef,.pointer (some ⟨Bp,0,none⟩),.func (.func 97) #[] #[.pointer (some ⟨w.heap.size,0,none⟩)],.pointer (some ⟨R,0,none⟩),.pointer (some ⟨R,0,none⟩),.func (.func 125) #[] #[.pointer (some ⟨B3,0,none⟩)],undef,undef,undef,undef,undef,.pointer (some ⟨R,0,none⟩),.pointer (some ⟨R,0,none⟩),.func (.func 159) #[] #[.pointer (some ⟨C1,0,none⟩),.pointer (some ⟨C2,0,none⟩)],undef,undef,undef,undef,undef,undef,.pointer (some ⟨R,0,none⟩),.pointer (some ⟨R,0,none⟩),.pointer (some ⟨R,10,none⟩),.func (.func 130) #[] #[.pointer (some ⟨B,0,none⟩)],.agg #[.int .u32 x.a,.int .i64 x.n],undef,undef,undef,undef,undef,undef,undef,undef,undef],defers:=[] })
    ?_ ?assign ?body ?done
   ·rintro x a' s W1 W3 row ⟨Bp,hp,rfl⟩ hg hr
    exact ⟨Bp,hp.grown hg hr,rfl⟩
   case assign=>
    rintro l pre ⟨xa,xn⟩ W1 K ⟨hL,hd,hk⟩ hK;have hb:=aa0 W1 (.cells #[.int .u32 xa,.int .i64 xn] 28);have hl:=hL.1.2.2;have hdl:D<W1.heap.size:=(Array.getElem?_eq_some_iff.1 hd).1;have hdl2:D2<W1.heap.size:=(Array.getElem?_eq_some_iff.1 hk).1;simp only [arW]
    gi_wp2
    exact hK _ _ (ac7 _ hb) (.of_below (fun b hb'=>Nat.lt_of_lt_of_le (hBl b hb') hl) hb) ⟨hL.alloc h1w _,(hb.block D hdl).trans hd,(hb.block D2 hdl2).trans hk⟩ ⟨_,Blk.new _ _ _,rfl⟩
   case body=>
    rintro l pre ⟨xa,xn⟩ a' W1 ⟨⟨⟨⟨v,hv,hrow,hnil,ho⟩,hBl1,hF⟩,hAn⟩,hd,hk⟩ ⟨Bp,hp,rfl⟩ hlt;have cB:=hv.cell;have p0:=hp.at_ 0;have p1:=hp.at_ 1;have hle:=hBl1.size;obtain ⟨i0,hi,hz0,hz1,hz2⟩:=info_parts infoSj;have hrl:(es'.map sO++fs'.map sF++pre.map sW).length<=3000000000:=by
     rw [List.length_append];have:(pre.map sW).length=pre.length:=by simp
     omega
    generalize hRR:es'.map sO++fs'.map sF++pre.map sW=RR at*
    gi_wp2_with (first
     |(gi_at_builtin; go_loud (refine wpListIn_append_own_at _ rfl _ _ 139 rfl w.heap.size 142 i0 _ 3 24 Tryz.underlying139 hi hz0 hz1 hz2 rfl (by decide) _ _ _ rfl (hrow.alloc _) ⟨W1.heap.size,0,none⟩ 1 1 (ecl (sW ⟨xa,xn⟩)) rfl rfl (fun j u hj=>(br9 _ _ _ j).trans (by rw [<- hj]; simp [ecl,sW])) (by simp [Value.oneCell',ecl,sW]) (by unfold maxLen; omega) (by omega) (by simp; omega) ?_)
       intro v' w3 hown' hgrow _ hat;obtain ⟨g',cap',rfl⟩:=ownsRow_succ hown';obtain ⟨hv1,hl2,hk2,hb2,hoth⟩:=Lsj.push h1w (Nat.le_refl _) hv hrow ho hBl1 hF hown' hgrow hat;have hc1:=hv1.cell;have hf1:=hv1.frozen)
     |gi_in)
    have hAl:=hAn.lt;refine ⟨hk2.from _,⟨fun b hb=>hoth b (Nat.lt_of_lt_of_le (hBl b hb) hF) (fun e=>?_) (fun e=>?_),hk2.size⟩,⟨?_,?_⟩,hk2.same _ _ hd rfl,hk2.same _ _ hk rfl⟩
    ·have:=hBf b hb
     have:=hL2.1.2.1.size;have:=hL2.2.lt;omega
    ·have h5:=hBf b hb
     have h6:=hBl b hb;rcases ho b e.symm with h|h<;>omega
    ·have h3:=hl2
     generalize w3.setCell ⟨w.heap.size,0,none⟩ (.slice (some ⟨g',0,none⟩) (RR.length+1) cap')=V7 at h3 ⊢;rw [<- hRR] at h3;simpa [sW] using h3
    ·exact (hoth _ hAl (by omega) (ap6 hrow hAn (by decide))).trans hAn
   case done=>
    rintro D3 ps' W3 hD3 rfl ⟨hL3,hd3,hk3⟩ hK3;obtain ⟨⟨⟨v,hv,hrow,hnil,ho⟩,hBl3,hF3⟩,hAn⟩:=hL3;have cB:=hv.cell;have hle:es'.length=xs.length:=by have h:=HE.out.1; rw [<- show es'.map (·.key)=xs from h]; simp
    have hlf:fs'.length=ys.length:=by have h:=HE2.out.1; rw [<- show fs'.map (·.key)=ys from h]; simp
    have hlp:=hPf.len;have hlen:(es'.map sO++fs'.map sF++ps'.map sW).length<=100001100:=by
     rw [List.length_append,List.length_append,List.length_map,List.length_map,List.length_map];omega
    have hmem:=hPf.mem;have hSo:=dw1 hrow hnil hlen;have oD:=aq2 hrow hd3;have oD2:=aq2 hrow hk3;have oD3:=aq2 hrow hK3;have oB:v.ownBlock≠some w.heap.size:=fun e=>ap6 hrow (show Blk 139 W3 w.heap.size #[v] from hv) (by decide) e.symm
    have hge:∀ b,v.ownBlock=some b->w.heap.size<=b:=fun b e=>(hrow.lt b e).1
    have hDl:D<W3.heap.size:=(Array.getElem?_eq_some_iff.1 hd3).1;have hDl2:D2<W3.heap.size:=(Array.getElem?_eq_some_iff.1 hk3).1;have hDl3:D3<W3.heap.size:=(Array.getElem?_eq_some_iff.1 hK3).1;have n12:D≠D2:=by omega
    have n13:D≠D3:=by omega
    have n23:D2≠D3:=by omega
    have hs1:=hL2.1.2.1.size
    gi_wp2
    refine ⟨trivial,(aa7 hSo).mono ?_⟩;rintro e W4 ⟨rfl,ds,hso,hat,hT4⟩;have hno:∀ {X:Nat},v.ownBlock≠some X->X∉v.ownBlock.toList:=fun {X} h hm=>h (by simpa using hm)
    have cB4:W4.cell? ⟨w.heap.size,0,none⟩=some v:=hT4.cell cB (hno oB);have d4:=(hT4.block D hDl (hno oD)).trans hd3;have e4:=(hT4.block D2 hDl2 (hno oD2)).trans hk3;have k4:=(hT4.block D3 hDl3 (hno oD3)).trans hK3;have hds:(ds.map (·.e)).length<=100001100:=by rw [List.length_map,hso.len]; exact hlen
    have hCo:=cc7 hat hds;have hw4:=hT4.size;clear hSo cB
    gi_wp2
    refine ⟨trivial,(aa7 hCo).mono ?_⟩;rintro e W5 ⟨v',rfl,hat5,hT5,hown⟩;have d5:=(hT5.block D (by omega) (hno oD)).trans d4;have e5:=(hT5.block D2 (by omega) (hno oD2)).trans e4;have k5:=(hT5.block D3 (by omega) (hno oD3)).trans k4;have hB5:Below w.heap.size w W5:=(hBl3.trans (hT4.below (fun i hi=>hge i (by simpa using hi)) hBl3.size)).trans (hT5.below (fun i hi=>hge i (by simpa using hi)) (Nat.le_trans hBl3.size hw4));clear hCo
    gi_wp2
    have d6:((W5.putObj D3 (.deferred none)).putObj D2 (.deferred none)).heap[D]?=some (.deferred (some [])):=(World.putObj_heap_other n12).trans ((World.putObj_heap_other n13).trans d5);have e6:(W5.putObj D3 (.deferred none)).heap[D2]?=some (.deferred (some [])):=(World.putObj_heap_other n23).trans e5;refine ⟨by simp,.inl ⟨_,_,rfl,run_takeDeferred k5,by simp,.inl ⟨_,_,rfl,run_takeDeferred e6,by simp,.inl ⟨_,_,rfl,run_takeDeferred d6,?_⟩⟩⟩⟩;refine ⟨_,results_tmp rfl _ _ _,v',xs,ys,ps',es',fs',ds,rfl,HE.out,HE2.out,hmem,hso,(by rw [hso.len]; exact hlen),((hat5.put (by rw [hown]; exact oD3)).put (by rw [hown]; exact oD2)).put (by rw [hown]; exact oD),fun b e=>hge b (by rw [<- hown]; exact e),?_⟩;exact ((hB5.grown (grownBy_putObj' _ _ _) hB5.size (fun k e=>by cases e; omega)).grown (grownBy_putObj' _ _ _) (by rw [World.putObj_size]; exact hB5.size) (fun k e=>by cases e; omega)).grown (grownBy_putObj' _ _ _) (by rw [World.putObj_size,World.putObj_size]; exact hB5.size) (fun k e=>by cases e; omega)
end
section
open Go.RowKit Go.Maps Rm Fm Sb
theorem dw2 {w:World} {R:Nat} {o fl tb:Option Nat} {j:Jr} {N n:Nat} {M:Mr} (h:Rr w R o fl tb j N n M) (hnn:2*N+n<=100001100):
  Calls prog 68 #[.pointer (some ⟨R,0,none⟩)] w fun e w'=>∃ v rs,e= .returned v/\Subj M rs/\rs.length<=100001100/\SjAt w' v rs/\(∀ b,v.ownBlock=some b->w.heap.size<=b)/\Below w.heap.size w w':=by
 refine (bs7 h hnn).mono ?_;rintro e w' ⟨v,xs,ys,ps,es,fs,ds,rfl,⟨hE,-,hx⟩,⟨hF,-,hy⟩,hp,hso,hl20,hat,hown,hb⟩;have hA:∀ e∈es.map sO++fs.map sF,e.on=true:=fun e he=>by
  rcases List.mem_append.1 he with he|he<;>obtain ⟨x,-,rfl⟩:=List.mem_map.1 he<;>rfl
 have hB:∀ e∈ps.map sW,e.on=false:=fun e he=>by
  obtain ⟨x,-,rfl⟩:=List.mem_map.1 he;rfl
 obtain ⟨k1,k2⟩:=bj9 hA hB hso;have hans:∀ p:Pk,(∃ x∈es.map sO++fs.map sF,En.pk x=p)↔M.ans p:=fun p=>by
  constructor
  ·rintro ⟨x,hx',rfl⟩
   rcases List.mem_append.1 hx' with h1|h1
   ·obtain ⟨⟨⟨xa,xn⟩,y,hok,hfit,hhas⟩,-,rfl⟩:=List.mem_map.1 h1
    exact .inl ⟨hok,by show (M.sm.own ⟨xa,xn⟩).isSome=true; rw [hhas]; rfl⟩
   ·obtain ⟨⟨⟨xa,xn,xi⟩,y,hok,hfit,hhas⟩,-,rfl⟩:=List.mem_map.1 h1
    exact .inr ⟨xi,hok,by show (M.sm.floor ⟨xa,xn,xi⟩).isSome=true; rw [hhas]; rfl⟩
  ·rintro (h1|⟨id,h1⟩)
   ·have h2:=(hx p).2 h1
    rw [<- show es.map (·.key)=xs from hE] at h2;obtain ⟨x,h3,rfl⟩:=List.mem_map.1 h2;exact ⟨sO x,List.mem_append_left _ (List.mem_map.2 ⟨x,h3,rfl⟩),rfl⟩
   ·have h2:=(hy ⟨p.a,p.n,id⟩).2 h1
    rw [<- show fs.map (·.key)=ys from hF] at h2;obtain ⟨x,h3,h4⟩:=List.mem_map.1 h2;refine ⟨sF x,List.mem_append_right _ (List.mem_map.2 ⟨x,h3,rfl⟩),?_⟩;unfold sF En.pk;rw [h4]
 have hways:∀ p:Pk,(∃ x∈ps.map sW,En.pk x=p)↔M.ways p:=fun p=>by
  constructor
  ·rintro ⟨x,hx',rfl⟩
   obtain ⟨q,h1,rfl⟩:=List.mem_map.1 hx';exact (hp q).1 h1
  ·intro h1
   exact ⟨sW p,List.mem_map.2 ⟨p,(hp p).2 h1,rfl⟩,rfl⟩
 refine ⟨v,_,rfl,⟨k1,fun e=>?_⟩,Nat.le_trans (bh0 _ _) (by rw [List.length_map]; exact hl20),hat,hown,hb⟩;rw [k2 e,hans,hways]
end
end Go.Proofs.YtafkfnodcemefaaGreat
