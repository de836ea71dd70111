import Derived.Test.YtafkfnodcemefaaGreatB21
import Derived.Deep.DeepCutAuto
set_option maxHeartbeats 8000000
set_option maxRecDepth 100000
namespace Go.Proofs.YtafkfnodcemefaaGreat.Sp
open _root_.Go.Proofs.Tryz (prog)
section
open Go.RowKit Go.Maps Sc
theorem aq9 (a k:Nat) (hk:k<32) (w:World):Q 93 #[U a,I k] w fun e w'=>∃ r,e= .returned (O r)/\w=w':=by
 go_enter Tryz.func93,Tryz.ntmps93;go_wp2;go_ret;exact ⟨_,rfl,rfl⟩
def Yn (e:Ending):Prop:=∃ r,e= .returned (O r)
def Yf (p:List UInt8) (e:Ending):Prop:=∃ r,e= .returned (O r)/\(r=true->p.length<=240)
theorem al7 (a:Nat) (len:Int) (w:World):Q 63 #[.agg #[U a,I len]] w fun e w'=>Yn e/\Bw w w':=by
 have B:=Blk.new w 28 #[U a,I len];have HB:=Z (aa0 w (.cells #[U a,I len] 28));by_cases h1:len<0
 ·go_enter Tryz.func63,Tryz.ntmps63
  go_wp2;go_ret;exact ⟨⟨_,rfl⟩,HB.out⟩
 by_cases h2:32<len
 ·go_enter Tryz.func63,Tryz.ntmps63
  go_wp2;go_ret;exact ⟨⟨_,rfl⟩,HB.out⟩
 obtain ⟨n,rfl⟩:=Int.eq_ofNat_of_zero_le (by omega:0<=len);have hn:n<=32:=G
 clear h1 h2;go_enter Tryz.func63,Tryz.ntmps63;go_wp2;generalize w.alloc _=w2 at*;have c0:w2.cell? (Y w.heap.size 0)=some (U a):=B.at_ 0;have c1:w2.cell? (Y w.heap.size 1)=some (I n):=B.at_ 1;clear B;go_loop [3] (fun i=>∃ k:Nat,k<=32/\i= I k) (fun i=>32 - (intOf i).toNat)
 case atStart=>exact ⟨n,hn,rfl⟩
 case round=>
  obtain ⟨k,hk,rfl⟩:=hrel;by_cases hlt:k<32
  ·go_wp2_with fail
   refine (aq9 a k hlt _).mono ?_;rintro e w' ⟨r,rfl,rfl⟩
   cases r
   ·go_wp2
    go_round
    case rel=>exact ⟨k+1,G,by go_num⟩
    case measure=>simp [intOf]; omega
   ·go_wp2
    go_ret;exact ⟨⟨_,rfl⟩,HB.out⟩
  ·obtain rfl:k=32:=G
   go_wp2;go_ret;exact ⟨⟨_,rfl⟩,HB.out⟩
theorem ax7 (a:Nat) (n:Int):∃ r,∀ w:World,(binOp .eql 28 (.agg #[U (a:Nat),I n]) (.agg #[U 0,I 0])).run prog w= .ok (O r) w:=by
 refine ⟨a==0 && n==0,fun w=>?_⟩;go_simp;by_cases h1:a=0
 ·by_cases h2:n=0
  ·simp [h1,h2]
  ·simp [h1,h2]
 ·simp [h1]
theorem ax3 (s:ByteArray):∃ r,∀ w:World,(binOp .eql 9 (Ss s) (Ss ⟨#[]⟩)).run prog w= .ok (O r) w:=by
 refine ⟨s.toList.isEmpty,fun w=>?_⟩;go_simp
theorem ao6 (e:Ev) (w:World):Q 31 #[.agg (ecs e)] w fun x w'=>Yf e.p x/\Bw w w':=by
 obtain ⟨kind,i,k,n,a,len,p⟩:=e;obtain ⟨s,hs⟩:∃ s:ByteArray,s=⟨p.toArray⟩:=⟨_,rfl⟩;have hz:s.size=p.length:=by rw [hs]; exact ba0 p
 rw [show ecs ⟨kind,i,k,n,a,len,p⟩=#[I kind,I i,I k,I n,U (a:Nat),I len,Ss s] by rw [hs]; rfl];show Calls _ _ _ _ fun x w'=>Yf p x/\Bw w w'
 clear hs;have HR:=fun u=>al7 a len u
 obtain ⟨bp,hqp⟩:=ax7 a len;obtain ⟨bs,hqs⟩:=ax3 s;obtain ⟨hb0,C⟩:=nw w 30 #[I kind,I i,I k,I n,U (a:Nat),I len,Ss s];have HB:=H3 C hb0 hz;clear C hb0 hz
 cases h0:decide (kind<0)
 case true=>
  go_enter Tryz.func31,Tryz.ntmps31;go_wp2_with fail;go_ret;exact ⟨⟨_,rfl,fun h=>by cases h⟩,HB.out.2.1⟩
 cases h1:decide (10<kind)
 case true=>
  go_enter Tryz.func31,Tryz.ntmps31;go_wp2_with fail;go_ret;exact ⟨⟨_,rfl,fun h=>by cases h⟩,HB.out.2.1⟩
 have hk:kind=0\/kind=1\/kind=2\/kind=3\/kind=4\/kind=5\/kind=6\/kind=7\/kind=8\/kind=9\/kind=10:=by
  have:=of_decide_eq_false h0;have:=of_decide_eq_false h1;omega
 have HK:=Z hk;clear hk;go_enter Tryz.func31,Tryz.ntmps31;go_wp2_with fail;generalize w.alloc _=w1 at*;refine (HR _).mono ?_;rintro e5 w5 ⟨⟨r,rfl⟩,hb5⟩;have C5:=HB.out.1.held hb5;have HZ:=Z HB.out.2.2;have HB5:=Z (next HB.out.2.1 hb5);clear HB hb5 HR;have c0:w5.cell? (Y w.heap.size 0)=some (I kind):=C5.at_ 0;have c1:w5.cell? (Y w.heap.size 1)=some (I i):=C5.at_ 1;have c2:w5.cell? (Y w.heap.size 2)=some (I k):=C5.at_ 2;have c3:w5.cell? (Y w.heap.size 3)=some (I n):=C5.at_ 3;have c4:w5.cell? (Y w.heap.size 4)=some (U (a:Nat)):=C5.at_ 4;have c5:w5.cell? (Y w.heap.size 5)=some (I len):=C5.at_ 5;have c6:w5.cell? (Y w.heap.size 6)=some (Ss s):=C5.at_ 6;have hlt5:=Z C5.lt;clear C5
 cases r
 ·go_wp2_with fail
  go_ret;exact ⟨⟨_,rfl,fun h=>by cases h⟩,HB5.out⟩
 cases h3:decide ((240:Int)<(s.size:Int))
 case true=>
  go_wp2_with fail;go_ret;exact ⟨⟨_,rfl,fun h=>by cases h⟩,HB5.out⟩
 have hz:=HZ.out;have HF:=Z (show p.length<=240 by have:=of_decide_eq_false h3; omega);clear hz HZ;go_upto_region 5 with fail;all_goals try (go_ret; exact ⟨⟨_,rfl,fun h=>by cases h⟩,HB5.out⟩)
 have hk:=HK.out;have hlt:=hlt5.out;clear h0 h1 h3 HK;rcases hk with rfl|rfl|rfl|rfl|rfl|rfl|rfl|rfl|rfl|rfl|rfl
 all_goals (
  go_wp2_with fail;all_goals (
   go_ret;exact ⟨⟨_,rfl,fun _=>HF.out⟩,next HB5.out (next (aa0 _ _) (aa0 _ _))⟩))
def Yr (es:List Ev) (e:Ending):Prop:=∃ r,e= .returned (O r)/\(r=true->es.length<=120/\∀ x∈es,x.p.length<=240)
theorem topright_any {A:Option Addr} {n cap:Nat} {es:List Ev} {w:World} (h:El w A n cap es):
  Q 7 #[.slice A n cap] w fun x w'=>Yr es x/\Bw w w':=by
 have hn:=h.len;have hmx:=h.max;have hmx':n<=9223372036854775807:=by unfold maxLen at hmx; omega
 have H:=Z h;clear h hmx;go_enter Tryz.func7,Tryz.ntmps7;go_wp2_with fail;go_loopw [7] (fun v wr=>∃ k:Nat,v= I (k:Nat)/\k<=n/\Hid ((∀ (j:Nat) (hj:j<es.length),j<k->es[j].p.length<=240)/\Bw w wr)) (fun v _=>n - (intOf v).toNat)
 case atStart=>exact ⟨0,rfl,Nat.zero_le _,Z ⟨fun j hj h=>absurd h G,.refl _ _⟩⟩
 case round=>
  obtain ⟨k,rfl,hkn,R⟩:=hrel;by_cases hlt:k<n
  ·have d1:=dT ((k:Int)<(n:Int))
   have hk:k<es.length:=G
   obtain ⟨e,he⟩:=ey (es[k]);obtain ⟨b,off,rfl⟩:=H.out.plain G;obtain ⟨c0,c1,c2,c3,c4,c5,c6⟩:=(H.out.held R.out.2).at_ hk he;have HR:=fun u=>ao6 e u
   unfold ecs at HR;have EH:=H2 hk he;have i1:(k:Int)<(n:Int):=G
   clear he;generalize e.kind=y0 at*;generalize e.i=y1 at*;generalize e.k=y2 at*;generalize e.n=y3 at*;generalize e.a=y4 at*;generalize e.len=y5 at*;generalize (⟨e.p.toArray⟩:ByteArray)=s at*;obtain ⟨hbx,BX⟩:=nw wr 30 #[I y0,I y1,I y2,I y3,U (y4:Nat),I y5,Ss s];have R2:=Z (next R.out.2 hbx);clear hbx;go_upto_region 4 with fail;generalize wr.alloc _=w2 at*;have x0:w2.cell? (Y wr.heap.size 0)=some (I y0):=BX.at_ 0;have x1:w2.cell? (Y wr.heap.size 1)=some (I y1):=BX.at_ 1;have x2:w2.cell? (Y wr.heap.size 2)=some (I y2):=BX.at_ 2;have x3:w2.cell? (Y wr.heap.size 3)=some (I y3):=BX.at_ 3;have x4:w2.cell? (Y wr.heap.size 4)=some (U (y4:Nat)):=BX.at_ 4;have x5:w2.cell? (Y wr.heap.size 5)=some (I y5):=BX.at_ 5;have x6:w2.cell? (Y wr.heap.size 6)=some (Ss s):=BX.at_ 6;clear BX c0 c1 c2 c3 c4 c5 c6;go_wp2_with fail;refine (HR _).mono ?_;rintro x w3 ⟨⟨r,rfl,hr⟩,hb3⟩;have R3:=Z (next R2.out hb3);clear HR hb3 x0 x1 x2 x3 x4 x5 x6
   cases r with
   |false=>
    clear hr;go_wp2_with fail;go_ret;exact ⟨⟨_,rfl,fun h=>by cases h⟩,R3.out⟩
   |true=>
    have R4:=Z (And.intro (show ∀ (j:Nat) (hj:j<es.length),j<k+1->es[j].p.length<=240 from fun j hj hjk=>by
     by_cases e1:j=k
     ·subst e1; rw [EH.out.2]; exact hr rfl
     ·exact R.out.1 j hj G) R3.out)
    clear hr;go_wp2_with fail;go_roundw
    case rel=>exact ⟨k+1,by go_num,G,R4⟩
    case measure=>simp [intOf]; omega
  ·obtain rfl:k=n:=G
   have d1:=df ((k:Int)<(k:Int));go_wp2_with fail;go_ret;refine ⟨⟨_,rfl,fun hl=>⟨by have:=of_decide_eq_true hl; omega,fun x hx=>?_⟩⟩,R.out.2⟩;obtain ⟨j,hj,rfl⟩:=List.getElem_of_mem hx;exact R.out.1 j hj G
theorem few_true {A:Option Addr} {n cap:Nat} {es:List Ev} {w:World} (h:El w A n cap es) (h0:n<=120) (hp:∀ x∈es,x.p.length<=240):
  Q 11 #[.slice A n cap] w (Rr0 w (O true)):=by
 have hn:=h.len;have H:=H2 h hp;clear h hp;go_enter Tryz.func11,Tryz.ntmps11;go_wp2_with fail;go_loopw [7] (fun v wr=>∃ k:Nat,v= I (k:Nat)/\k<=n/\Hid (Below w.heap.size w wr)) (fun v _=>n - (intOf v).toNat)
 case atStart=>exact ⟨0,rfl,Nat.zero_le _,Z (.refl _ _)⟩
 case round=>
  obtain ⟨k,rfl,hkn,R⟩:=hrel;by_cases hlt:k<n
  ·have d1:=dT ((k:Int)<(n:Int))
   have hk:k<es.length:=G
   obtain ⟨e,he⟩:=ey (es[k]);obtain ⟨b,off,rfl⟩:=H.out.1.plain G;obtain ⟨c0,c1,c2,c3,c4,c5,c6⟩:=(H.out.1.held R.out).at_ hk he;have hsz:(⟨e.p.toArray⟩:ByteArray).size=e.p.length:=ba0 _;have hl2:(⟨e.p.toArray⟩:ByteArray).size<=240:=by rw [hsz]; exact H.out.2 e (by rw [<- he]; exact List.getElem_mem hk)
   have i1:(k:Int)<(n:Int):=G
   clear he hsz;generalize e.kind=y0 at*;generalize e.i=y1 at*;generalize e.k=y2 at*;generalize e.n=y3 at*;generalize e.a=y4 at*;generalize e.len=y5 at*;generalize (⟨e.p.toArray⟩:ByteArray)=s at*;have hl:=df ((400:Int)<(s.size:Int));have R2:=Z (R.out.trans ((aa0 wr (.cells #[I y0,I y1,I y2,I y3,U (y4:Nat),I y5,Ss s] 30)).mono R.out.size));clear hl2;go_wp2_with fail;go_roundw
   case rel=>exact ⟨k+1,by go_num,G,R2⟩
   case measure=>simp [intOf]; omega
  ·obtain rfl:k=n:=G
   have d1:=df ((k:Int)<(k:Int));have hl:=dT ((k:Int)<=150);go_wp2_with fail;go_ret;exact ⟨rfl,R.out⟩
end
end Go.Proofs.YtafkfnodcemefaaGreat.Sp
