import Derived.Test.YtafkfnodcemefaaGreatB24
set_option maxHeartbeats 8000000
set_option maxRecDepth 100000
set_option maxRecDepth 20000
namespace Go.Proofs.YtafkfnodcemefaaGreat.Sp
open _root_.Go.Proofs.Tryz (prog)
section
open Go.RowKit Go.Maps Sc
structure EvR (w:World) (bs:List Nat) (n:Nat) (v:Value) (l:List Ev) (k:Nat) (W:World):Prop where
 own:Oe w.heap.size v l W
 below:Below w.heap.size w W
 right:∀ x∈l,Sc.right x=true/\x.a<4294967296
 few:l.length<=8192
 at_:k=3+(flat l).length
 le:k<=n
 parts:bs.drop 3=flat l++bs.drop k
theorem EvR.evs {w:World} {bs:List Nat} {n:Nat} {v:Value} {l:List Ev} {k:Nat} {W:World} (R:EvR w bs n v l k W) (hl:bs.length=n) {e:Nat} (h:(e=0/\k=bs.length)\/(e=6/\k<bs.length/\first (bs.drop k)=false)\/(e=7/\k<bs.length/\l.length=8192/\first (bs.drop k)=true)):Evs bs l k e:=
 ⟨R.right,R.few,R.at_,by rw [hl]; exact R.le,R.parts,h⟩
theorem EvR.next {w:World} {bs:List Nat} {n:Nat} {v v':Value} {l:List Ev} {k:Nat} {W W':World} (R:EvR w bs n v l k W) (hl:bs.length=n) (hb:∀ c∈bs,c<256) (hk:k<n) (hf:first (bs.drop k)=true) (hfew:l.length<8192)
  (ho:Oe w.heap.size v' (l++[parse (bs.drop k)]) W') (hbe:Below w.heap.size w W'):EvR w bs n v' (l++[parse (bs.drop k)]) (k+(16+(parse (bs.drop k)).p.length)) W':=by
 unfold first at hf;rw [Bool.and_eq_true] at hf;obtain ⟨hr,hright⟩:=hf;have hbd:∀ c∈bs.drop k,c<256:=fun c hc=>hb c (List.mem_of_mem_drop hc)
 have hp:=cf8 hr;have hpb:=am4 hbd hr;have hroom:=hr;unfold room at hroom;simp only [Bool.and_eq_true,decide_eq_true_eq,List.length_drop] at hroom;have hfl:(flat (l++[parse (bs.drop k)])).length=(flat l).length+(16+(parse (bs.drop k)).p.length):=by rw [dh0,List.length_append,dg6]
 refine ⟨ho,hbe,fun x hx=>?_,by simp; omega,by rw [hfl,R.at_]; omega,by rw [hp]; omega,?_⟩
 ·rcases List.mem_append.1 hx with h|h
  ·exact R.right x h
  ·rw [List.mem_singleton] at h
   subst h;exact ⟨hright,(ak5 hbd).2⟩
 ·rw [R.parts,dh0,List.append_assoc]
  congr 1;rw [List.drop_drop] at hpb;exact hpb
theorem ax0 {A:Option Addr} {n cap:Nat} {bs:List Nat} {w:World} (h:Sl w A n cap bs) (h3:3<=n) (hn:n<=262144):
  Kc 89 #[.slice A n cap] w fun x w'=>∃ v l k e,x= .returned (.tuple #[v,I (k:Nat),I (e:Nat)])/\Oe w.heap.size v l w'/\Evs bs l k e/\Bw w w':=by
 have hl:=h.bytes.1;have hcap:=h.cap;have hb:=h.bytes.2.2.1;obtain ⟨b,off,rfl⟩:=h.plain G;have H:=H3 h hl hb;clear h hl hb;go_enter Tryz.func89,Tryz.ntmps89;go_wp2_with fail;go_loopw [5,6] (fun v a wr=>∃ (l:List Ev) (k q c:Nat) (p:Option Addr),v= .slice p q c/\Hid (q=l.length)/\a= I (k:Nat)/\k<=n/\Hid (EvR w bs n (.slice p q c) l k wr)) (fun _ a _=>n - (intOf a).toNat)
 case atStart=>exact ⟨[],3,0,0,none,rfl,Zq rfl,rfl,h3,Zq ⟨Ol.nil _ _,.refl _ _,sn,sn,by simp [ar0],h3,by simp [ar0]⟩⟩
 case round=>
  obtain ⟨l,k,q,c,p,rfl,hq,rfl,hkn,R⟩:=hrel;by_cases hlt:k<n
  ·have d1:=dT ((k:Int)<(n:Int))
   have sl:∀ W:World,(Instr.slice 45 (Mt b off n cap) (some (I (k:Int))) none none).run prog W= .ok (Mt b (off+k) (n - k) (cap - k)) W:=fun W=>bn5 _ n cap k G hcap W rfl (by rw [if_neg G]; exact (congrArg some (Addr.add_mid ..)).symm) rfl rfl
   have HF0:=ck5 ((H.out.1.held (R.out.below)).rest k G);obtain ⟨E,hE⟩:=ey (Sc.fst (bs.drop k));obtain ⟨f,hf⟩:=ey (first (bs.drop k));rw [hE,hf] at HF0;have HF:Kc 120 #[Mt b (off+k) (n - k) (cap - k)] wr (Rr0 wr (.tuple #[.agg #[I E.kind,I E.i,I E.k,I E.n,U (E.a:Nat),I E.len,Ss ⟨E.p.toArray⟩],O f])):=HF0
   have EH:=H2 hE hf;clear HF0 hE hf;obtain ⟨m,hm⟩:=eX (n - k);obtain ⟨cm,hcm⟩:=eX (cap - k);rw [<- hm,<- hcm] at sl HF;clear hm hcm;obtain ⟨s,hs⟩:∃ s:ByteArray,s=⟨E.p.toArray⟩:=⟨_,rfl⟩;rw [<- hs] at HF;have hsz:s.size=E.p.length:=by rw [hs]; exact ba0 _
   obtain ⟨L,hL⟩:=eX E.p.length;rw [<- hL] at hsz;obtain ⟨Q,hQ⟩:=eX [I E.kind,I E.i,I E.k,I E.n,U (E.a:Nat),I E.len,Ss s];have hQ2:ecl E=Q:=by rw [hQ,hs]; rfl
   have QH:=H3 hQ2 hL hQ;clear hQ2 hs hL hQ;generalize E.kind=y0 at*;generalize E.i=y1 at*;generalize E.k=y2 at*;generalize E.n=y3 at*;generalize E.a=y4 at*;generalize E.len=y5 at*;go_upto_region 5 with (go_at_call 120; refine HF.mono ?_; rintro e w5 ⟨rfl,hb5⟩);have hbx:=next hb5 (aa0 w5 (.cells #[I y0,I y1,I y2,I y3,U (y4:Nat),I y5,Ss s] 30));have BX:=Blk.new w5 30 #[I y0,I y1,I y2,I y3,U (y4:Nat),I y5,Ss s];have hsx:=hb5.size;generalize w5.alloc _=w6 at*;generalize w5.heap.size=bx at*;clear sl HF hb5;have hbw:=R.out.below.trans (hbx.mono R.out.below.size);have ho6:=R.out.own.held hbx
   cases f with
   |false=>
    have Z:=H2 ho6 hbw;clear ho6 hbw hbx BX hsx;go_wp2_with fail;go_ret3;exact ⟨_,l,k,6,rfl,Z.out.1,R.out.evs H.out.2.1 (.inr (.inl ⟨rfl,by rw [H.out.2.1]; exact hlt,EH.out.2⟩)),Z.out.2⟩
   |true=>
    cases hq8:((q:Int)==8192) with
    |true=>
     have Z:=H2 ho6 hbw;clear ho6 hbw hbx BX hsx;have e8:q=8192:=by have:=beq_iff_eq.1 hq8; omega
     have e8:=Zq e8;go_wp2_with fail;go_ret3;exact ⟨_,l,k,7,rfl,Z.out.1,R.out.evs H.out.2.1 (.inr (.inr ⟨rfl,by rw [H.out.2.1]; exact hlt,by rw [<- hq.out,e8.out],EH.out.2⟩)),Z.out.2⟩
    |false=>
     have e8:q≠8192:=fun e=>by subst e; simp at hq8
     have hfew:l.length<8192:=by have:=R.out.few; have:=hq.out; omega
     obtain ⟨g',cap',w7,hrun,hO7,hT7,hat⟩:=ho6.push1 elemE hbw.size E G 22;have hrun2:(Builtin.append_ #[22,22] 22 #[.slice p q c,Lt w6.heap.size 1 1]).run prog (w6.alloc (.cells #[I y0,I y1,I y2,I y3,U (y4:Nat),I y5,Ss s] 30))= .ok (Lt g' (q+1) cap') w7:=by
      have t:=hrun;rw [<- hq.out,QH.out.1,QH.out.2.2] at t;exact t
     rw [<- hq.out] at hO7;have hk:E=parse (bs.drop k):=by
      have h1:=EH.out.2;unfold first at h1;rw [Bool.and_eq_true] at h1;rw [<- EH.out.1,cu5 h1.1]
     have hB7:=own_below ho6 hbw hbw.size hT7;have hob:bx∉(Value.slice p q c).ownBlock.toList:=fun hm=>by
      have h1:(Value.slice p q c).ownBlock=some bx:=by simpa using hm
      have:=(R.out.own.lt h1).1;omega
     have BX7:=BX.turn hT7 hob;have c6:w7.cell? (Y bx (5+1))=some (Ss s):=BX7.at_ 6;rw [hk] at hO7;have R7:=R.out.next H.out.2.1 H.out.2.2 hlt EH.out.2 hfew hO7 hB7;have hL:L=(parse (bs.drop k)).p.length:=by rw [<- hk]; exact QH.out.2.1
     rw [<- hL] at R7;have R7:=Zq R7;have LH:=H2 hk hq.out;have hle:=R7.out.le;have x0:w6.cell? (Y bx 0)=some (I y0):=BX.at_ 0;have x1:w6.cell? (Y bx 1)=some (I y1):=BX.at_ 1;have x2:w6.cell? (Y bx 2)=some (I y2):=BX.at_ 2;have x3:w6.cell? (Y bx 3)=some (I y3):=BX.at_ 3;have x4:w6.cell? (Y bx 4)=some (U (y4:Nat)):=BX.at_ 4;have x5:w6.cell? (Y bx 5)=some (I y5):=BX.at_ 5;have x6:w6.cell? (Y bx 6)=some (Ss s):=BX.at_ 6;clear hrun hO7 hT7 hat hk hB7 hob BX7 hL hbx BX hsx hbw ho6 QH EH R hq e8 hfew;go_wp2_with (first|(at_builtin; refine Lib.wpList_append_run _ rfl (.tmp 29) (.tmp 31) 22 22 rfl _ _ rfl rfl _ _ hrun2 ?_)|fail);go_roundw
     case rel=>exact ⟨_,k+(16+L),q+1,cap',some (Y g' 0),rfl,Zq (by simp [LH.out.2]),by go_num,hle,R7⟩
     case measure=>simp [intOf]; omega
  ·obtain rfl:k=n:=G
   have d1:=df ((k:Int)<(k:Int));go_wp2_with fail;go_ret3;exact ⟨_,l,k,0,rfl,R.out.own,R.out.evs H.out.2.1 (.inl ⟨rfl,H.out.2.1.symm⟩),R.out.below⟩
end
end Go.Proofs.YtafkfnodcemefaaGreat.Sp
namespace Go.Proofs.YtafkfnodcemefaaGreat.Sp
open _root_.Go.Proofs.Tryz (prog)
open Go.RowKit Go.Maps Sc
def _root_.Go.Proofs.YtafkfnodcemefaaGreat.Sc.scripted (n s:Int):Bool:=decide (1<=n) && decide (n<=8) && decide (1<=s) && decide (s<=512)
theorem at7 (n s:Int) (w:World):Q 54 #[I n,I s] w fun e w'=>e= .returned (O (Sc.scripted n s))/\w=w':=by
 unfold Sc.scripted
 cases h1:decide (1<=n)
 ·go_enter Tryz.func54,Tryz.ntmps54
  go_wp2_with fail;go_ret;exact ⟨rfl,rfl⟩
 cases h2:decide (n<=8)
 ·go_enter Tryz.func54,Tryz.ntmps54
  go_wp2_with fail;go_ret;exact ⟨rfl,rfl⟩
 cases h3:decide (1<=s)
 ·go_enter Tryz.func54,Tryz.ntmps54
  go_wp2_with fail;go_ret;exact ⟨rfl,rfl⟩
 ·go_enter Tryz.func54,Tryz.ntmps54
  go_wp2_with fail;go_ret;exact ⟨aa4 sn,rfl⟩
theorem ar3 {n s:Int} {r:Bool} (h:Sc.scripted n s=r) (w:World):Q 54 #[I n,I s] w fun e w'=>e= .returned (O r)/\w=w':=h ▸ at7 n s w
theorem cc5 (e:Ev) (ha:e.a<4294967296) (w:World):Q 56 #[.agg (ecs e)] w (Rr0 w (O (!right e))):=by
 obtain ⟨r,hr⟩:=ey (right e);have HR:∀ u:World,Q 64 #[.agg (ecs e)] u (Rr0 u (O r)):=fun u=>eright_eq ha hr u
 rw [hr];obtain ⟨kind,i,k,n,a,len,p⟩:=e;unfold ecs at HR ⊢;simp only at HR ⊢;generalize (⟨p.toArray⟩:ByteArray)=s at*;clear hr ha;have hb:=aa0 w (.cells #[I kind,I i,I k,I n,U (a:Nat),I len,Ss s] 30);have HB:=Z hb;clear hb;go_enter Tryz.func56,Tryz.ntmps56;go_wp2_with (go_at_call 64; refine (HR _).mono ?_; rintro e w5 ⟨rfl,hb5⟩);go_ret;exact ⟨rfl,next HB.out hb5⟩
def _root_.Go.Proofs.YtafkfnodcemefaaGreat.Sc.allRight (l:List Ev):Bool:=l.all fun e=>right e
theorem ch7 {A:Option Addr} {n cap:Nat} {es:List Ev} {w:World} (h:El w A n cap es):
  Q 88 #[.slice A n cap,Value.func (.func 56) #[] #[]] w fun x w'=>∃ z:Int,x= .returned (I z)/\decide (0<=z)=!Sc.allRight es/\Bw w w':=by
 have hn:=h.len;have hmx:=h.max;have hmx':n<=9223372036854775807:=by unfold maxLen at hmx; omega
 have H:=Z h;clear h hmx;go_enter Tryz.func88,Tryz.ntmps88;go_wp2_with fail;go_loopw [8] (fun v wr=>∃ k:Nat,v= I (k:Nat)/\k<=n/\Hid ((∀ (j:Nat) (hj:j<es.length),j<k->right es[j]=true)/\Bw w wr)) (fun v _=>n - (intOf v).toNat)
 case atStart=>exact ⟨0,rfl,Nat.zero_le _,Z ⟨fun j hj h=>absurd h G,.refl _ _⟩⟩
 case round=>
  obtain ⟨k,rfl,hkn,R⟩:=hrel;by_cases hlt:k<n
  ·have d1:=dT ((k:Int)<(n:Int))
   have hk:k<es.length:=G
   obtain ⟨e,he⟩:=ey (es[k]);obtain ⟨b,off,rfl⟩:=H.out.plain G;have hfit:=(H.out.good e (by rw [<- he]; exact List.getElem_mem hk)).fits;obtain ⟨c0,c1,c2,c3,c4,c5,c6⟩:=(H.out.held R.out.2).at_ hk he;have HW0:=fun u=>cc5 e hfit.a u
   obtain ⟨r,hr⟩:=ey (right e);rw [hr] at HW0;have HW:∀ u,Q 56 #[.agg #[I e.kind,I e.i,I e.k,I e.n,U (e.a:Nat),I e.len,Ss ⟨e.p.toArray⟩]] u (Rr0 u (O (!r))):=HW0
   have EH:=H3 hk he hr;clear HW0 hr he hfit;generalize e.kind=y0 at*;generalize e.i=y1 at*;generalize e.k=y2 at*;generalize e.n=y3 at*;generalize e.a=y4 at*;generalize e.len=y5 at*;generalize (⟨e.p.toArray⟩:ByteArray)=s at*;have i1:(k:Int)<(n:Int):=G
   cases r with
   |true=>
    go_wp2_with (go_at_call 56; refine (HW _).mono ?_; rintro e5 w5 ⟨rfl,hb5⟩);have R2:=Z (And.intro (show ∀ (j:Nat) (hj:j<es.length),j<k+1->right es[j]=true from fun j hj hjk=>by
     by_cases e1:j=k
     ·subst e1; rw [EH.out.2.1,EH.out.2.2]
     ·exact R.out.1 j hj G) (R.out.2.trans (hb5.mono R.out.2.size)))
    go_roundw
    case rel=>exact ⟨k+1,by go_num,G,R2⟩
    case measure=>simp [intOf]; omega
   |false=>
    go_wp2_with (go_at_call 56; refine (HW _).mono ?_; rintro e5 w5 ⟨rfl,hb5⟩);go_ret;refine ⟨_,rfl,?_,R.out.2.trans (hb5.mono R.out.2.size)⟩;rw [decide_eq_true G];symm;rw [Bool.not_eq_true',allRight,List.all_eq_false];exact ⟨e,by rw [<- EH.out.2.1]; exact List.getElem_mem _,by rw [EH.out.2.2]; simp⟩
  ·obtain rfl:k=n:=G
   have d1:=df ((k:Int)<(k:Int));go_wp2_with fail;go_ret;refine ⟨_,rfl,?_,R.out.2⟩;rw [decide_eq_false G];symm;rw [Bool.not_eq_false',allRight,List.all_eq_true];intro x hx;obtain ⟨j,hj,rfl⟩:=List.getElem_of_mem hx;exact R.out.1 j hj G
theorem bt3 {A:Option Addr} {n cap:Nat} {es:List Ev} {w:World} (h:El w A n cap es):
  Q 55 #[.slice A n cap,Value.func (.func 56) #[] #[]] w (Rr0 w (O (!Sc.allRight es))):=by
 have HI:=ch7 h;clear h;go_enter Tryz.func55,Tryz.ntmps55;go_wp2_with (go_at_call 88; refine HI.mono ?_; rintro e5 w5 ⟨z,rfl,hz,hb5⟩);go_ret;exact ⟨by first|rfl|exact aa4 hz,hb5⟩
end Go.Proofs.YtafkfnodcemefaaGreat.Sp
set_option maxRecDepth 20000
namespace Go.Proofs.YtafkfnodcemefaaGreat.Sp
open _root_.Go.Proofs.Tryz (prog)
section
open Go.RowKit Go.Maps Sc
def _root_.Go.Proofs.YtafkfnodcemefaaGreat.Sc.headed (b:List Nat):Bool:=decide (3<=b.length) && Sc.scripted (b.getD 0 0:Nat) (b.getD 1 0*256+b.getD 2 0:Nat)
theorem au1 {bs:List Nat} (h:3<=bs.length):Sc.val ((bs.drop 1).take 2)=bs.getD 1 0*256+bs.getD 2 0:=by
 have:(bs.drop 1).take 2=[bs.getD 1 0,bs.getD 2 0]:=by
  apply List.ext_getElem
  ·simp; omega
  ·intro k h1 h2
   have hk:k=0\/k=1:=by simp at h2; omega
   rcases hk with rfl|rfl<;>simp [List.getD,show 1<bs.length by omega,show 2<bs.length by omega]
 rw [this]; simp [Sc.val]
theorem ret5 {fn:Func} {a b c d e:Tmp} (h:fn.results=#[.tmp a,.tmp b,.tmp c,.tmp d,.tmp e]) (tmps:Array Value) (P:Program) (w:World):
  (results fn tmps).run P w= .ok (.tuple #[tmps.getD a undef,tmps.getD b undef,tmps.getD c undef,tmps.getD d undef,tmps.getD e undef]) w:=by
 simp [results,h]
theorem decode_good {A:Option Addr} {n cap:Nat} {bs:List Nat} {w:World} (h:Sl w A n cap bs) (hn:n<=262144) (hh:Sc.headed bs=true):
  Q 59 #[.slice A n cap] w fun x w'=>∃ v l k e,x= .returned (.tuple #[I (bs.getD 0 0:Nat),I (bs.getD 1 0*256+bs.getD 2 0:Nat),v,I (k:Nat),I (e:Nat)])/\Oe w.heap.size v l w'/\Evs bs l k e/\Bw w w':=by
 have hl:=h.bytes.1;have hcap:=h.cap;have d0:=df ((262144:Int)<(n:Int));unfold Sc.headed at hh;rw [Bool.and_eq_true,decide_eq_true_eq,hl] at hh;obtain ⟨h3,hh⟩:=hh;have d1:=df ((n:Int)<3);obtain ⟨b,off,rfl⟩:=h.plain og;have c0:w.cell? (Y b off)=some (Yy (bs.getD 0 0:Nat)):=h.at_ (k:=0) og;have hyv:=au1 (bs:=bs) og;have G0:=fun (d:Nat) (os:Array Obj)=>ae1 (h.held (below_regrown w d os)) 1 2 og og (cap - 1)
 rw [hyv] at G0;have hx0:=h.bytes.lt 0;have hx1:=h.bytes.lt 1;have hx2:=h.bytes.lt 2;have s1:∀ W:World,(Instr.slice 45 (Mt b off n cap) (some (I 1)) (some (I 3)) none).run prog W= .ok (Mt b (off+1) 2 (cap - 1)) W:=fun W=>al5 b off n cap 1 3 og og W rfl rfl rfl rfl rfl
 obtain ⟨y,hy⟩:=eX (bs.getD 1 0*256+bs.getD 2 0);rw [<- hy] at G0 hh ⊢;have G:∀ (d:Nat) (os:Array Obj),Q 38 #[Mt b (off+1) 2 (cap - 1)] (Sort.grow (redrawn w d) os) fun e w'=>e= .returned (U (y:Nat))/\Below (Sort.grow (redrawn w d) os).heap.size (Sort.grow (redrawn w d) os) w':=fun d os=>(G0 d os).mono fun _ _ h'=>⟨h'.1,h'.2 ▸ Below.refl _ _⟩
 have hyb:y<65536:=og;have H:=Z h;have HE:=fun u (hu:Below w.heap.size w u)=>ax0 (h.held hu) h3 hn
 generalize bs.getD 0 0=x at*;have HS:=fun u=>ar3 hh u
 have i0:(0:Int)<(n:Int):=og;have q1:IntKind.i64.wrap (y:Int)=y:=wrap64 og;have k0:=cell_regrown c0;clear h hl hh hx1 hx2 hy G0 hyv c0;go_enter Tryz.func59,Tryz.ntmps59;go_upto_region 5 with fail;refine wp_region_quiet_below X X ?_
 repeat (go_big_quiet_step ((go_at_call 38; exact Calls.regrown_of (G _ _))))
 refine wpQuiet_nil ?_;intro _ hw';obtain ⟨⟨dq,osq⟩,hw''⟩:=hw';subst hw'';have HB:=Z (below_regrown w dq osq);have HE2:=HE _ (below_regrown w dq osq);clear G k0 s1 HE;go_wp2_with (first|(go_at_call 54; refine (HS _).mono ?_; rintro e5 w5 ⟨rfl,rfl⟩)|(go_at_call 89; refine HE2.mono ?_; rintro e6 w6 ⟨v,l,k,e,rfl,hO,hE,hb6⟩));refine bodyPost_ret (ret5 rfl _ _ _) rfl ⟨v,l,k,e,rfl,hO.mono HB.out.size,hE,next HB.out hb6⟩
end
end Go.Proofs.YtafkfnodcemefaaGreat.Sp
namespace Go.Proofs.YtafkfnodcemefaaGreat
open _root_.Go.Proofs.Tryz (prog)
section
open Go.RowKit Sc
theorem au2:∀ (l L:List Ev) (r R:List Nat),(∀ x∈l,Sc.right x=true/\x.a<4294967296)->(∀ x∈L,Sc.right x=true/\x.a<4294967296)->flat l++r=flat L++R->(∃ L',L=l++L'/\r=flat L'++R)\/(∃ l',l=L++l'/\R=flat l'++r)
 |[],L,r,R,_,_,h=> .inl ⟨L,rfl,by simpa [ar0] using h⟩
 |x::l,[],r,R,_,_,h=> .inr ⟨x::l,rfl,by simpa [ar0] using h.symm⟩
 |x::l,y::L,r,R,hl,hL,h=>by
  rw [ar7,ar7,List.append_assoc,List.append_assoc] at h;have hx:=hl x (List.mem_cons_self ..);have hy:=hL y (List.mem_cons_self ..);have e:x=y:=by
   have h1:=(am5 hx.1 hx.2 (flat l++r)).1;have h2:=(am5 hy.1 hy.2 (flat L++R)).1;rw [<- h1,h,h2]
  subst e;rcases au2 l L r R (fun z hz=>hl z (List.mem_cons_of_mem _ hz)) (fun z hz=>hL z (List.mem_cons_of_mem _ hz)) (List.append_cancel_left h) with ⟨L',h1,h2⟩|⟨L',h1,h2⟩
  ·exact .inl ⟨L',by rw [h1,List.cons_append],h2⟩
  ·exact .inr ⟨L',by rw [h1,List.cons_append],h2⟩
theorem au5 {bs:List Nat} {l l' L':List Ev} {k e k' e':Nat} (h:Evs bs l k e) (h':Evs bs l' k' e') (h1:l'=l++L') (h2:bs.drop k=flat L'++bs.drop k'):L'=[]:=by
 cases L' with
 |nil=>rfl
 |cons y r=>
  exfalso;have hy:=h'.right y (by rw [h1]; simp);rw [ar7,List.append_assoc] at h2;have hf:first (bs.drop k)=true:=by rw [h2]; exact av6 hy.1 hy.2 _
  rcases h.how with ⟨-,h5⟩|⟨-,-,h6⟩|⟨-,-,h6,-⟩
  ·rw [h5,List.drop_length] at h2
   exact ax5 _ _ h2.symm
  ·rw [hf] at h6; cases h6
  ·have:=h'.few
   rw [h1,List.length_append,List.length_cons] at this;omega
theorem aw9 {bs:List Nat} {l l':List Ev} {k e k' e':Nat} (h:Evs bs l k e) (h':Evs bs l' k' e'):l=l'/\k=k'/\e=e':=by
 have hll:l=l':=by
  rcases au2 l l' (bs.drop k) (bs.drop k') h.right h'.right (by rw [<- h.parts,<- h'.parts]) with ⟨L',h1,h2⟩|⟨L',h1,h2⟩
  ·have:=au5 h h' h1 h2
   rw [h1,this,List.append_nil]
  ·have:=au5 h' h h1 h2
   rw [h1,this,List.append_nil]
 subst hll;have hk:k=k':=by rw [h.at_,h'.at_]
 subst hk;refine ⟨rfl,rfl,?_⟩;rcases h.how with ⟨a,b⟩|⟨a,b,c⟩|⟨a,b,c,d⟩<;>rcases h'.how with ⟨a',b'⟩|⟨a',b',c'⟩|⟨a',b',c',d'⟩<;>first|omega|(rw [c] at d'; cases d')|(rw [c'] at d; cases d)
end
end Go.Proofs.YtafkfnodcemefaaGreat
