import Derived.Test.YtbepbkidkjblgaaGreatB24
set_option maxHeartbeats 8000000
set_option maxRecDepth 100000
set_option maxRecDepth 20000
namespace Go.Proofs.YtbepbkidkjblgaaGreat.Sp
open _root_.Go.Proofs.Tryz (prog)
section
open Go.RowKit Go.Maps Sc
structure EvR (w:World) (bs:List Nat) (n:Nat) (v:Value) (l:List Ev) (k:Nat) (W:World):Prop where
 own:Oe w.heap.size v l W
 below:Below w.heap.size w W
 right:∀ x∈l,Sc.right x=true/\x.a<4294967296
 few:l.length<=8192
 at_:k=3+(flat l).length
 le:k<=n
 parts:bs.drop 3=flat l++bs.drop k
theorem EvR.evs {w:World} {bs:List Nat} {n:Nat} {v:Value} {l:List Ev} {k:Nat} {W:World} (R:EvR w bs n v l k W) (hl:bs.length=n) {e:Nat} (h:(e=0/\k=bs.length)\/(e=6/\k<bs.length/\first (bs.drop k)=false)\/(e=7/\k<bs.length/\l.length=8192/\first (bs.drop k)=true)):Evs bs l k e:=
 ⟨R.right,R.few,R.at_,by rw [hl]; exact R.le,R.parts,h⟩
theorem EvR.next {w:World} {bs:List Nat} {n:Nat} {v v':Value} {l:List Ev} {k:Nat} {W W':World} (R:EvR w bs n v l k W) (hl:bs.length=n) (hb:∀ c∈bs,c<256) (hk:k<n) (hf:first (bs.drop k)=true) (hfew:l.length<8192)
  (ho:Oe w.heap.size v' (l++[parse (bs.drop k)]) W') (hbe:Below w.heap.size w W'):EvR w bs n v' (l++[parse (bs.drop k)]) (k+(16+(parse (bs.drop k)).p.length)) W':=by
 unfold first at hf;rw [Bool.and_eq_true] at hf;obtain ⟨hr,hright⟩:=hf;have hbd:∀ c∈bs.drop k,c<256:=fun c hc=>hb c (List.mem_of_mem_drop hc)
 have hp:=cf8 hr;have hpb:=am4 hbd hr;have hroom:=hr;unfold room at hroom;simp only [Bool.and_eq_true,decide_eq_true_eq,List.length_drop] at hroom;have hfl:(flat (l++[parse (bs.drop k)])).length=(flat l).length+(16+(parse (bs.drop k)).p.length):=by rw [dh0,List.length_append,dg6]
 refine ⟨ho,hbe,fun x hx=>?_,by simp; omega,by rw [hfl,R.at_]; omega,by rw [hp]; omega,?_⟩
 ·rcases List.mem_append.1 hx with h|h
  ·exact R.right x h
  ·rw [List.mem_singleton] at h
   subst h;exact ⟨hright,(ak5 hbd).2⟩
 ·rw [R.parts,dh0,List.append_assoc]
  congr 1;rw [List.drop_drop] at hpb;exact hpb
theorem ax0 {A:Option Addr} {n cap:Nat} {bs:List Nat} {w:World} (h:Sl w A n cap bs) (h3:3<=n) (hn:n<=262144):
  Calls prog 16 #[.slice A n cap] w fun x w'=>∃ v l k e,x= .returned (.tuple #[v,.int .i64 (k:Nat),.int .i64 (e:Nat)])/\Oe w.heap.size v l w'/\Evs bs l k e/\Below w.heap.size w w':=by
 have hl:=h.bytes.1;have hcap:=h.cap;have hb:=h.bytes.2.2.1;obtain ⟨b,off,rfl⟩:=h.plain (by omega);have H:=H3 h hl hb;clear h hl hb;go_enter Tryz.func16,Tryz.ntmps16;go_wp2_with fail;go_loopw [5,6] (fun v a wr=>∃ (l:List Ev) (k q c:Nat) (p:Option Addr),v= .slice p q c/\Hid (q=l.length)/\a= .int .i64 (k:Nat)/\k<=n/\Hid (EvR w bs n (.slice p q c) l k wr)) (fun _ a _=>n - (intOf a).toNat)
 case atStart=>exact ⟨[],3,0,0,none,rfl,Lib.hid rfl,rfl,h3,Lib.hid ⟨Ol.nil _ _,.refl _ _,by simp,by simp,by simp [ar0],h3,by simp [ar0]⟩⟩
 case round=>
  obtain ⟨l,k,q,c,p,rfl,hq,rfl,hkn,R⟩:=hrel;by_cases hlt:k<n
  ·have d1:decide ((k:Int)<(n:Int))=true:=decide_eq_true (by omega)
   have sl:∀ W:World,(Instr.slice 22 (.slice (some ⟨b,off,none⟩) n cap) (some (.int .i64 (k:Int))) none none).run prog W= .ok (.slice (some ⟨b,off+k,none⟩) (n - k) (cap - k)) W:=fun W=>bn5 _ n cap k (by omega) hcap W rfl (by rw [if_neg (by omega)]; exact (congrArg some (Addr.add_mid ..)).symm) rfl rfl
   have HF0:=ck5 ((H.out.1.held (R.out.below)).rest k (by omega));obtain ⟨E,hE⟩:∃ E,Sc.fst (bs.drop k)=E:=⟨_,rfl⟩;obtain ⟨f,hf⟩:∃ f,first (bs.drop k)=f:=⟨_,rfl⟩;rw [hE,hf] at HF0;have HF:Calls prog 31 #[.slice (some ⟨b,off+k,none⟩) (n - k) (cap - k)] wr fun x w'=>x= .returned (.tuple #[.agg #[.int .i64 E.kind,.int .i64 E.i,.int .i64 E.k,.int .i64 E.n,.int .u32 (E.a:Nat),.int .i64 E.len,.string ⟨E.p.toArray⟩],.bool f])/\Below wr.heap.size wr w':=HF0
   have EH:=H2 hE hf;clear HF0 hE hf;obtain ⟨m,hm⟩:∃ m,m=n - k:=⟨_,rfl⟩;obtain ⟨cm,hcm⟩:∃ cm,cm=cap - k:=⟨_,rfl⟩;rw [<- hm,<- hcm] at sl HF;clear hm hcm;obtain ⟨s,hs⟩:∃ s:ByteArray,s=⟨E.p.toArray⟩:=⟨_,rfl⟩;rw [<- hs] at HF;have hsz:s.size=E.p.length:=by rw [hs]; exact ba0 _
   obtain ⟨L,hL⟩:∃ L,L=E.p.length:=⟨_,rfl⟩;rw [<- hL] at hsz;obtain ⟨Q,hQ⟩:∃ Q:List Value,Q=[.int .i64 E.kind,.int .i64 E.i,.int .i64 E.k,.int .i64 E.n,.int .u32 (E.a:Nat),.int .i64 E.len,.string s]:=⟨_,rfl⟩;have hQ2:ecl E=Q:=by rw [hQ,hs]; rfl
   have QH:=H3 hQ2 hL hQ;clear hQ2 hs hL hQ;generalize E.kind=y0 at*;generalize E.i=y1 at*;generalize E.k=y2 at*;generalize E.n=y3 at*;generalize E.a=y4 at*;generalize E.len=y5 at*;go_upto_region 5 with (go_at_call 31; refine HF.mono ?_; rintro e w5 ⟨rfl,hb5⟩);have hbx:=next hb5 (aa0 w5 (.cells #[.int .i64 y0,.int .i64 y1,.int .i64 y2,.int .i64 y3,.int .u32 (y4:Nat),.int .i64 y5,.string s] 44));have BX:=Blk.new w5 44 #[.int .i64 y0,.int .i64 y1,.int .i64 y2,.int .i64 y3,.int .u32 (y4:Nat),.int .i64 y5,.string s];have hsx:=hb5.size;generalize w5.alloc _=w6 at*;generalize w5.heap.size=bx at*;clear sl HF hb5;have hbw:=R.out.below.trans (hbx.mono R.out.below.size);have ho6:=R.out.own.held hbx
   cases f with
   |false=>
    have Z:=H2 ho6 hbw;clear ho6 hbw hbx BX hsx;go_wp2_with fail;go_ret3;exact ⟨_,l,k,6,rfl,Z.out.1,R.out.evs H.out.2.1 (.inr (.inl ⟨rfl,by rw [H.out.2.1]; exact hlt,EH.out.2⟩)),Z.out.2⟩
   |true=>
    cases hq8:((q:Int)==8192) with
    |true=>
     have Z:=H2 ho6 hbw;clear ho6 hbw hbx BX hsx;have e8:q=8192:=by have:=beq_iff_eq.1 hq8; omega
     have e8:=Lib.hid e8;go_wp2_with fail;go_ret3;exact ⟨_,l,k,7,rfl,Z.out.1,R.out.evs H.out.2.1 (.inr (.inr ⟨rfl,by rw [H.out.2.1]; exact hlt,by rw [<- hq.out,e8.out],EH.out.2⟩)),Z.out.2⟩
    |false=>
     have e8:q≠8192:=fun e=>by subst e; simp at hq8
     have hfew:l.length<8192:=by have:=R.out.few; have:=hq.out; omega
     obtain ⟨g',cap',w7,hrun,hO7,hT7,hat⟩:=ho6.push1 elemE hbw.size E (by omega) 24;have hrun2:(Builtin.append_ #[24,24] 24 #[.slice p q c,.slice (some ⟨w6.heap.size,0,none⟩) 1 1]).run prog (w6.alloc (.cells #[.int .i64 y0,.int .i64 y1,.int .i64 y2,.int .i64 y3,.int .u32 (y4:Nat),.int .i64 y5,.string s] 44))= .ok (.slice (some ⟨g',0,none⟩) (q+1) cap') w7:=by
      have t:=hrun;rw [<- hq.out,QH.out.1,QH.out.2.2] at t;exact t
     rw [<- hq.out] at hO7;have hk:E=parse (bs.drop k):=by
      have h1:=EH.out.2;unfold first at h1;rw [Bool.and_eq_true] at h1;rw [<- EH.out.1,cu5 h1.1]
     have hB7:=own_below ho6 hbw hbw.size hT7;have hob:bx∉(Value.slice p q c).ownBlock.toList:=fun hm=>by
      have h1:(Value.slice p q c).ownBlock=some bx:=by simpa using hm
      have:=(R.out.own.lt h1).1;omega
     have BX7:=BX.turn hT7 hob;have c6:w7.cell? ⟨bx,5+1,none⟩=some (.string s):=BX7.at_ 6;rw [hk] at hO7;have R7:=R.out.next H.out.2.1 H.out.2.2 hlt EH.out.2 hfew hO7 hB7;have hL:L=(parse (bs.drop k)).p.length:=by rw [<- hk]; exact QH.out.2.1
     rw [<- hL] at R7;have R7:=Lib.hid R7;have LH:=H2 hk hq.out;have hle:=R7.out.le;have x0:w6.cell? ⟨bx,0,none⟩=some (.int .i64 y0):=BX.at_ 0;have x1:w6.cell? ⟨bx,1,none⟩=some (.int .i64 y1):=BX.at_ 1;have x2:w6.cell? ⟨bx,2,none⟩=some (.int .i64 y2):=BX.at_ 2;have x3:w6.cell? ⟨bx,3,none⟩=some (.int .i64 y3):=BX.at_ 3;have x4:w6.cell? ⟨bx,4,none⟩=some (.int .u32 (y4:Nat)):=BX.at_ 4;have x5:w6.cell? ⟨bx,5,none⟩=some (.int .i64 y5):=BX.at_ 5;have x6:w6.cell? ⟨bx,6,none⟩=some (.string s):=BX.at_ 6;clear hrun hO7 hT7 hat hk hB7 hob BX7 hL hbx BX hsx hbw ho6 QH EH R hq e8 hfew;go_wp2_with (first|(at_builtin; refine Lib.wpList_append_run _ rfl (.tmp 29) (.tmp 31) 24 24 rfl _ _ rfl rfl _ _ hrun2 ?_)|fail);go_roundw
     case rel=>exact ⟨_,k+(16+L),q+1,cap',some ⟨g',0,none⟩,rfl,Lib.hid (by simp [LH.out.2]),by go_num,hle,R7⟩
     case measure=>simp [intOf]; omega
  ·obtain rfl:k=n:=by omega
   have d1:decide ((k:Int)<(k:Int))=false:=decide_eq_false (by omega);go_wp2_with fail;go_ret3;exact ⟨_,l,k,0,rfl,R.out.own,R.out.evs H.out.2.1 (.inl ⟨rfl,H.out.2.1.symm⟩),R.out.below⟩
end
end Go.Proofs.YtbepbkidkjblgaaGreat.Sp
namespace Go.Proofs.YtbepbkidkjblgaaGreat.Sp
open _root_.Go.Proofs.Tryz (prog)
open Go.RowKit Go.Maps Sc
def _root_.Go.Proofs.YtbepbkidkjblgaaGreat.Sc.scripted (n s:Int):Bool:=decide (1<=n) && decide (n<=8) && decide (1<=s) && decide (s<=512)
theorem at7 (n s:Int) (w:World):Calls prog 15 #[.int .i64 n,.int .i64 s] w fun e w'=>e= .returned (.bool (Sc.scripted n s))/\w=w':=by
 unfold Sc.scripted
 cases h1:decide (1<=n)
 ·go_enter Tryz.func15,Tryz.ntmps15
  go_wp2_with fail;go_ret;exact ⟨rfl,rfl⟩
 cases h2:decide (n<=8)
 ·go_enter Tryz.func15,Tryz.ntmps15
  go_wp2_with fail;go_ret;exact ⟨rfl,rfl⟩
 cases h3:decide (1<=s)
 ·go_enter Tryz.func15,Tryz.ntmps15
  go_wp2_with fail;go_ret;exact ⟨rfl,rfl⟩
 ·go_enter Tryz.func15,Tryz.ntmps15
  go_wp2_with fail;go_ret;exact ⟨aa4 (by simp),rfl⟩
theorem ar3 {n s:Int} {r:Bool} (h:Sc.scripted n s=r) (w:World):Calls prog 15 #[.int .i64 n,.int .i64 s] w fun e w'=>e= .returned (.bool r)/\w=w':=h ▸ at7 n s w
end Go.Proofs.YtbepbkidkjblgaaGreat.Sp
set_option maxRecDepth 20000
namespace Go.Proofs.YtbepbkidkjblgaaGreat.Sp
open _root_.Go.Proofs.Tryz (prog)
section
open Go.RowKit Go.Maps Sc
def _root_.Go.Proofs.YtbepbkidkjblgaaGreat.Sc.headed (b:List Nat):Bool:=decide (3<=b.length) && Sc.scripted (b.getD 0 0:Nat) (b.getD 1 0*256+b.getD 2 0:Nat)
theorem au1 {bs:List Nat} (h:3<=bs.length):Sc.val ((bs.drop 1).take 2)=bs.getD 1 0*256+bs.getD 2 0:=by
 have:(bs.drop 1).take 2=[bs.getD 1 0,bs.getD 2 0]:=by
  apply List.ext_getElem
  ·simp; omega
  ·intro k h1 h2
   have hk:k=0\/k=1:=by simp at h2; omega
   rcases hk with rfl|rfl<;>simp [List.getD,show 1<bs.length by omega,show 2<bs.length by omega]
 rw [this]; simp [Sc.val]
theorem ret5 {fn:Func} {a b c d e:Tmp} (h:fn.results=#[.tmp a,.tmp b,.tmp c,.tmp d,.tmp e]) (tmps:Array Value) (P:Program) (w:World):
  (results fn tmps).run P w= .ok (.tuple #[tmps.getD a undef,tmps.getD b undef,tmps.getD c undef,tmps.getD d undef,tmps.getD e undef]) w:=by
 simp [results,h]
theorem as0 {A:Option Addr} {n cap:Nat} {bs:List Nat} {w:World} (h:Sl w A n cap bs) (hn:n<=262144) (hh:Sc.headed bs=false):
  Calls prog 6 #[.slice A n cap] w fun x w'=>x= .returned (.tuple #[.int .i64 0,.int .i64 0,.slice none 0 0,.int .i64 0,.int .i64 6])/\Below w.heap.size w w':=by
 have hl:=h.bytes.1;have hcap:=h.cap;have d0:decide ((262144:Int)<(n:Int))=false:=decide_eq_false (by omega);by_cases h3:n<3
 ·have d1:decide ((n:Int)<3)=true:=decide_eq_true (by omega)
  clear h hh hl;go_enter Tryz.func6,Tryz.ntmps6;go_wp2_with fail;refine bodyPost_ret (ret5 rfl _ _ _) rfl ⟨rfl,.refl _ _⟩
 ·have d1:decide ((n:Int)<3)=false:=decide_eq_false (by omega)
  unfold Sc.headed at hh;rw [hl,decide_eq_true (show 3<=n by omega),Bool.true_and] at hh;obtain ⟨b,off,rfl⟩:=h.plain (by omega);have c0:w.cell? ⟨b,off,none⟩=some (.int .u8 (bs.getD 0 0:Nat)):=h.at_ (k:=0) (by omega);have hyv:=au1 (bs:=bs) (by omega);have G0:=fun (d:Nat) (os:Array Obj)=>ae1 (h.held (below_regrown w d os)) 1 2 (by omega) (by omega) (cap - 1)
  rw [hyv] at G0;have hx0:=h.bytes.lt 0;have hx1:=h.bytes.lt 1;have hx2:=h.bytes.lt 2;have s1:∀ W:World,(Instr.slice 22 (.slice (some ⟨b,off,none⟩) n cap) (some (.int .i64 1)) (some (.int .i64 3)) none).run prog W= .ok (.slice (some ⟨b,off+1,none⟩) 2 (cap - 1)) W:=fun W=>al5 b off n cap 1 3 (by omega) (by omega) W rfl rfl rfl rfl rfl
  obtain ⟨y,hy⟩:∃ y,y=bs.getD 1 0*256+bs.getD 2 0:=⟨_,rfl⟩;rw [<- hy] at G0 hh;have G:∀ (d:Nat) (os:Array Obj),Calls prog 14 #[.slice (some ⟨b,off+1,none⟩) 2 (cap - 1)] (Sort.grow (redrawn w d) os) fun e w'=>e= .returned (.int .u32 (y:Nat))/\Below (Sort.grow (redrawn w d) os).heap.size (Sort.grow (redrawn w d) os) w':=fun d os=>(G0 d os).mono fun _ _ h'=>⟨h'.1,h'.2 ▸ Below.refl _ _⟩
  have hyb:y<65536:=by omega
  generalize bs.getD 0 0=x at*;have HS:=fun u=>ar3 hh u
  have i0:(0:Int)<(n:Int):=by omega
  have q1:IntKind.i64.wrap (y:Int)=y:=wrap64 (by omega);have k0:=cell_regrown c0;clear h hl hh hx1 hx2 hy G0 hyv c0;go_enter Tryz.func6,Tryz.ntmps6;go_upto_region 5 with fail;refine wp_region_quiet_below (by kernel_rfl) (by kernel_rfl) ?_
  repeat (go_big_quiet_step ((go_at_call 14; exact Calls.regrown_of (G _ _))))
  refine wpQuiet_nil ?_;intro _ hw';obtain ⟨⟨dq,osq⟩,hw''⟩:=hw';subst hw'';have HB:=Lib.hid (below_regrown w dq osq);clear G k0 s1;go_wp2_with (go_at_call 15; refine (HS _).mono ?_; rintro e5 w5 ⟨rfl,rfl⟩);refine bodyPost_ret (ret5 rfl _ _ _) rfl ⟨rfl,HB.out⟩
theorem decode_good {A:Option Addr} {n cap:Nat} {bs:List Nat} {w:World} (h:Sl w A n cap bs) (hn:n<=262144) (hh:Sc.headed bs=true):
  Calls prog 6 #[.slice A n cap] w fun x w'=>∃ v l k e,x= .returned (.tuple #[.int .i64 (bs.getD 0 0:Nat),.int .i64 (bs.getD 1 0*256+bs.getD 2 0:Nat),v,.int .i64 (k:Nat),.int .i64 (e:Nat)])/\Oe w.heap.size v l w'/\Evs bs l k e/\Below w.heap.size w w':=by
 have hl:=h.bytes.1;have hcap:=h.cap;have d0:decide ((262144:Int)<(n:Int))=false:=decide_eq_false (by omega);unfold Sc.headed at hh;rw [Bool.and_eq_true,decide_eq_true_eq,hl] at hh;obtain ⟨h3,hh⟩:=hh;have d1:decide ((n:Int)<3)=false:=decide_eq_false (by omega);obtain ⟨b,off,rfl⟩:=h.plain (by omega);have c0:w.cell? ⟨b,off,none⟩=some (.int .u8 (bs.getD 0 0:Nat)):=h.at_ (k:=0) (by omega);have hyv:=au1 (bs:=bs) (by omega);have G0:=fun (d:Nat) (os:Array Obj)=>ae1 (h.held (below_regrown w d os)) 1 2 (by omega) (by omega) (cap - 1)
 rw [hyv] at G0;have hx0:=h.bytes.lt 0;have hx1:=h.bytes.lt 1;have hx2:=h.bytes.lt 2;have s1:∀ W:World,(Instr.slice 22 (.slice (some ⟨b,off,none⟩) n cap) (some (.int .i64 1)) (some (.int .i64 3)) none).run prog W= .ok (.slice (some ⟨b,off+1,none⟩) 2 (cap - 1)) W:=fun W=>al5 b off n cap 1 3 (by omega) (by omega) W rfl rfl rfl rfl rfl
 obtain ⟨y,hy⟩:∃ y,y=bs.getD 1 0*256+bs.getD 2 0:=⟨_,rfl⟩;rw [<- hy] at G0 hh ⊢;have G:∀ (d:Nat) (os:Array Obj),Calls prog 14 #[.slice (some ⟨b,off+1,none⟩) 2 (cap - 1)] (Sort.grow (redrawn w d) os) fun e w'=>e= .returned (.int .u32 (y:Nat))/\Below (Sort.grow (redrawn w d) os).heap.size (Sort.grow (redrawn w d) os) w':=fun d os=>(G0 d os).mono fun _ _ h'=>⟨h'.1,h'.2 ▸ Below.refl _ _⟩
 have hyb:y<65536:=by omega
 have H:=Lib.hid h;have HE:=fun u (hu:Below w.heap.size w u)=>ax0 (h.held hu) h3 hn
 generalize bs.getD 0 0=x at*;have HS:=fun u=>ar3 hh u
 have i0:(0:Int)<(n:Int):=by omega
 have q1:IntKind.i64.wrap (y:Int)=y:=wrap64 (by omega);have k0:=cell_regrown c0;clear h hl hh hx1 hx2 hy G0 hyv c0;go_enter Tryz.func6,Tryz.ntmps6;go_upto_region 5 with fail;refine wp_region_quiet_below (by kernel_rfl) (by kernel_rfl) ?_
 repeat (go_big_quiet_step ((go_at_call 14; exact Calls.regrown_of (G _ _))))
 refine wpQuiet_nil ?_;intro _ hw';obtain ⟨⟨dq,osq⟩,hw''⟩:=hw';subst hw'';have HB:=Lib.hid (below_regrown w dq osq);have HE2:=HE _ (below_regrown w dq osq);clear G k0 s1 HE;go_wp2_with (first|(go_at_call 15; refine (HS _).mono ?_; rintro e5 w5 ⟨rfl,rfl⟩)|(go_at_call 16; refine HE2.mono ?_; rintro e6 w6 ⟨v,l,k,e,rfl,hO,hE,hb6⟩));refine bodyPost_ret (ret5 rfl _ _ _) rfl ⟨v,l,k,e,rfl,hO.mono HB.out.size,hE,next HB.out hb6⟩
end
end Go.Proofs.YtbepbkidkjblgaaGreat.Sp
namespace Go.Proofs.YtbepbkidkjblgaaGreat
open _root_.Go.Proofs.Tryz (prog)
section
open Go.RowKit Sc
theorem au2:∀ (l L:List Ev) (r R:List Nat),(∀ x∈l,Sc.right x=true/\x.a<4294967296)->(∀ x∈L,Sc.right x=true/\x.a<4294967296)->flat l++r=flat L++R->(∃ L',L=l++L'/\r=flat L'++R)\/(∃ l',l=L++l'/\R=flat l'++r)
 |[],L,r,R,_,_,h=> .inl ⟨L,rfl,by simpa [ar0] using h⟩
 |x::l,[],r,R,_,_,h=> .inr ⟨x::l,rfl,by simpa [ar0] using h.symm⟩
 |x::l,y::L,r,R,hl,hL,h=>by
  rw [ar7,ar7,List.append_assoc,List.append_assoc] at h;have hx:=hl x (List.mem_cons_self ..);have hy:=hL y (List.mem_cons_self ..);have e:x=y:=by
   have h1:=(am5 hx.1 hx.2 (flat l++r)).1;have h2:=(am5 hy.1 hy.2 (flat L++R)).1;rw [<- h1,h,h2]
  subst e;rcases au2 l L r R (fun z hz=>hl z (List.mem_cons_of_mem _ hz)) (fun z hz=>hL z (List.mem_cons_of_mem _ hz)) (List.append_cancel_left h) with ⟨L',h1,h2⟩|⟨L',h1,h2⟩
  ·exact .inl ⟨L',by rw [h1,List.cons_append],h2⟩
  ·exact .inr ⟨L',by rw [h1,List.cons_append],h2⟩
theorem au5 {bs:List Nat} {l l' L':List Ev} {k e k' e':Nat} (h:Evs bs l k e) (h':Evs bs l' k' e') (h1:l'=l++L') (h2:bs.drop k=flat L'++bs.drop k'):L'=[]:=by
 cases L' with
 |nil=>rfl
 |cons y r=>
  exfalso;have hy:=h'.right y (by rw [h1]; simp);rw [ar7,List.append_assoc] at h2;have hf:first (bs.drop k)=true:=by rw [h2]; exact av6 hy.1 hy.2 _
  rcases h.how with ⟨-,h5⟩|⟨-,-,h6⟩|⟨-,-,h6,-⟩
  ·rw [h5,List.drop_length] at h2
   exact ax5 _ _ h2.symm
  ·rw [hf] at h6; cases h6
  ·have:=h'.few
   rw [h1,List.length_append,List.length_cons] at this;omega
theorem aw9 {bs:List Nat} {l l':List Ev} {k e k' e':Nat} (h:Evs bs l k e) (h':Evs bs l' k' e'):l=l'/\k=k'/\e=e':=by
 have hll:l=l':=by
  rcases au2 l l' (bs.drop k) (bs.drop k') h.right h'.right (by rw [<- h.parts,<- h'.parts]) with ⟨L',h1,h2⟩|⟨L',h1,h2⟩
  ·have:=au5 h h' h1 h2
   rw [h1,this,List.append_nil]
  ·have:=au5 h' h h1 h2
   rw [h1,this,List.append_nil]
 subst hll;have hk:k=k':=by rw [h.at_,h'.at_]
 subst hk;refine ⟨rfl,rfl,?_⟩;rcases h.how with ⟨a,b⟩|⟨a,b,c⟩|⟨a,b,c,d⟩<;>rcases h'.how with ⟨a',b'⟩|⟨a',b',c'⟩|⟨a',b',c',d'⟩<;>first|omega|(rw [c] at d'; cases d')|(rw [c'] at d; cases d)
end
end Go.Proofs.YtbepbkidkjblgaaGreat
