import Derived.WalkSpells
import Derived.WalkLawsBesides
import Derived.Lib.Hide
import Derived.BigQuiet
import Derived.Deep.RegionHeld3
import Derived.Test.YtafkfnodcemefaaGreatProg
import Derived.ProofKit
import Derived.OpenShut
set_option maxHeartbeats 8000000
namespace Go.Proofs.YtafkfnodcemefaaGreat
open _root_.Go.Proofs.Tryz (prog)
section
open Go.RowKit
structure KI where
structure KU where
structure KV where
structure KY where
structure KZ where
structure KT where
structure KS where
structure KK where
def Ii:KI:=⟨⟩
def Uu:KU:=⟨⟩
def Vv:KV:=⟨⟩
def Yy:KY:=⟨⟩
def Zz:KZ:=⟨⟩
def Tt:KT:=⟨⟩
def Ss:KS:=⟨⟩
def Kc:KK:=⟨⟩
instance:CoeFun KI fun _=>Int->Value:=⟨fun _=>.int .i64⟩
instance:CoeFun KU fun _=>Int->Value:=⟨fun _=>.int .u32⟩
instance:CoeFun KV fun _=>Int->Value:=⟨fun _=>.int .u16⟩
instance:CoeFun KY fun _=>Int->Value:=⟨fun _=>.int .u8⟩
instance:CoeFun KZ fun _=>Int->Value:=⟨fun _=>.int .u64⟩
instance:CoeFun KT fun _=>Bool->Value:=⟨fun _=>.bool⟩
instance:CoeFun KS fun _=>ByteArray->Value:=⟨fun _=>.string⟩
instance:CoeFun KK fun _=>FuncId->Array Value->World->(Ending->World->Prop)->Prop:=⟨fun _=>Calls prog⟩
structure XP where (a:Nat)
def Pt(a:Nat):XP:=⟨a⟩
structure XQ where (a b:Nat)
def Qt(a b:Nat):XQ:=⟨a,b⟩
structure XA where (a b:Nat)
def Aa(a b:Nat):XA:=⟨a,b⟩
structure XL where (a n c:Nat)
def Lt(a n c:Nat):XL:=⟨a,n,c⟩
structure XM where (a b n c:Nat)
def Mt(a b n c:Nat):XM:=⟨a,b,n,c⟩
structure XN where (a:Nat)
def Np(a:Nat):XN:=⟨a⟩
structure XX where (a n c:Nat)
def Xp(a n c:Nat):XX:=⟨a,n,c⟩
structure XR where (w:World)(v:Value)
def Rr0(w:World)(v:Value):XR:=⟨w,v⟩
structure XE where (w:World)(v:Value)
def Rw(w:World)(v:Value):XE:=⟨w,v⟩
structure XB where (w w':World)
def Bw(w w':World):XB:=⟨w,w'⟩
instance (a:Nat):CoeDep XP (Pt a) Value:=⟨.pointer (some ⟨a,0,none⟩)⟩
instance (a b:Nat):CoeDep XQ (Qt a b) Value:=⟨.pointer (some ⟨a,b,none⟩)⟩
instance (a b:Nat):CoeDep XA (Aa a b) Addr:=⟨⟨a,b,none⟩⟩
instance (a n c:Nat):CoeDep XL (Lt a n c) Value:=⟨.slice (some ⟨a,0,none⟩) n c⟩
instance (a b n c:Nat):CoeDep XM (Mt a b n c) Value:=⟨.slice (some ⟨a,b,none⟩) n c⟩
instance (a:Nat):CoeDep XN (Np a) (Option Value):=⟨some (.pointer (some ⟨a,0,none⟩))⟩
instance (a n c:Nat):CoeDep XX (Xp a n c) (Option Value):=⟨some (.slice (some ⟨a,0,none⟩) n c)⟩
instance (w:World)(v:Value):CoeDep XR (Rr0 w v) (Ending->World->Prop):=⟨fun e w'=>e= .returned v∧Below w.heap.size w w'⟩
instance (w:World)(v:Value):CoeDep XE (Rw w v) (Ending->World->Prop):=⟨fun e w'=>e= .returned v∧w'=w⟩
instance (w w':World):CoeDep XB (Bw w w') Prop:=⟨Below w.heap.size w w'⟩
theorem Zq{p:Prop}(h:p):RowKit.Hid p:=Lib.hid h
theorem og{p:Prop}(h:p:=by omega):p:=h
theorem kr{p:Prop}(h:p:=by kernel_rfl):p:=h
theorem sn{p:Prop}(h:p:=by simp):p:=h
theorem df(p:Prop)[Decidable p](h:¬p:=by omega):decide p=false:=decide_eq_false h
theorem dT(p:Prop)[Decidable p](h:p:=by omega):decide p=true:=decide_eq_true h
theorem eX{α:Sort _}(a:α):∃ x,x=a:=⟨_,rfl⟩
theorem ey{α:Sort _}(a:α):∃ x,a=x:=⟨_,rfl⟩
def I:KI:=⟨⟩
def U:KU:=⟨⟩
def V:KV:=⟨⟩
def O:KT:=⟨⟩
def Q:KK:=⟨⟩
structure XXP where (a:Nat)
def K(a:Nat):XXP:=⟨a⟩
structure XXA where (a b:Nat)
def Y(a b:Nat):XXA:=⟨a,b⟩
instance (a:Nat):CoeDep XXP (K a) Value:=⟨.pointer (some ⟨a,0,none⟩)⟩
instance (a b:Nat):CoeDep XXA (Y a b) Addr:=⟨⟨a,b,none⟩⟩
theorem Z{p:Prop}(h:p):RowKit.Hid p:=Lib.hid h
theorem G{p:Prop}(h:p:=by omega):p:=h
theorem X{p:Prop}(h:p:=by kernel_rfl):p:=h
end
theorem H2 {a b:Prop}(x:a)(y:b):RowKit.Hid (a∧b):=Z ⟨x,y⟩
theorem H3 {a b c:Prop}(x:a)(y:b)(z:c):RowKit.Hid (a∧b∧c):=Z ⟨x,y,z⟩
theorem H4 {a b c d:Prop}(x:a)(y:b)(z:c)(u:d):RowKit.Hid (a∧b∧c∧d):=Z ⟨x,y,z,u⟩
theorem H5 {a b c d e:Prop}(x:a)(y:b)(z:c)(u:d)(v:e):RowKit.Hid (a∧b∧c∧d∧e):=Z ⟨x,y,z,u,v⟩
theorem H6 {a b c d e f:Prop}(x:a)(y:b)(z:c)(u:d)(v:e)(w:f):RowKit.Hid (a∧b∧c∧d∧e∧f):=Z ⟨x,y,z,u,v,w⟩
theorem H7 {a b c d e f g:Prop}(x:a)(y:b)(z:c)(u:d)(v:e)(w:f)(p:g):RowKit.Hid (a∧b∧c∧d∧e∧f∧g):=Z ⟨x,y,z,u,v,w,p⟩
theorem H8 {a b c d e f g h:Prop}(x:a)(y:b)(z:c)(u:d)(v:e)(w:f)(p:g)(q:h):RowKit.Hid (a∧b∧c∧d∧e∧f∧g∧h):=Z ⟨x,y,z,u,v,w,p,q⟩
theorem H9 {a b c d e f g h i:Prop}(x:a)(y:b)(z:c)(u:d)(v:e)(w:f)(p:g)(q:h)(r:i):RowKit.Hid (a∧b∧c∧d∧e∧f∧g∧h∧i):=Z ⟨x,y,z,u,v,w,p,q,r⟩
theorem H10 {a b c d e f g h i j:Prop}(x:a)(y:b)(z:c)(u:d)(v:e)(w:f)(p:g)(q:h)(r:i)(s:j):RowKit.Hid (a∧b∧c∧d∧e∧f∧g∧h∧i∧j):=Z ⟨x,y,z,u,v,w,p,q,r,s⟩
theorem H11 {a b c d e f g h i j k:Prop}(x:a)(y:b)(z:c)(u:d)(v:e)(w:f)(p:g)(q:h)(r:i)(s:j)(t:k):RowKit.Hid (a∧b∧c∧d∧e∧f∧g∧h∧i∧j∧k):=Z ⟨x,y,z,u,v,w,p,q,r,s,t⟩
open _root_.Go.Proofs.Tryz (prog)
section
open Go.RowKit
theorem ab0 {k:IntKind} {a b:Int} (h:a=b):Ending.returned (.int k a)= .returned (.int k b):=by rw [h]
theorem aa4 {a b:Bool} (h:a=b):Ending.returned (O a)= .returned (O b):=by rw [h]
theorem aw8 {W:World} {a:Addr} {v:Value} (h:W.cell? a=some v):a.block<W.heap.size:=by
 rcases Nat.lt_or_ge a.block W.heap.size with h'|h'
 ·exact h'
 ·simp [World.cell?,Array.getElem?_eq_none h'] at h
theorem held {W w1:World} (hb:Below W.heap.size W w1) {a:Addr} {v:Value} (h:W.cell? a=some v):w1.cell? a=some v:=(hb.cell (aw8 h)).trans h
theorem next {w w2 w3:World} (h:Below w.heap.size w w2) (k:Below w2.heap.size w2 w3):Below w.heap.size w w3:=h.trans (k.mono h.size)
theorem aa0 (w:World) (o:Obj):Below w.heap.size w (w.alloc o):=(Below.refl _ _).alloc (Nat.le_refl _) _
theorem ac8 {B:Nat} {a w:World} (h:Below B a w) (n:Nat):Below B a (w.drewN n):=⟨h.os,h.tape,h.output,h.size,h.block⟩
theorem aa1 (w:World) (o:Obj):(w.alloc o).heap.size=w.heap.size+1:=sn
theorem ab3 (w:World) (C:Array Value) (t:TypeId) (j:Nat):(w.alloc (.cells C t)).cell? (Y w.heap.size j)=C[j]?:=World.cell?_alloc_mark w C t (0,0) j
theorem add_block (a:Addr) (n:Nat):(a.add n).block=a.block:=by unfold Addr.add; split<;>rfl
def Blk (t:TypeId) (w:World) (g:Nat) (cs:Array Value):Prop:=w.heap[g]?=some (.cells cs t (0,0))
section
variable {t:TypeId} {w w':World} {g:Nat} {cs:Array Value}
theorem Blk.at_ (h:Blk t w g cs) (i:Nat):w.cell? (Y g i)=cs[i]?:=by unfold Blk at h; simp [World.cell?,h]
theorem Blk.free (h:Blk t w g cs) (i:Nat):w.frozen? (Y g i)=false:=by unfold Blk at h; simp [World.frozen?,h]
theorem Blk.lt (h:Blk t w g cs):g<w.heap.size:=by
 rcases Nat.lt_or_ge g w.heap.size with h'|h'
 ·exact h'
 ·unfold Blk at h; rw [Array.getElem?_eq_none h'] at h; cases h
theorem Blk.held (h:Blk t w g cs) (hb:Below w.heap.size w w'):Blk t w' g cs:=(hb.block g h.lt).trans h
theorem Blk.new (w:World) (t:TypeId) (cs:Array Value):Blk t (w.alloc (.cells cs t)) w.heap.size cs:=heap_alloc_new w _
theorem nw (w:World) (t:TypeId) (C:Array Value):Below w.heap.size w (w.alloc (.cells C t))/\Blk t (w.alloc (.cells C t)) w.heap.size C:=⟨aa0 w _,Blk.new w t C⟩
theorem Blk.drew (h:Blk t w g cs):Blk t w.drew g cs:=h
theorem Blk.store (h:Blk t w g cs) (i:Nat) (u:Value):Blk t (w.setCell (Y g i) u) g (cs.setIfInBounds i u):=by
 unfold Blk at h ⊢;simp [World.setCell,Array.getElem?_modify,h]
theorem Blk.away (h:Blk t w g cs) {p:Addr} (hp:g≠p.block) (u:Value):Blk t (w.setCell p u) g cs:=(Below.heap_setCell w p u g hp).trans h
theorem Blk.more (h:Blk t w g cs) (o:Obj):Blk t (w.alloc o) g cs:=h.held (aa0 w o)
end
end
end Go.Proofs.YtafkfnodcemefaaGreat
namespace Go.Proofs.YtafkfnodcemefaaGreat.Am
open _root_.Go.Proofs.Tryz (prog)
theorem bj1 (n:Nat) (hn:n<=32):4294967295 / 2 ^ n=2 ^ (32 - n) - 1:=by
 have h:n=0\/n=1\/n=2\/n=3\/n=4\/n=5\/n=6\/n=7\/n=8\/n=9\/n=10\/n=11\/n=12\/n=13\/n=14\/n=15\/n=16\/n=17\/n=18\/n=19\/n=20\/n=21\/n=22\/n=23\/n=24\/n=25\/n=26\/n=27\/n=28\/n=29\/n=30\/n=31\/n=32:=G
 rcases h with rfl|rfl|rfl|rfl|rfl|rfl|rfl|rfl|rfl|rfl|rfl|rfl|rfl|rfl|rfl|rfl|rfl|rfl|rfl|rfl|rfl|rfl|rfl|rfl|rfl|rfl|rfl|rfl|rfl|rfl|rfl|rfl|rfl<;>decide
theorem and_behind (a n:Nat) (hn:n<=32):a &&& (4294967295 / 2 ^ n)=a % 2 ^ (32 - n):=by
 rw [bj1 n hn];exact Nat.and_two_pow_sub_one_eq_mod a (32 - n)
def right (a:Nat) (len:Int):Bool:=decide (0<=len/\len<=32) && decide (a % 2 ^ (32 - len.toNat)=0)
theorem right_neg {a:Nat} {len:Int} (h:len<0):right a len=false:=by unfold right; rw [decide_eq_false G]; rfl
theorem right_big {a:Nat} {len:Int} (h:32<len):right a len=false:=by unfold right; rw [decide_eq_false G]; rfl
theorem right_in {a:Nat} {n:Nat} (h:n<=32):right a n=decide (a % 2 ^ (32 - n)=0):=by
 unfold right; rw [decide_eq_true G]; simp
end Go.Proofs.YtafkfnodcemefaaGreat.Am
set_option maxRecDepth 20000
namespace Go.Proofs.YtafkfnodcemefaaGreat
open _root_.Go.Proofs.Tryz (prog)
section
open Go.RowKit
theorem ad2 (n:Nat) (hn:n<=32) (w:World):Q 110 #[I n] w fun e w'=>e= .returned (U (4294967295 / 2 ^ n:Nat))/\w=w':=by
 go_enter Tryz.func110,Tryz.ntmps110;go_wp2;go_ret;exact ⟨ab0 (by simp [Int.natCast_ediv]),rfl⟩
theorem ah3 (n:Nat):4294967295 / 2 ^ n<4294967296:=Nat.lt_of_le_of_lt (Nat.div_le_self _ _) G
theorem af2 (n:Nat):(4294967295:Int) / 2 ^ n=((4294967295 / 2 ^ n:Nat):Int):=by simp [Int.natCast_ediv]
theorem ao8 (a n:Nat) (ha:a<4294967296) (hn:n<=32):(bits .and .u32 (a:Int) (4294967295 / 2 ^ n)==0)=decide (a % 2 ^ (32 - n)=0):=by
 rw [af2,u32_and_nat a _ ha (ah3 n),Am.and_behind a n hn,Bool.eq_iff_iff];simp only [beq_iff_eq,decide_eq_true_eq];omega
def PreR (w:World) (g:Nat) (a:Int) (len:Int):Prop:=w.cell? (Y g 0)=some (U a)/\w.cell? (Y g 1)=some (I len)
theorem ak4 (w:World) (t:TypeId) (a len:Int):PreR (w.alloc (.cells #[U a,I len] t)) w.heap.size a len:=⟨(ab3 w _ t 0).trans rfl,(ab3 w _ t 1).trans rfl⟩
theorem af5 (a:Nat) (len:Int) (ha:a<4294967296) (w:World):
  Q 79 #[.agg #[U a,I len]] w (Rr0 w (O (Am.right a len))):=by
 by_cases h1:len<0
 ·have R:=Z (Am.right_neg (a:=a) h1)
  have d1:=df (0<=len);go_enter Tryz.func79,Tryz.ntmps79;go_wp2_with fail;obtain ⟨c0,c1⟩:=ak4 w 28 a len;have hb:=aa0 w (.cells #[U a,I len] 28);generalize w.alloc (.cells #[U a,I len] 28)=w2 at*;have HB:=Z hb;clear hb;go_quiet ((go_at_call 110; exact Calls.quiet_of_same (ac9 _ G _)));go_wp2;go_ret;exact ⟨aa4 R.out.symm,ac8 HB.out _⟩
 ·by_cases h2:32<len
  ·have R:=Z (Am.right_big (a:=a) h2)
   have d1:=dT (0<=len);have d2:=df (len<=32);go_enter Tryz.func79,Tryz.ntmps79;go_wp2_with fail;obtain ⟨c0,c1⟩:=ak4 w 28 a len;have hb:=aa0 w (.cells #[U a,I len] 28);generalize w.alloc (.cells #[U a,I len] 28)=w2 at*;have HB:=Z hb;clear hb;go_quiet ((go_at_call 110; exact Calls.quiet_of_same (ac9 _ G _)));go_wp2;go_ret;exact ⟨aa4 R.out.symm,ac8 HB.out _⟩
  ·obtain ⟨n,rfl⟩:=Int.eq_ofNat_of_zero_le (by omega:0<=len)
   have hn:n<=32:=G
   have d1:=dT (0<=(n:Int));have d2:=dT ((n:Int)<=32);clear h1 h2;have R:=Z (Am.right_in (a:=a) hn);go_enter Tryz.func79,Tryz.ntmps79;go_wp2_with fail;obtain ⟨c0,c1⟩:=ak4 w 28 a (n:Int);have hb:=aa0 w (.cells #[U a,I (n:Int)] 28);generalize w.alloc (.cells #[U a,I (n:Int)] 28)=w2 at*;have HB:=Z hb;clear hb;go_region_held3 (fun w'=>w'.cell? (Y w.heap.size 0)=some (U a)/\w'.cell? (Y w.heap.size 1)=some (I (n:Int))) (go_keep)
    (first|(go_at_call 110; refine (ad2 _ G _).mono ?_; rintro e w' ⟨rfl,rfl⟩))
   go_wp2;go_ret;exact ⟨aa4 ((ao8 a n ha hn).trans R.out.symm),HB.out.drew⟩
end
section
open Go.ChangeShapes Go.WideShapes Go.ChangeAt Go.RowKit
section
variable {H:Type} {enc:TypeId×Value->H} {P:Program}
theorem ar1 (hl:laidOutB P=true) {W W':World} (hb:Below W.heap.size W W') {sp:Nat->Bool}:
  ∀ {ts:List TypeId} {vs:List Value} {ds:List (DataW H)} {ps:List MemPlace},(∀ t∈ts,P.readableRec t=true/\t<P.types.size)->
   DataW.TrodAll enc P W 0 (fun _=>true) true ts vs ds ps->(∀ x∈ps,x.block<W.heap.size)->(∀ x∈ps,sp x.block=true)->DataW.TrodAll enc P W' 0 sp true ts vs ds ps
 |[],vs,ds,ps,_,h,_,_=>by
  obtain ⟨rfl,rfl,rfl⟩:=trodAll_nil h;exact trodAll_mk0
 |t::ts,vs,ds,ps,hr,h,hlt,hs=>by
  obtain ⟨v,vs',d,ds',p,q,rfl,rfl,rfl,h0,h1⟩:=trodAll_cons h;have r:=hr t (List.mem_cons_self ..);exact trodAll_cons_mk (WideElems.Trod_stays hl r.1 r.2 h0 (fun x hx=>hb.same (hlt x (List.mem_append_left _ hx))) (fun x hx=>hs x (List.mem_append_left _ hx)))
   (ar1 hl hb (fun u hu=>hr u (List.mem_cons_of_mem _ hu)) h1 (fun x hx=>hlt x (List.mem_append_right _ hx)) (fun x hx=>hs x (List.mem_append_right _ hx)))
theorem di1 {f:Func} {s:ChangeSpec} {tb:TypeId} (hl:laidOutB P=true) (hr:∀ t∈f.params.toList,P.readableRec t=true/\t<P.types.size)
  (hres:f.resultTypes=#[tb]) (htb:P.underlying tb=some .bool) {W W':World} {args:Array Value} {ds gs:List (DataW H)} {before:List MemPlace}
  (hvars:s.vars=[]) (hfn:s.fn H ds={ results:=[.lit (.bool true)],args:=ds })
  (hW:DataW.Whole enc P f.params.toList s.vars false W args.toList ds gs before) (hb:Below W.heap.size W W'):
  s.post enc P f false true false false W args (O true) W':=by
 have hlt:∀ p∈before,p.block<W.heap.size:=fun p hp=>hW.lt p hp
 have hW0:=hW;obtain ⟨p,q,hA,hV,hpq,hz,_⟩:=hW;rw [hvars] at hV;obtain ⟨rfl,rfl⟩:=trodVars_none hV;simp only [List.append_nil] at hpq;subst hpq;refine ⟨ds,[],before,[],before,[],hW0,?_,?_,?_,World.keptBut_mono (fun x hx=>⟨hx,.inr (.inl hx)⟩) (hb.frame (·∈before)),fun h=>by cases h⟩
 ·rw [List.append_nil,hfn,hres]
  exact trodAll_mk1 (shut_bool htb _)
 ·rw [List.append_nil,hfn]
  exact ar1 hl hb hr hA hlt (fun x hx=>by simpa using hlt x hx)
 ·rw [List.append_nil,hfn,hvars]
  exact rfl
end
end
end Go.Proofs.YtafkfnodcemefaaGreat
