import Derived.Lib.Bytealg
import Derived.Test.YtpljkpnebibbaaaGreatDoorB01
import Derived.Test.YtpljkpnebibbaaaGreatDoorShelf
import Derived.Test.YtpljkpnebibbaaaGreatDoorCards
import Derived.Test.YtpljkpnebibbaaaGreatDoorTie
import Derived.Lib.SmallJoins
import Derived.LaidMore
import Derived.Deep.DeepHandedRow
import Derived.Lib.ItoaLen
import Derived.Room.AppendZeros
set_option maxHeartbeats 8000000
set_option maxRecDepth 100000
namespace Go.Proofs.YtpljkpnebibbaaaGreatDoor.Nm
open _root_.Go.Proofs.Tryz (prog)
section
end
end Go.Proofs.YtpljkpnebibbaaaGreatDoor.Nm
namespace Go.Proofs.YtpljkpnebibbaaaGreatDoor.Cm
open _root_.Go.Proofs.Tryz (prog)
section
open Go.Lib
def post (c:UInt8) (l:List UInt8):List UInt8:=(l.dropWhile (fun b=>!(b==c))).tail
end
end Go.Proofs.YtpljkpnebibbaaaGreatDoor.Cm
namespace Go.Proofs.YtpljkpnebibbaaaGreatDoor.Pm
open _root_.Go.Proofs.Tryz (prog)
section
def mark (k:Nat):UInt8:=if k=3 then 47 else 46
def rest (l:List UInt8):Nat->List UInt8
 |0=>l
 |k+1=>Cm.post (mark k) (rest l k)
end
end Go.Proofs.YtpljkpnebibbaaaGreatDoor.Pm
namespace Go.Proofs.YtpljkpnebibbaaaGreatDoor.Sm
open _root_.Go.Proofs.Tryz (prog)
section
open Go.Lib
variable {n:Nat}
def byte (a k:Nat):Nat:=a / 2 ^ (24 - 8*k) % 256
def upTo (a:Nat):Nat->List UInt8
 |0=>[]
 |k+1=>(if 0<k then upTo a k++[46] else upTo a k)++decDigits (byte a k)
def text (a n:Nat):List UInt8:=(upTo a 4++[47])++decDigits n
def str (a:Nat) (len:Int):List UInt8:=if Am.right a len then text a len.toNat else []
theorem dec1 (h:n<10):decDigits n=[UInt8.ofNat (48+n)]:=by unfold decDigits; rw [dif_pos h]
theorem dec2 (h1:10<=n) (h:n<100):decDigits n=[UInt8.ofNat (48+n / 10),UInt8.ofNat (48+n % 10)]:=by
 unfold decDigits; rw [dif_neg (by omega),dec1 (by omega)]; rfl
theorem dec3 (h1:100<=n) (h:n<1000):decDigits n=[UInt8.ofNat (48+n / 100),UInt8.ofNat (48+n / 10 % 10),UInt8.ofNat (48+n % 10)]:=by
 unfold decDigits; rw [dif_neg (by omega),dec2 (by omega) (by omega),Nat.div_div_eq_div_mul]; rfl
theorem byte_lt (a k:Nat):byte a k<256:=Nat.mod_lt _ (by decide)
theorem dec_len (h:n<1000):(decDigits n).length<=3:=by
 by_cases h1:n<10
 ·rw [dec1 h1]; simp
 ·by_cases h2:n<100
  ·rw [dec2 (by omega) h2]; simp
  ·rw [dec3 (by omega) h]; simp
theorem upTo_len (a:Nat):∀ k,(upTo a k).length<=4*k
 |0=>Nat.le_refl _
 |k+1=>by
  have h1:=upTo_len a k;have h2:=dec_len (n:=byte a k) (by have:=byte_lt a k; omega);unfold upTo;split<;>simp only [List.length_append,List.length_cons,List.length_nil]<;>omega
end
end Go.Proofs.YtpljkpnebibbaaaGreatDoor.Sm
namespace Go.Proofs.YtpljkpnebibbaaaGreatDoor
open _root_.Go.Proofs.Tryz (prog)
section
open Go.RowKit
def Tab (w:World):Prop:=Lib.TabIs prog w "internal/strconv.uint64pow10" .u64 Lib.pow10Tab
theorem Tab.held {w w':World} (h:Tab w) (hb:Below w.heap.size w w'):Tab w':=by
 unfold Tab Lib.TabIs World.var? at*
 cases hg:prog.globalNamed "internal/strconv.uint64pow10" with
 |none=>rw [hg] at h; cases h
 |some g=>
  rw [hg] at h;simp only [Option.bind_some] at h ⊢;have hlt:g<w.heap.size:=by
   rcases Nat.lt_or_ge g w.heap.size with h'|h'
   ·exact h'
   ·rw [Array.getElem?_eq_none h'] at h; cases h
  rw [hb.block g hlt];exact h
theorem ay6 (w:World) (k:Nat) (os:Array Obj):Below w.heap.size w (Sort.grow (w.drewN k) os):=
 ⟨rfl,rfl,rfl,by simp [Sort.grow,World.drewN],fun i hi=>by simp [Sort.grow,World.drewN,Array.getElem?_append,hi]⟩
theorem ct5 (n:Nat) (hn:n<=9223372036854775807) (w:World) (ht:Tab w):
  Calls prog 6 #[.int .i64 n] w fun e w'=>e= .returned (.string ⟨(Lib.decDigits n).toArray⟩)/\Below w.heap.size w w':=
 (Tryz.strconv_Itoa n (by omega) (by omega) w ht).mono fun _ _ ⟨he,k,os,hw⟩=>⟨by rw [he,Lib.itoa_nonneg],hw ▸ ay6 w k os⟩
def Told3 (n:Nat) (w:World) (e:Ending) (w':World):Prop:=∃ b:ByteArray,e= .returned (.string b)/\b.data.toList=Lib.decDigits n/\b.size<=3/\Below w.heap.size w w'
theorem av5 (n:Nat) (hn:n<1000) (w:World) (ht:Tab w):Calls prog 6 #[.int .i64 n] w (Told3 n w):=
 (ct5 n (by omega) w ht).mono fun _ _ ⟨he,hb⟩=>⟨_,he,rfl,Sm.dec_len hn,hb⟩
theorem cv4 (a k:Nat) (ha:a<4294967296):wrap64 (bits .and .u32 ((a:Int) / 2 ^ (24 - 8*k)) 255)=(Sm.byte a k:Nat):=by
 have e:((a:Int) / 2 ^ (24 - 8*k))=((a / 2 ^ (24 - 8*k):Nat):Int):=by simp [Int.natCast_ediv]
 rw [e,show (255:Int)=((255:Nat):Int) from rfl,u32_and_nat _ 255 (Nat.lt_of_le_of_lt (Nat.div_le_self _ _) ha) (by omega),nat_mask8];unfold Sm.byte;have:=Nat.mod_lt (a / 2 ^ (24 - 8*k)) (show 0<256 by omega);exact IntWalk.wrap64_in _ ⟨by omega,by omega⟩
theorem di4 {b:ByteArray}:b.data.toList.length=b.size:=by simp
theorem ao6 (a b:ByteArray):(a++b).data.toList=a.data.toList++b.data.toList:=by rw [ByteArray.data_append,Array.toList_append]
theorem bu0 (a b:ByteArray):(a++b).size=a.size+b.size:=ByteArray.size_append
theorem be7 (a n:Nat) (ha:a<4294967296) (hr:Am.right a n=true) (hn:n<=32) (w:World) (ht:Tab w):
  Calls prog 86 #[.agg #[.int .u32 a,.int .i64 n]] w fun e w'=>e= .returned (.string ⟨(Sm.text a n).toArray⟩)/\Below w.heap.size w w':=by
 have R:=Lib.hid hr;have HT:=Lib.hid ht;clear hr ht;go_enter Tryz.func86,Tryz.ntmps86;go_wp2_with fail;obtain ⟨c0,c1⟩:=ak4 w 25 a n;have hb:=aa0 w (.cells #[.int .u32 a,.int .i64 n] 25);generalize w.alloc _=w2 at*;have HB:=Lib.hid hb;clear hb;refine (an3 ha R.out _).mono ?_;rintro e w3 ⟨rfl,hb⟩;replace c0:=held hb c0; replace c1:=held hb c1;replace HB:=Lib.hid (next HB.out hb); clear hb;go_wp2_with fail;have K:=H2 c0 c1;clear c0 c1;go_loopw [3,8] (fun v i wr=>∃ (k:Nat) (t:ByteArray),i= .int .i64 k/\v= .string t/\k<=4/\t.data.toList=Sm.upTo a k/\(wr.cell? ⟨w.heap.size,0,none⟩=some (.int .u32 a)/\wr.cell? ⟨w.heap.size,1,none⟩=some (.int .i64 n))/\Below w.heap.size w wr) (fun _ i _=>4 - (intOf i).toNat)
 case atStart=>exact ⟨0,⟨#[]⟩,rfl,rfl,by omega,rfl,K.out,HB.out⟩
 case round=>
  clear K HB;obtain ⟨k,t,rfl,rfl,hk,htx,⟨c0,c1⟩,hb⟩:=hrel;have hsz:t.size<=16:=by
   have h1:=Sm.upTo_len a k;rw [<- htx] at h1;have h2:t.data.toList.length=t.size:=by simp
   omega
  have HX:=Lib.hid htx;have HB:=Lib.hid hb;clear htx hb;by_cases hlt:k<4
  ·have BV:=Lib.hid (cv4 a k ha)
   have hbl:=Sm.byte_lt a k;go_wp2_with fail
   ·have hk0:0<k:=by assumption
    rw [BV.out];refine (av5 (Sm.byte a k) (by omega) _ (HT.out.held HB.out)).mono ?_;rintro e w4 ⟨b,rfl,hbt,hbs,hb⟩;have BT:=Lib.hid hbt;replace c0:=held hb c0; replace c1:=held hb c1;replace HB:=Lib.hid (next HB.out hb);clear hb hbt;have hcat:(t++(⟨#[46]⟩:ByteArray)).size<=17:=by rw [bu0]; show t.size+1<=17; omega
    go_wp2_with fail;go_roundw
    case rel=>
     refine ⟨k+1,_,by go_num,rfl,by omega,?_,⟨c0,c1⟩,HB.out⟩;rw [ao6,ao6,HX.out,BT.out,Sm.upTo,if_pos hk0]
    case measure=>simp [intOf]; omega
   ·have hk0:¬ 0<k:=by assumption
    rw [BV.out];refine (av5 (Sm.byte a k) (by omega) _ (HT.out.held HB.out)).mono ?_;rintro e w4 ⟨b,rfl,hbt,hbs,hb⟩;have BT:=Lib.hid hbt;replace c0:=held hb c0; replace c1:=held hb c1;replace HB:=Lib.hid (next HB.out hb);clear hb hbt;go_wp2_with fail;go_roundw
    case rel=>
     refine ⟨k+1,_,by go_num,rfl,by omega,?_,⟨c0,c1⟩,HB.out⟩;rw [ao6,HX.out,BT.out,Sm.upTo,if_neg hk0]
    case measure=>simp [intOf]; omega
  ·obtain rfl:k=4:=by omega
   have hcat:(t++(⟨#[47]⟩:ByteArray)).size<=17:=by rw [bu0]; show t.size+1<=17; omega
   go_wp2_with fail;refine (av5 n (by omega) _ (HT.out.held HB.out)).mono ?_;rintro e w4 ⟨b,rfl,hbt,hbs,hb⟩;have BT:=Lib.hid hbt;replace HB:=Lib.hid (next HB.out hb);clear hb hbt;go_wp2_with fail;go_ret;refine ⟨af0 ?_,HB.out⟩;have e:(t++(⟨#[47]⟩:ByteArray)++b).data.toList=Sm.text a n:=by rw [ao6,ao6,HX.out,BT.out]; rfl
   rw [<- e]
theorem bv1 (a:Nat) (len:Int) (ha:a<4294967296) (hr:Am.right a len=false) (w:World):
  Calls prog 86 #[.agg #[.int .u32 a,.int .i64 len]] w fun e w'=>e= .returned (.string ⟨#[]⟩)/\Below w.heap.size w w':=by
 have R:=Lib.hid hr;clear hr;go_enter Tryz.func86,Tryz.ntmps86;go_wp2_with fail;refine (an3 ha R.out _).mono ?_;rintro e w3 ⟨rfl,hb⟩;have HB:=Lib.hid (next (aa0 w (.cells #[.int .u32 a,.int .i64 len] 25)) hb);clear hb;go_wp2_with fail;go_ret;exact ⟨rfl,HB.out⟩
theorem bv2 (a:Nat) (len:Int) (ha:a<4294967296) (w:World) (ht:Tab w):
  Calls prog 86 #[.agg #[.int .u32 a,.int .i64 len]] w fun e w'=>e= .returned (.string ⟨(Sm.str a len).toArray⟩)/\Below w.heap.size w w':=by
 cases hr:Am.right a len
 ·have e:Sm.str a len=[]:=by unfold Sm.str; rw [hr]; rfl
  rw [e];exact bv1 a len ha hr w
 ·obtain ⟨n,hn,rfl,-⟩:=right_len hr
  have e:Sm.str a n=Sm.text a n:=by unfold Sm.str; rw [hr]; simp
  rw [e];exact be7 a n ha hr hn w ht
end
section
open Go.ChangeShapes Go.WideShapes Go.ChangeAt Go.RowKit Go.Joins Go.Deep
set_option maxRecDepth 100000
theorem di5:ownKnob prog.godebug=none:=by kernel_rfl
theorem da6:laidOutB prog=true:=by kernel_rfl
theorem g_pow:prog.globalNamed "internal/strconv.uint64pow10" =some 0:=by kernel_rfl
theorem t_pow:(prog.globals[0]?).map (·.type)=some 170:=by kernel_rfl
theorem c_arr:prog.cellsOf 170=20:=by kernel_rfl
theorem c_u64:prog.cellsOf 123=1:=by kernel_rfl
theorem ca6 {W:World} (h:laidMetH prog Rows.wholeHandRow.laid W):Tab W:=by
 have h':laidMet prog Rows.wholeHandRow.laid W:=h;obtain ⟨ps,⟨_,_,_,_,_,_,_,_,_,_,⟨_,_,_,_,_,_,_,_,_,_,⟨g,t,cs,fuel,p,q,hg,ht,hv,hd,_,_⟩,_⟩,_⟩,_⟩:=h';obtain rfl:=Option.some.inj (g_pow.symm.trans hg);obtain rfl:=Option.some.inj (t_pow.symm.trans ht);unfold Tab Lib.TabIs;rw [hv,<- Lib.cells_of_tab (zs:=Lib.pow10Tab) Tryz.underlying170 Tryz.underlying123 c_u64 c_arr hd]
end
section
open Go.RowKit
variable {b g:Nat}{t:TypeId}
theorem ci6 {i:Int} (h1:-9223372036854775808<=i) (h2:i<=9223372036854775807):(Lit.int .i64 i).wf=true:=by
 have e1:IntKind.i64.min=-9223372036854775808:=rfl;have e2:IntKind.i64.max=9223372036854775807:=rfl;simp only [Lit.wf,Bool.and_eq_true,decide_eq_true_eq];omega
structure Turn (L:List Nat) (w w':World):Prop where
 os:w'.os=w.os
 tape:w'.tape=w.tape
 output:w'.output=w.output
 size:w.heap.size<=w'.heap.size
 block:∀ i,i<w.heap.size->i∉L->w'.heap[i]?=w.heap[i]?
section
variable {L:List Nat} {w w' w2:World}
theorem Turn.refl (L:List Nat) (w:World):Turn L w w:=⟨rfl,rfl,rfl,Nat.le_refl _,fun _ _ _=>rfl⟩
theorem Turn.trans (h:Turn L w w') (k:Turn L w' w2):Turn L w w2:=
 ⟨k.os.trans h.os,k.tape.trans h.tape,k.output.trans h.output,Nat.le_trans h.size k.size,fun i hi hn=>(k.block i (Nat.lt_of_lt_of_le hi h.size) hn).trans (h.block i hi hn)⟩
theorem Turn.of_below (L:List Nat) (h:Below w.heap.size w w'):Turn L w w':=⟨h.os,h.tape,h.output,h.size,fun i hi _=>h.block i hi⟩
theorem Turn.and_below (h:Turn L w w') (k:Below w'.heap.size w' w2):Turn L w w2:=h.trans (.of_below L k)
theorem Turn.of_grown (h:w.grownBy w' (some b)) (hb:b∈L):Turn L w w':=⟨h.os,h.tape,h.output,h.size,fun i hi hn=>h.block i hi (fun e=>hn (by cases e; exact hb))⟩
theorem Turn.below {B:Nat} (h:Turn L w w') (hL:∀ i,i∈L->B<=i) (hB:B<=w.heap.size):Below B w w':=
 ⟨h.os,h.tape,h.output,h.size,fun i hi=>h.block i (by omega) (fun hm=>by have:=hL i hm; omega)⟩
theorem Turn.mono {L':List Nat} (h:Turn L w w') (hL:∀ i,i∈L->i∈L'):Turn L' w w':=⟨h.os,h.tape,h.output,h.size,fun i hi hn=>h.block i hi (fun hm=>hn (hL i hm))⟩
theorem Turn.setCell (w:World) {p:Addr} (hp:p.block∈L) (u:Value):Turn L w (w.setCell p u):=
 ⟨rfl,rfl,rfl,by simp [World.setCell],fun i _ hn=>Below.heap_setCell _ _ _ _ (fun e=>hn (e ▸ hp))⟩
theorem Turn.alloc (h:Turn L w w') (o:Obj):Turn L w (w'.alloc o):=h.and_below (aa0 _ _)
theorem Turn.drew (h:Turn L w w'):Turn L w w'.drew:=⟨h.os,h.tape,h.output,h.size,h.block⟩
theorem Turn.fresh (h:Turn L w w') (k:Turn [g] w' w2) (hg:w.heap.size<=g):Turn L w w2:=
 ⟨k.os.trans h.os,k.tape.trans h.tape,k.output.trans h.output,Nat.le_trans h.size k.size,fun i hi hn=>(k.block i (Nat.lt_of_lt_of_le hi h.size) (by simp; omega)).trans (h.block i hi hn)⟩
theorem Turn.cell (h:Turn L w w') {a:Addr} {v:Value} (hc:w.cell? a=some v) (ha:a.block∉L):w'.cell? a=some v:=by
 rw [World.cell?_of_block (h.block _ (aw8 hc) ha)]; exact hc
theorem Blk.turn {cs:Array Value} (k:Blk t w g cs) (h:Turn L w w') (hg:g∉L):Blk t w' g cs:=(h.block g k.lt hg).trans k
end
theorem ae7 (b:Nat):∀ (vs:List Value) (o:Nat) (w:World) (i:Nat),i≠b->(w.setCells b o vs).heap[i]?=w.heap[i]?
 |[],_,_,_,_=>rfl
 |v::r,o,w,i,h=>by
  rw [World.setCells,ae7 b r (o+1) _ i h];exact Below.heap_setCell _ _ _ _ h
theorem setCells_size (b:Nat):∀ (vs:List Value) (o:Nat) (w:World),(w.setCells b o vs).heap.size=w.heap.size
 |[],_,_=>rfl
 |v::r,o,w=>by rw [World.setCells,setCells_size b r]; simp [World.setCell]
theorem ab8 (b:Nat):∀ (vs:List Value) (o:Nat) (w:World),(w.setCells b o vs).os=w.os/\(w.setCells b o vs).tape=w.tape/\(w.setCells b o vs).output=w.output
 |[],_,_=>⟨rfl,rfl,rfl⟩
 |v::r,o,w=>by rw [World.setCells]; exact ab8 b r (o+1) _
theorem Turn.setCells {L:List Nat} (w:World) {b:Nat} (hb:b∈L) (o:Nat) (vs:List Value):Turn L w (w.setCells b o vs):=
 ⟨(ab8 b vs o w).1,(ab8 b vs o w).2.1,(ab8 b vs o w).2.2,by rw [setCells_size]; exact Nat.le_refl _,fun i _ hn=>ae7 b vs o w i (fun e=>hn (e ▸ hb))⟩
def over (C:Array Value) (o:Nat):List Value->Array Value
 |[]=>C
 |v::r=>over (C.setIfInBounds o v) (o+1) r
theorem av0:∀ (vs:List Value) (C:Array Value) (o:Nat),(over C o vs).size=C.size
 |[],_,_=>rfl
 |v::r,C,o=>by rw [over,av0 r]; simp
theorem ah7:∀ (vs:List Value) (C:Array Value) (o:Nat),o+vs.length<=C.size->∀ k:Nat,(over C o vs)[k]?=if o<=k/\k<o+vs.length then vs[k - o]? else C[k]?
 |[],C,o,_,k=>by rw [over,if_neg (by simp)]
 |v::r,C,o,h,k=>by
  simp only [List.length_cons] at h;rw [over,ah7 r (C.setIfInBounds o v) (o+1) (by simp; omega)];by_cases h1:o+1<=k/\k<o+1+r.length
  ·rw [if_pos h1,if_pos (by simp only [List.length_cons]; omega)]
   have e:k - o=k - (o+1)+1:=by omega
   rw [e,List.getElem?_cons_succ]
  ·rw [if_neg h1,Array.getElem?_setIfInBounds]
   by_cases h2:o=k
   ·subst h2
    rw [if_pos rfl,if_pos (by omega),if_pos (by simp only [List.length_cons]; omega)];simp
   ·rw [if_neg h2,if_neg (by simp only [List.length_cons]; omega)]
theorem Blk.setCells :∀ (vs:List Value) (o:Nat) (w:World) (C:Array Value),Blk t w b C->Blk t (w.setCells b o vs) b (over C o vs)
 |[],_,_,_,h=>h
 |v::r,o,w,C,h=>by
  rw [World.setCells,over];exact Blk.setCells r (o+1) _ _ (h.store o v)
def sec (s:List UInt8):List Value:=s.map fun b=> .int .u8 (b.toNat:Int)
theorem aa8 (s:List UInt8):(sec s).length=s.length:=by simp [sec]
theorem ba3 (s:List UInt8) (j:Nat):(sec s)[j]?=(s[j]?).map fun b=> .int .u8 (b.toNat:Int):=by simp [sec]
theorem ai7 (s:List UInt8):∀ v∈sec s,v.oneCell'=true:=by
 intro v hv;obtain ⟨b,_,rfl⟩:=List.mem_map.1 hv;rfl
end
section
open Go.RowKit Go.Maps
structure Elem {α:Type} (P:Program) (t e:TypeId) (cl:α->List Value) (k bytes:Nat):Prop where
 ht:P.underlying t=some (.slice e)
 info:∃ i z,P.info? e=some i/\i.zero=some z/\i.size=k/\i.bytes=bytes/\z.cells.size=k
 pos:0<k
 len:∀ x,(cl x).length=k
 one:∀ x,∀ v∈cl x,v.oneCell'=true
 small:bytes<=1000
theorem ae2 {P:Program} {e:TypeId} {z:Value} {k b:Nat} (h:(P.info? e).map (fun i=>(i.zero,i.size,i.bytes))=some (some z,k,b)) (hz:z.cells.size=k):∃ i z,P.info? e=some i/\i.zero=some z/\i.size=k/\i.bytes=b/\z.cells.size=k:=by
 cases hi:P.info? e with
 |none=>rw [hi] at h; cases h
 |some i=>
  rw [hi] at h;simp only [Option.map_some,Option.some.injEq,Prod.mk.injEq] at h;exact ⟨i,z,rfl,h.1,h.2.1,h.2.2,hz⟩
section
variable {α:Type} {P:Program} {t e:TypeId} {cl:α->List Value} {k bytes:Nat}
theorem aa9 (hk:∀ x,(cl x).length=k) (xs:List α):(xs.flatMap cl).length=xs.length*k:=by
 induction xs with
 |nil=>simp
 |cons x r ih=>rw [List.flatMap_cons,List.length_append,ih,hk,List.length_cons,Nat.add_mul,Nat.one_mul,Nat.add_comm]
theorem ai1 (hk:∀ x,(cl x).length=k):∀ (xs:List α) (i:Nat) (h:i<xs.length) (j:Nat),j<k->(xs.flatMap cl)[i*k+j]?=(cl xs[i])[j]?
 |[],i,h,_,_=>by simp at h
 |x::r,0,h,j,hj=>by
  rw [List.flatMap_cons,Nat.zero_mul,Nat.zero_add,List.getElem?_append_left (by rw [hk]; exact hj)];rfl
 |x::r,i+1,h,j,hj=>by
  rw [List.flatMap_cons,List.getElem?_append_right (by rw [hk,Nat.add_mul]; omega),hk,show (i+1)*k+j - k=i*k+j by rw [Nat.add_mul]; omega];rw [ai1 hk r i (by simpa using h) j hj];rfl
def Ol (e:TypeId) (cl:α->List Value) (k:Nat) (B:Nat) (v:Value) (xs:List α) (W:World):Prop:=W.ownsRow B e k v xs.length (xs.flatMap cl)
variable {B:Nat} {v:Value} {xs:List α} {W W':World}
theorem Ol.nil (B:Nat) (W:World):Ol e cl k B (.slice none 0 0) [] W:=⟨by simp,.inl ⟨rfl,rfl⟩⟩
theorem Ol.of_block (h:Ol e cl k B v xs W) (hb:∀ b,v.ownBlock=some b->W'.heap[b]?=W.heap[b]?):Ol e cl k B v xs W':=by
 obtain ⟨h1,h2⟩:=h;refine ⟨h1,?_⟩;rcases h2 with h2|⟨g,cap,cur,rfl,h4,h5,h6⟩
 ·exact .inl h2
 ·exact .inr ⟨g,cap,cur,rfl,h4,(hb g rfl).trans h5,h6⟩
theorem Ol.lt (h:Ol e cl k B v xs W) {b:Nat} (hb:v.ownBlock=some b):b<W.heap.size/\B<=b:=by
 rcases h.2 with ⟨rfl,_⟩|⟨g,cap,cur,rfl,h4,h5,_⟩
 ·cases hb
 ·cases hb
  exact ⟨(Array.getElem?_eq_some_iff.1 h5).1,h4⟩
theorem Ol.held (h:Ol e cl k B v xs W) (hb:Below W.heap.size W W'):Ol e cl k B v xs W':=h.of_block fun b e=>hb.block b (h.lt e).1
theorem Ol.turn {L:List Nat} (h:Ol e cl k B v xs W) (t:Turn L W W') (hL:∀ b,v.ownBlock=some b->b∉L):Ol e cl k B v xs W':=h.of_block fun b e=>t.block b (h.lt e).1 (hL b e)
theorem Ol.drew (h:Ol e cl k B v xs W):Ol e cl k B v xs W.drew:=h
theorem Ol.mono (h:Ol e cl k B v xs W) {B':Nat} (hB:B'<=B):Ol e cl k B' v xs W:=by
 obtain ⟨h1,h2⟩:=h;refine ⟨h1,?_⟩;rcases h2 with h2|⟨g,cap,cur,rfl,h4,h5⟩
 ·exact .inl h2
 ·exact .inr ⟨g,cap,cur,rfl,Nat.le_trans hB h4,h5⟩
theorem Ol.form (h:Ol e cl k B v xs W):∃ p cap,v= .slice p xs.length cap/\xs.length<=cap:=by
 rcases h.2 with ⟨rfl,h0⟩|⟨g,cap,cur,rfl,_,_,h6,_⟩
 ·exact ⟨none,0,by rw [h0],by omega⟩
 ·exact ⟨_,cap,rfl,h6⟩
theorem Ol.at_ (hk:∀ x,(cl x).length=k) (h:Ol e cl k B v xs W) {i:Nat} (hi:i<xs.length):∃ g cap,v= .slice (some ⟨g,0,none⟩) xs.length cap/\xs.length<=cap/\cap<=maxLen/\∀ j,j<k->W.cell? ⟨g,i*k+j,none⟩=(cl xs[i])[j]?:=by
 rcases h.2 with ⟨rfl,h0⟩|⟨g,cap,cur,rfl,h4,h5,h6,h7,h8,h9⟩
 ·omega
 ·refine ⟨g,cap,rfl,h6,h7,fun j hj=>?_⟩
  have h5':Blk e W g cur:=h5;rw [h5'.at_,<- ai1 hk xs i hi j hj,<- h9,List.getElem?_take,if_pos]
  ·simp
  ·have:=Nat.mul_le_mul_right k (show i+1<=xs.length from hi)
   rw [Nat.add_mul,Nat.one_mul] at this;omega
theorem Ol.push (E:Elem P t e cl k bytes) (h:Ol e cl k B v xs W) (hB:B<=W.heap.size) {ad:Addr} {c:Nat} (x:α) (hx:∀ j u,(cl x)[j]?=some u->W.cell? (ad.add j)=some u) (hbig:xs.length<=1000000) (ty:TypeId):
  ∃ g' cap' W',(Builtin.append_ #[t,t] ty #[v,.slice (some ad) 1 c]).run P W= .ok (.slice (some ⟨g',0,none⟩) (xs.length+1) cap') W'/\Ol e cl k B (.slice (some ⟨g',0,none⟩) (xs.length+1) cap') (xs++[x]) W'/\W.grownBy W' v.ownBlock/\(v.ownBlock=some g'\/g'=W.heap.size):=by
 obtain ⟨i0,z,hi,hz0,hz1,hz2,hz3⟩:=E.info;obtain ⟨v',W',hr,hown,hgr,hnil,hat⟩:=run_append_own_at (P:=P) W B t ty e i0 z k bytes E.ht hi hz0 hz1 hz2 hz3 E.pos v xs.length (xs.flatMap cl) h ad 1 c (cl x) (by rw [E.len,Nat.one_mul]) hx (E.one x)
  (by unfold maxLen; omega) (by have h1:=E.small; have:=Nat.mul_le_mul (show xs.length+1<=1000001 by omega) h1; omega) hB
 have hne:¬ v'= .slice none 0 0:=fun e=>by have:=(hnil.1 e).2; omega
 rcases hown.2 with ⟨rfl,_⟩|⟨g',cap',cur,rfl,h4,h5,h6,h7,h8,h9⟩
 ·exact absurd rfl hne
 ·have e1:(xs++[x]).flatMap cl=xs.flatMap cl++cl x:=by simp
  have e2:(xs++[x]).length=xs.length+1:=by simp
  refine ⟨g',cap',W',hr,⟨by rw [e1,e2]; exact hown.1,.inr ⟨g',cap',cur,by rw [e2],h4,h5,by rw [e2]; exact h6,h7,h8,by rw [e1,e2]; exact h9⟩⟩,hgr,?_⟩;rcases hat with h|h
  ·exact .inl (h.symm.trans rfl)
  ·exact .inr (by simpa [Value.ownBlock] using h)
theorem Ol.push1 (E:Elem P t e cl k bytes) (h:Ol e cl k B v xs W) (hB:B<=W.heap.size) (x:α) (hbig:xs.length<=1000000) (ty:TypeId):
  ∃ g' cap' W',(Builtin.append_ #[t,t] ty #[v,.slice (some ⟨W.heap.size,0,none⟩) 1 1]).run P (W.alloc (.cells (cl x).toArray e))= .ok (.slice (some ⟨g',0,none⟩) (xs.length+1) cap') W'/\Ol e cl k B (.slice (some ⟨g',0,none⟩) (xs.length+1) cap') (xs++[x]) W'/\Turn v.ownBlock.toList W W'/\(v.ownBlock=some g'\/W.heap.size<g'):=by
 have hb:=aa0 W (.cells (cl x).toArray e);have hX:=Blk.new W e (cl x).toArray;have h5:=h.held hb;have hs:=aa1 W (.cells (cl x).toArray e);obtain ⟨g',cap',W6,hrun,h6,hg6,hat⟩:=Ol.push E h5 (Nat.le_trans hB hb.size) (ad:=⟨W.heap.size,0,none⟩) (c:=1) x (fun jj vv hv=>by
  rw [Addr.add_mid,Nat.zero_add,hX.at_ jj];simpa using hv) hbig ty
 refine ⟨g',cap',W6,hrun,h6,⟨hg6.os.trans hb.os,hg6.tape.trans hb.tape,hg6.output.trans hb.output,Nat.le_trans hb.size hg6.size,fun i hi hn=>?_⟩,?_⟩
 ·refine (hg6.block i (by omega) (fun e=>?_)).trans (hb.block i hi)
  rw [<- e] at hn;simp at hn
 ·rcases hat with h|h
  ·exact .inl h
  ·exact .inr (by omega)
theorem own_below (h:Ol e cl k B v xs W) {w0:World} (h0:Below B w0 W) (hB:B<=W.heap.size) (T:Turn v.ownBlock.toList W W'):Below B w0 W':=
 h0.trans (T.below (B:=B) (fun i hi=>by
  have:v.ownBlock=some i:=by simpa using hi
  exact (h.lt this).2) hB)
end
end
section
open Go.RowKit
variable {fuel i:Nat}{l:List Oper}{a:Act}{w:World}{o:Oper}
section
variable {P:Program} {Q:Exit->Act->World->Prop} {md:Region.Mode} {S:World->Prop}
theorem aq4 {α:Type} {l rest:List α} {o:α} (h:l.drop i=o::rest):l.toArray[i]?=some o:=by
 have e:(l.drop i)[0]?=some o:=by rw [h]; rfl
 rw [List.getElem?_drop] at e;simpa using e
theorem aa6 {rest:List Oper} {oi:Oper} {v:Value} {listed:Array Bool} (hi:l.drop i=oi::rest)
  (hs:Region.noSelect l.toArray=true) (hf:Region.free md l.toArray listed i=true) (hr:(Region.ready md l.toArray listed).contains i=true)
  (hQ:∀ c a w,Q (.panic c) (a.put oi.dst v) w->Q (.panic c) a w) (hy:YieldsIf P l.toArray S oi v a) (hS:S w)
  (h:wpAnyH P md l.toArray Q S fuel (listed.setIfInBounds i true) (a.put oi.dst v) w):wpAnyH P md l.toArray Q S (fuel+1) listed a w:=
 wpAnyH_take (aq4 hi) hs hf hr hQ hy hS h
theorem bw6 {rest:List Oper} {listed:Array Bool} (ho:l.drop i=o::rest) (hr:Region.ready md l.toArray listed=[i])
  (h:∀ K':Act->World->Prop,Shut (∀ a w,S w->(S w->wpAnyH P md l.toArray Q S fuel (listed.setIfInBounds i true) a w)->K' a w)->if Region.wanted o (yielded l.toArray a.tmps)=true then Oper.wp P o a w K' Q else K' (a.put o.dst undef) w):
  wpAnyH P md l.toArray Q S (fuel+1) listed a w:=
 wpAnyH_ready hr (by simp) (AllReadyH.cons (aq4 ho) h AllReadyH.nil)
theorem tk {rest:List Oper} (i:Nat) {oi:Oper} (v:Value) {fuel:Nat} {listed:Array Bool} {a:Act} {w:World} (hi:l.drop i=oi::rest) (hS:S w)
 (h:wpAnyH P md l.toArray Q S fuel (listed.setIfInBounds i true) (a.put oi.dst v) w)
 (hs:Region.noSelect l.toArray=true:=by kernel_rfl) (hf:Region.free md l.toArray listed i=true:=by kernel_rfl) (hr:(Region.ready md l.toArray listed).contains i=true:=by kernel_rfl)
 (hQ:∀ c a w,Q (.panic c) (a.put oi.dst v) w->Q (.panic c) a w:=by exact fun _ _ _ h=>h) (hy:YieldsIf P l.toArray S oi v a:=by exact .inl ⟨rfl,by intro w hSw; go_simp⟩):wpAnyH P md l.toArray Q S (fuel+1) listed a w:=
 aa6 hi hs hf hr hQ hy hS h
theorem rl {rest:List Oper} {listed:Array Bool} (i:Nat) {o:Oper} (ho:l.drop i=o::rest)
 (h:∀ K':Act->World->Prop,Shut (∀ a w,S w->(S w->wpAnyH P md l.toArray Q S fuel (listed.setIfInBounds i true) a w)->K' a w)->if Region.wanted o (yielded l.toArray a.tmps)=true then Oper.wp P o a w K' Q else K' (a.put o.dst undef) w)
 (hr:Region.ready md l.toArray listed=[i]:=by kernel_rfl):wpAnyH P md l.toArray Q S (fuel+1) listed a w:=
 bw6 ho hr h
theorem ad8 {rest rest':List Oper} {listed:Array Bool} {i':Nat} {o':Oper} (ho:l.drop i=o::rest) (ho':l.drop i'=o'::rest') (hr:Region.ready md l.toArray listed=[i,i'])
  (h:∀ K':Act->World->Prop,Shut (∀ a w,S w->(S w->wpAnyH P md l.toArray Q S fuel (listed.setIfInBounds i true) a w)->K' a w)->if Region.wanted o (yielded l.toArray a.tmps)=true then Oper.wp P o a w K' Q else K' (a.put o.dst undef) w)
  (h':∀ K':Act->World->Prop,Shut (∀ a w,S w->(S w->wpAnyH P md l.toArray Q S fuel (listed.setIfInBounds i' true) a w)->K' a w)->if Region.wanted o' (yielded l.toArray a.tmps)=true then Oper.wp P o' a w K' Q else K' (a.put o'.dst undef) w):
  wpAnyH P md l.toArray Q S (fuel+1) listed a w:=
 wpAnyH_ready hr (by simp) (AllReadyH.cons (aq4 ho) h (AllReadyH.cons (aq4 ho') h' AllReadyH.nil))
end
end
section
open Go.RowKit
attribute [local go_sem] Oper.semAt_some
variable {w:World}{T:TypeId}{v:Value}{s:ByteArray}{z:Int}
def hW (z:Int):ByteArray:=if z=0 then ⟨#[110,111,110,101]⟩ else if z=1 then ⟨#[104,101,114,101]⟩ else if z=2 then ⟨#[118,105,97]⟩ else if z=3 then ⟨#[100,114,111,112]⟩ else ⟨#[]⟩
theorem bs9 (z:Int) (w:World):Calls prog 85 #[.int .i64 z] w fun e w'=>e= .returned (.string (hW z))/\Below w.heap.size w w':=by
 by_cases h0:z<0
 ·have d0:decide (z<0)=true:=decide_eq_true h0
  have E:=Lib.hid (show hW z=⟨#[]⟩ by unfold hW; rw [if_neg (by omega),if_neg (by omega),if_neg (by omega),if_neg (by omega)]);have hb:=Lib.hid (aa0 w (.cells #[.string ⟨#[110,111,110,101]⟩,.string ⟨#[104,101,114,101]⟩,.string ⟨#[118,105,97]⟩,.string ⟨#[100,114,111,112]⟩] 223));go_enter Tryz.func85,Tryz.ntmps85;go_wp2_with fail;go_ret;exact ⟨af0 E.out.symm,hb.out⟩
 by_cases h4:(4:Int)<=z
 ·have d0:decide (z<0)=false:=decide_eq_false h0
  have d4:decide ((4:Int)<=z)=true:=decide_eq_true h4;have E:=Lib.hid (show hW z=⟨#[]⟩ by unfold hW; rw [if_neg (by omega),if_neg (by omega),if_neg (by omega),if_neg (by omega)]);have hb:=Lib.hid (aa0 w (.cells #[.string ⟨#[110,111,110,101]⟩,.string ⟨#[104,101,114,101]⟩,.string ⟨#[118,105,97]⟩,.string ⟨#[100,114,111,112]⟩] 223));go_enter Tryz.func85,Tryz.ntmps85;go_wp2_with fail;go_ret;exact ⟨af0 E.out.symm,hb.out⟩
 ·have hz:z=0\/z=1\/z=2\/z=3:=by omega
  have HB:=Blk.new w 223 #[.string ⟨#[110,111,110,101]⟩,.string ⟨#[104,101,114,101]⟩,.string ⟨#[118,105,97]⟩,.string ⟨#[100,114,111,112]⟩];have c0:=HB.at_ 0;have c1:=HB.at_ 1;have c2:=HB.at_ 2;have c3:=HB.at_ 3;have hb:=Lib.hid (aa0 w (.cells #[.string ⟨#[110,111,110,101]⟩,.string ⟨#[104,101,114,101]⟩,.string ⟨#[118,105,97]⟩,.string ⟨#[100,114,111,112]⟩] 223));clear HB h0 h4;rcases hz with rfl|rfl|rfl|rfl
  all_goals
   go_enter Tryz.func85,Tryz.ntmps85;go_wp2_with fail;go_ret;exact ⟨rfl,hb.out⟩
theorem cc6 (s:ByteArray) (w:World):Calls prog 289 #[.string s] w fun e w'=>e= .returned (.string s)/\Below w.heap.size w w':=by
 go_enter Tryz.func289,Tryz.ntmps289;go_wp2_with fail;go_ret;exact ⟨rfl,.refl _ _⟩
theorem bl5 (n:Int) (h0:-9223372036854775808<=n) (h1:n<=9223372036854775807) (w:World) (ht:Tab w):Calls prog 290 #[.int .i64 n] w fun e w'=>e= .returned (.string ⟨(Lib.itoa n).toArray⟩)/\Below w.heap.size w w':=by
 have HF:Calls prog 291 #[.int .i64 n,.int .i64 10] w fun e w'=>e= .returned (.string ⟨(Lib.itoa n).toArray⟩)/\Below w.heap.size w w':=(Tryz.strconv_FormatInt_10 n h0 h1 w ht).mono fun _ _ ⟨he,k,os,hw⟩=>⟨he,hw ▸ ay6 w k os⟩
 clear ht h0 h1;go_enter Tryz.func290,Tryz.ntmps290;go_wp2_with fail;refine HF.mono ?_;rintro e w2 ⟨rfl,hb⟩;have HB:=Lib.hid hb;clear hb HF;go_wp2_with fail;go_ret;exact ⟨rfl,HB.out⟩
def eW (z:Int):ByteArray:=if z=0 then ⟨#[111,107]⟩ else if z=1 then ⟨#[97,114,103]⟩ else if z=2 then ⟨#[110,111,110,101]⟩ else if z=3 then ⟨#[115,116,97,116,101]⟩ else if z=4 then ⟨#[105,111]⟩ else if z=5 then ⟨#[102,117,108,108]⟩ else if z=6 then ⟨#[102,111,114,109]⟩ else ⟨#[109,97,110,121]⟩
theorem by6 (z:Int) (h0:0<=z) (h7:z<=7) (w:World):Calls prog 288 #[.int .i64 z] w fun e w'=>e= .returned (.string (eW z))/\Below w.heap.size w w':=by
 have hz:z=0\/z=1\/z=2\/z=3\/z=4\/z=5\/z=6\/z=7:=by omega
 have HB:=Blk.new w 384 #[.string ⟨#[111,107]⟩,.string ⟨#[97,114,103]⟩,.string ⟨#[110,111,110,101]⟩,.string ⟨#[115,116,97,116,101]⟩,.string ⟨#[105,111]⟩,.string ⟨#[102,117,108,108]⟩,.string ⟨#[102,111,114,109]⟩,.string ⟨#[109,97,110,121]⟩];have c0:=HB.at_ 0;have c1:=HB.at_ 1;have c2:=HB.at_ 2;have c3:=HB.at_ 3;have c4:=HB.at_ 4;have c5:=HB.at_ 5;have c6:=HB.at_ 6;have c7:=HB.at_ 7;have hb:=Lib.hid (aa0 w (.cells #[.string ⟨#[111,107]⟩,.string ⟨#[97,114,103]⟩,.string ⟨#[110,111,110,101]⟩,.string ⟨#[115,116,97,116,101]⟩,.string ⟨#[105,111]⟩,.string ⟨#[102,117,108,108]⟩,.string ⟨#[102,111,114,109]⟩,.string ⟨#[109,97,110,121]⟩] 384));clear HB h0 h7;rcases hz with rfl|rfl|rfl|rfl|rfl|rfl|rfl|rfl
 all_goals
  go_enter Tryz.func288,Tryz.ntmps288;go_wp2_with fail;go_ret;exact ⟨rfl,hb.out⟩
structure Wordy (w:World) (T:TypeId) (v:Value) (s:ByteArray):Prop where
 ex:∃ f,(∀ w',Sem.run prog (method (prog.types.size+Made.depth) T v "Word") w'= .ok (f,v) w')/\(∀ args w',(callFunc f args).run prog w'= .ok (.enter f args) w')/\∀ W,Below w.heap.size w W->Calls prog f #[v] W fun e w'=>e= .returned (.string s)/\Below W.heap.size W w'
theorem Wordy.held {w':World} (h:Wordy w T v s) (hb:Below w.heap.size w w'):Wordy w' T v s:=by
 obtain ⟨f,h1,h2,h3⟩:=h.ex;exact ⟨f,h1,h2,fun W hW=>h3 W (next hb hW)⟩
theorem ab4 (w:World) (s:ByteArray):Wordy w 58 (.string s) s:=⟨289,fun _=>by kernel_rfl,fun _ _=>by kernel_rfl,fun W _=>cc6 s W⟩
theorem bd9 (w:World) (z:Int):Wordy w 178 (.int .i64 z) (hW z):=⟨85,fun _=>by kernel_rfl,fun _ _=>by kernel_rfl,fun W _=>bs9 z W⟩
theorem ac5 (w:World) (n:Int) (h0:-9223372036854775808<=n) (h1:n<=9223372036854775807) (ht:Tab w):Wordy w 59 (.int .i64 n) ⟨(Lib.itoa n).toArray⟩:=⟨290,fun _=>by kernel_rfl,fun _ _=>by kernel_rfl,fun W hb=>bl5 n h0 h1 W (ht.held hb)⟩
theorem as9 (w:World) (z:Int) (h0:0<=z) (h7:z<=7):Wordy w 34 (.int .i64 z) (eW z):=⟨288,fun _=>by kernel_rfl,fun _ _=>by kernel_rfl,fun W _=>by6 z h0 h7 W⟩
def lineS (ws:List ByteArray):ByteArray:=⟨(Lib.join (ws.map (·.data.toList)) [32]).toArray⟩
theorem cc7:∃ i,prog.info? 9=some i/\i.zero=some (.string ⟨#[]⟩)/\i.size=1/\i.bytes=16:=by
 have h:(prog.info? 9).map (fun i=>(i.zero,i.size,i.bytes))=some (some (.string ⟨#[]⟩),1,16):=by kernel_rfl
 exact info_parts h
def emptyS (n:Nat):Array Value:=madeCells #[.string ⟨#[]⟩] n
theorem aw3 (n:Nat):(emptyS n).size=n:=size_madeCells _ _
theorem ar8 (n:Nat) (hn:n<=512) (w:World):(Instr.makeSlice 31 (.int .i64 (n:Int)) (.int .i64 (n:Int))).run prog w= .ok (.slice (some ⟨w.heap.size,0,none⟩) n n) (w.alloc (.cells (emptyS n) 9)):=by
 obtain ⟨i,h1,h2,h3,h4⟩:=cc7;have h:=run_make (P:=prog) w 31 9 i _ (by kernel_rfl) h1 h2 .i64 .i64 (n:Int) (n:Int) (by omega) (by omega) (by rw [h4]; omega) (by omega);simpa [h3,emptyS,Value.cells] using h
structure Laid (w:World) (W:Nat) (n:Nat) (ws:List ByteArray) (k:Nat) (wr:World):Prop where
 blk:∃ C,Blk 9 wr W C/\C.size=n/\(∀ j s,ws[j]?=some s->j<k->C[j]?=some (.string s))/\∀ j,j<n->∃ s,C[j]?=some (.string s)
 below:Below w.heap.size w wr
 le:w.heap.size<=W
theorem Laid.next {wr w2:World} {W n k:Nat} {ws:List ByteArray} (h:Laid w W n ws k wr) (hb:Below wr.heap.size wr w2) (hk:k<n) {s:ByteArray} (hs:ws[k]?=some s):Laid w W n ws (k+1) (w2.setCell ⟨W,k,none⟩ (.string s)):=by
 obtain ⟨C,h1,h2,h3,h4⟩:=h.blk;refine ⟨⟨_,(h1.held hb).store k (.string s),by rw [Array.size_setIfInBounds,h2],fun j s' hj hjk=>?_,fun j hj=>?_⟩,(h.below.trans (hb.mono h.below.size)).setCell h.le _,h.le⟩
 ·rw [Array.getElem?_setIfInBounds]
  by_cases e:k=j
  ·subst e
   rw [hs] at hj
   cases hj;rw [if_pos rfl,if_pos (by omega)]
  ·rw [if_neg e]
   exact h3 j s' hj (by omega)
 ·rw [Array.getElem?_setIfInBounds]
  by_cases e:k=j
  ·subst e
   rw [if_pos rfl,if_pos (by omega)];exact ⟨s,rfl⟩
  ·rw [if_neg e]
   exact h4 j hj
theorem bc6 (w:World) (pb c:Nat) (parts:List (TypeId×Value)) (ws:List ByteArray) (n:Nat) (hn:parts.length=n) (hw:ws.length=n) (hcells:∀ (j:Nat) (p:TypeId×Value),parts[j]?=some p->w.cell? ⟨pb,j,none⟩=some (.iface p.1 p.2)) (hc:n<=c) (h8:n<=8)
  (hW:∀ (j:Nat) (p:TypeId×Value) (s:ByteArray),parts[j]?=some p->ws[j]?=some s->Wordy w p.1 p.2 s) (hlen:(Lib.join (ws.map (·.data.toList)) [32]).length<=140737488355328):
  Calls prog 21 #[.slice (some ⟨pb,0,none⟩) n c] w fun e w'=>e= .returned (.string (lineS ws))/\Below w.heap.size w w':=by
 have hmk:=ar8 n (by omega) w;have hb0:=aa0 w (.cells (emptyS n) 9);have hB0:=Blk.new w 9 (emptyS n);have L0:Laid w w.heap.size n ws 0 (w.alloc (.cells (emptyS n) 9)):=⟨⟨_,hB0,aw3 n,fun j s _ h=>by omega,fun j hj=>⟨⟨#[]⟩,by
  rw [Array.getElem?_eq_getElem (by rw [aw3]; exact hj)];simp [emptyS,madeCells,Nat.mod_one]⟩⟩,hb0,Nat.le_refl _⟩
 have hpb:∀ j p,parts[j]?=some p->pb<w.heap.size:=fun j p hj=>aw8 (hcells j p hj)
 have H:=H6 hn hw hcells hW hlen hpb;have HL:=Lib.hid L0;clear hn hw hcells hW hlen L0 hb0 hB0 hpb;go_enter Tryz.func21,Tryz.ntmps21;go_wp2_with fail;clear hmk;generalize w.alloc _=w1 at*;go_loopw [11] (fun ix wr=>∃ k:Nat,ix= .int .i64 k/\k<=n/\Hid (Laid w w.heap.size n ws k wr)) (fun ix _=>n - (intOf ix).toNat)
 case atStart=>exact ⟨0,rfl,by omega,HL⟩
 case round=>
  clear HL;obtain ⟨k,rfl,hk,hB⟩:=hrel;by_cases hkn:k<n
  ·have hin:(k:Int)<(n:Int):=by omega
   obtain ⟨⟨T,v⟩,hp⟩:∃ p,parts[k]?=some p:=⟨_,List.getElem?_eq_getElem (by rw [H.out.1]; exact hkn)⟩;obtain ⟨s,hs⟩:∃ s,ws[k]?=some s:=⟨_,List.getElem?_eq_getElem (by rw [H.out.2.1]; exact hkn)⟩;have hWd:=(H.out.2.2.2.1 k _ s hp hs).held hB.out.below;obtain ⟨f,m1,m2,hC⟩:=hWd.ex;have c0:wr.cell? ⟨pb,k,none⟩=some (.iface T v):=held hB.out.below (H.out.2.2.1 k _ hp);have hC1:=hC wr (.refl _ _);obtain ⟨C,q1,q2,q3,q4⟩:=hB.out.blk;obtain ⟨s0,hs0⟩:=q4 k hkn;have X:=H2 hs hB.out;have d0:wr.cell? ⟨w.heap.size,k,none⟩=some (.string s0):=(q1.at_ k).trans hs0;have f0:wr.frozen? ⟨w.heap.size,k,none⟩=false:=q1.free k;have hF:∀ w2,Below wr.heap.size wr w2->w2.cell? ⟨w.heap.size,k,none⟩=some (.string s0)/\w2.frozen? ⟨w.heap.size,k,none⟩=false:=fun w2 hb=>⟨held hb d0,(q1.held hb).free k⟩
   have HF:=Lib.hid hF;have mW:∀ w,Sem.run prog (method 485 T v "Word") w= .ok (f,v) w:=m1;clear hWd hC q1 q2 q3 q4 hs0 hp hs hB d0 f0 hF m1;go_wp2_with (go_at_fn f; refine hC1.mono ?_; rintro e w2 ⟨rfl,hb2⟩; have d0:=(HF.out _ hb2).1; have f0:=(HF.out _ hb2).2; have R:=Lib.hid (X.out.2.next hb2 hkn X.out.1));clear hC1 HF X c0;try go_wp2_with fail
   go_roundw
   case rel=>exact ⟨k+1,by go_num,by omega,R⟩
   case measure=>simp [intOf]; omega
  ·obtain rfl:k=n:=by omega
   obtain ⟨C,q1,q2,q3,q4⟩:=hB.out.blk;have HJ:=Tryz.strings_Join w.heap.size 0 k ws ⟨#[32]⟩ wr (fun j x hj=>by
    rw [Nat.zero_add,q1.at_];exact q3 j x hj (by rw [<- H.out.2.1]; obtain ⟨h,_⟩:=List.getElem?_eq_some_iff.1 hj; exact h)) q1.lt (by rw [H.out.2.1]; omega) (by rw [H.out.2.1]; exact Nat.le_refl _) (by simpa using H.out.2.2.2.2.1)
   rw [H.out.2.1] at HJ;replace HJ:Calls prog 36 #[.slice (some ⟨w.heap.size,0,none⟩) k k,.string ⟨#[32]⟩] wr fun e w'=>e= .returned (.string (lineS ws))/\Below wr.heap.size wr w':=HJ
   have Z:=Lib.hid hB.out.below;clear q1 q2 q3 q4 hB;go_wp2_with fail;refine HJ.mono ?_;rintro e w2 ⟨rfl,hb⟩;have HB:=Lib.hid (next Z.out hb);clear hb HJ;go_wp2_with fail;go_ret;exact ⟨rfl,HB.out⟩
theorem Wordy.str {s':ByteArray} (h:Wordy w T v s) (e:s=s'):Wordy w T v s':=e ▸ h
def pS (a:Nat) (len:Int):ByteArray:=⟨(Sm.str a len).toArray⟩
def nS (n:Int):ByteArray:=⟨(Lib.itoa n).toArray⟩
def enS (a:Nat) (len how nx:Int):ByteArray:=
 if how<0\/4<=how then ⟨#[]⟩ else if how=2 then lineS [pS a len,hW how,nS nx] else lineS [pS a len,hW how]
theorem de2 (h:¬ (z<0\/4<=z)):(hW z).toList.isEmpty=false:=by
 have hz:z=0\/z=1\/z=2\/z=3:=by omega
 rcases hz with rfl|rfl|rfl|rfl<;>decide+kernel
theorem de3 (h:z<0\/4<=z):hW z=⟨#[]⟩:=by
 unfold hW; rw [if_neg (by omega),if_neg (by omega),if_neg (by omega),if_neg (by omega)]
theorem cc8 (a:Nat) (len:Int):(Sm.str a len).length<=100:=by
 unfold Sm.str;split
 ·rename_i h
  obtain ⟨n,hn,rfl,-⟩:=right_len h;have h1:=Sm.upTo_len a 4;have h2:=Sm.dec_len (n:=n) (by omega);unfold Sm.text;simp only [List.length_append,List.length_cons,List.length_nil,Int.toNat_natCast];omega
 ·simp
theorem ch9 (n:Int) (h0:-9223372036854775808<=n) (h1:n<=9223372036854775807):(Lib.itoa n).length<=21:=Lib.itoa_length_le n h0 h1
theorem cx8 (z:Int):(hW z).data.toList.length<=4:=by
 unfold hW
 (repeat' split)<;>decide
theorem join3 (a b c:List UInt8):(Lib.join [a,b,c] [32]).length=a.length+1+b.length+1+c.length:=by
 simp [Lib.join,List.intercalate];omega
theorem join2 (a b:List UInt8):(Lib.join [a,b] [32]).length=a.length+1+b.length:=by
 simp [Lib.join,List.intercalate];omega
theorem cl1 (a:Nat) (len how nx:Int) (ha:a<4294967296) (h0:-9223372036854775808<=nx) (h1:nx<=9223372036854775807) (w:World) (ht:Tab w):
  Calls prog 57 #[.agg #[.int .u32 a,.int .i64 len,.int .i64 how,.int .i64 nx]] w fun e w'=>e= .returned (.string (enS a len how nx))/\Below w.heap.size w w':=by
 obtain ⟨hb1,EB⟩:=nw w 135 #[.int .u32 a,.int .i64 len,.int .i64 how,.int .i64 nx];have e0:=EB.at_ 0;have e1:=EB.at_ 1;have e2:=EB.at_ 2;have e3:=EB.at_ 3;have HT:=Lib.hid (ht.held hb1);have HN:=H3 h0 h1 ha;have HB:=Lib.hid hb1;clear EB hb1 ht h0 h1 ha;go_enter Tryz.func57,Tryz.ntmps57;go_wp2_with fail;generalize w.alloc _=w1 at*;refine (bs9 how w1).mono ?_;rintro e w2 ⟨rfl,hb2⟩;replace e0:=held hb2 e0;replace e1:=held hb2 e1;replace e2:=held hb2 e2;replace e3:=held hb2 e3;replace HT:=Lib.hid (HT.out.held hb2);replace HB:=Lib.hid (next HB.out hb2);clear hb2;by_cases hh:how<0\/4<=how
 ·rw [de3 hh]
  have E:=Lib.hid (show enS a len how nx=⟨#[]⟩ by unfold enS; rw [if_pos hh]);clear hh;go_wp2_with fail;go_ret;exact ⟨af0 E.out.symm,HB.out⟩
 ·have hne:=de2 hh
  obtain ⟨s,hs⟩:∃ s,hW how=s:=⟨_,rfl⟩;rw [hs] at hne ⊢;have HS:=Lib.hid hs;have HH:=Lib.hid hh;clear hs hh;have HP:=bv2 a len HN.out.2.2 w2 HT.out;go_wp2_with fail;refine HP.mono ?_;rintro e w3 ⟨rfl,hb3⟩;replace e0:=held hb3 e0;replace e1:=held hb3 e1;replace e2:=held hb3 e2;replace e3:=held hb3 e3;replace HT:=Lib.hid (HT.out.held hb3);replace HB:=Lib.hid (next HB.out hb3);clear hb3 HP;obtain ⟨p,hp⟩:∃ p:ByteArray,⟨(Sm.str a len).toArray⟩=p:=⟨_,rfl⟩;rw [hp];have HPp:=Lib.hid hp;clear hp;have hsl:=cx8 how;rw [HS.out] at hsl;have hpl:p.data.toList.length<=100:=by rw [<- HPp.out]; simpa using cc8 a len
  have hL:=H2 hsl hpl;clear hsl hpl;by_cases h2:how=2
  ·subst h2
   have HL:=fun (w:World) (hT:Tab w) (pb c:Nat) (hcs:∀ (j:Nat) (q:TypeId×Value),([(58,Value.string p),(178,.int .i64 2),(59,.int .i64 nx)]:List (TypeId×Value))[j]?=some q->w.cell? ⟨pb,j,none⟩=some (.iface q.1 q.2)) (hc:3<=c)=>
    bc6 w pb c [(58,.string p),(178,.int .i64 2),(59,.int .i64 nx)] [p,s,nS nx] 3 rfl rfl hcs hc (by omega) (fun j q x hj hx=>by
     match j,hj,hx with
     |0,hj,hx=>cases hj; cases hx; exact ab4 w p
     |1,hj,hx=>cases hj; cases hx; exact (bd9 w 2).str HS.out
     |2,hj,hx=>cases hj; cases hx; exact ac5 w nx HN.out.1 HN.out.2.1 hT) (by
     simp only [List.map_cons,List.map_nil];rw [join3];have h3:=ch9 nx HN.out.1 HN.out.2.1;have h4:(nS nx).data.toList.length=(Lib.itoa nx).length:=by simp [nS]
     have:=hL.out;omega)
   obtain ⟨hb4,PB⟩:=nw w3 95 #[.iface 58 (.string p),.iface 178 (.int .i64 2),.iface 59 (.int .i64 nx)];have HL1:=HL _ (HT.out.held hb4) w3.heap.size 3 (fun j q hj=>by
    rw [PB.at_]
    match j,hj with
    |0,hj=>cases hj; rfl
    |1,hj=>cases hj; rfl
    |2,hj=>cases hj; rfl) (Nat.le_refl _)
   have HB2:=Lib.hid (next HB.out hb4);have E:=Lib.hid (show enS a len 2 nx=lineS [p,s,nS nx] by
    unfold enS;rw [if_neg HH.out,if_pos rfl,HS.out,show pS a len=p from HPp.out])
   clear HL hb4 PB;go_wp2_with fail;refine HL1.mono ?_;rintro e w5 ⟨rfl,hb5⟩;have HB3:=Lib.hid (next HB2.out hb5);clear hb5 HL1;go_wp2_with fail;go_ret;exact ⟨af0 E.out.symm,HB3.out⟩
  ·have d2:(how==2)=false:=beq_eq_false_iff_ne.2 h2
   obtain ⟨hb4,PB⟩:=nw w3 95 #[.iface 58 (.string p),.iface 178 (.int .i64 how)];have HL1:=bc6 _ w3.heap.size 2 [(58,.string p),(178,.int .i64 how)] [p,s] 2 rfl rfl (fun j q hj=>by
    rw [PB.at_]
    match j,hj with
    |0,hj=>cases hj; rfl
    |1,hj=>cases hj; rfl) (Nat.le_refl _) (by omega) (fun j q x hj hx=>by
     match j,hj,hx with
     |0,hj,hx=>cases hj; cases hx; exact ab4 _ p
     |1,hj,hx=>cases hj; cases hx; exact (bd9 _ how).str HS.out) (by
     simp only [List.map_cons,List.map_nil];rw [join2];have:=hL.out;omega)
   have HB2:=Lib.hid (next HB.out hb4);have E:=Lib.hid (show enS a len how nx=lineS [p,s] by
    unfold enS;rw [if_neg HH.out,if_neg h2,HS.out,show pS a len=p from HPp.out])
   clear hb4 PB;go_wp2_with fail;refine HL1.mono ?_;rintro e w5 ⟨rfl,hb5⟩;have HB3:=Lib.hid (next HB2.out hb5);clear hb5 HL1;go_wp2_with fail;go_ret;exact ⟨af0 E.out.symm,HB3.out⟩
theorem ag0 {a b:ByteArray} (h:a.data.toList=b.data.toList):a=b:=by
 cases a; cases b;simp at h;simp [h]
end
section
open Go.RowKit Go.Maps
attribute [local go_sem] Oper.semAt_some
variable {B:Nat}{v:Value}{ls:List ByteArray}{w:World}
theorem ret5 {fn:Func} {a b c d e:Tmp} (h:fn.results=#[.tmp a,.tmp b,.tmp c,.tmp d,.tmp e]) (tmps:Array Value) (P:Program) (w:World):
  (results fn tmps).run P w= .ok (.tuple #[tmps.getD a undef,tmps.getD b undef,tmps.getD c undef,tmps.getD d undef,tmps.getD e undef]) w:=by
 simp [results,h]
def stc (s:ByteArray):List Value:=[.string s]
theorem elemStr:Elem prog 31 9 stc 1 16:=⟨by kernel_rfl,ae2 (z:= .string ⟨#[]⟩) (by kernel_rfl) rfl,by omega,fun _=>rfl,fun x v hv=>by simp only [stc,List.mem_cons,List.not_mem_nil,or_false] at hv; subst hv; rfl,by omega⟩
def Lns (B:Nat) (v:Value) (ls:List ByteArray) (w:World):Prop:=Ol 9 stc 1 B v ls w
def errA:ByteArray:=⟨#[101,114,114,111,114]⟩
def atA:ByteArray:=⟨#[97,116]⟩
theorem eW_len (z:Int):(eW z).data.toList.length<=5:=by
 unfold eW
 (repeat' split)<;>decide
theorem bs6:∀ (l:List (List UInt8)),(Lib.join l [32]).length<=(l.map List.length).sum+l.length
 |[]=>by simp [Lib.join,List.intercalate]
 |[a]=>by simp [Lib.join,List.intercalate]
 |a::b::r=>by
  have h:=bs6 (b::r);have e:(Lib.join (a::b::r) [32]).length=a.length+1+(Lib.join (b::r) [32]).length:=by
   simp [Lib.join,List.intercalate];omega
  rw [e];simp only [List.map_cons,List.sum_cons,List.length_cons] at h ⊢;omega
theorem sum_le {l:List Nat} {m:Nat} (h:∀ x∈l,x<=m):l.sum<=l.length*m:=by
 induction l with
 |nil=>simp
 |cons a r ih=>
  have h1:=h a (by simp);have h2:=ih (fun x hx=>h x (by simp [hx]));simp only [List.sum_cons,List.length_cons,Nat.add_mul];omega
def Short (s:ByteArray):Prop:=s.data.toList.length<=1000
theorem ak1 (n:Int) (h0:-9223372036854775808<=n) (h1:n<=9223372036854775807):Short (nS n):=by
 have h3:=ch9 n h0 h1;have h4:(nS n).data.toList.length=(Lib.itoa n).length:=by simp [nS]
 unfold Short;omega
theorem bq4 (z:Int):Short (eW z):=by
 have:=eW_len z;unfold Short;omega
theorem bg8 (ws:List ByteArray):(lineS ws).data.toList.length=(Lib.join (ws.map (·.data.toList)) [32]).length:=by simp [lineS]
theorem cd1 (a:Nat) (len how nx:Int) (h0:-9223372036854775808<=nx) (h1:nx<=9223372036854775807):Short (enS a len how nx):=by
 have hp:(pS a len).data.toList.length<=100:=by
  have:=cc8 a len;have h4:(pS a len).data.toList.length=(Sm.str a len).length:=by simp [pS]
  omega
 have hn:(nS nx).data.toList.length<=21:=by
  have h3:=ch9 nx h0 h1;have h4:(nS nx).data.toList.length=(Lib.itoa nx).length:=by simp [nS]
  omega
 have hh:=cx8 how;unfold Short enS;split
 ·simp
 ·split
  ·rw [bg8]; simp only [List.map_cons,List.map_nil]; rw [join3]; omega
  ·rw [bg8]; simp only [List.map_cons,List.map_nil]; rw [join2]; omega
theorem ak8 (w:World) (parts:List (TypeId×Value)) (ws:List ByteArray) {n:Nat} (hn:parts.length=n) (hw:ws.length=n) (h8:n<=8) (hS:∀ s∈ws,Short s)
  (hW:∀ (j:Nat) (p:TypeId×Value) (s:ByteArray),parts[j]?=some p->ws[j]?=some s->Wordy w p.1 p.2 s):
  Calls prog 21 #[.slice (some ⟨w.heap.size,0,none⟩) n n] (w.alloc (.cells (parts.map fun p=>Value.iface p.1 p.2).toArray 95)) fun e w'=>e= .returned (.string (lineS ws))/\Below w.heap.size w w':=by
 have hb:=aa0 w (.cells (parts.map fun p=>Value.iface p.1 p.2).toArray 95);have PB:=Blk.new w 95 (parts.map fun p=>Value.iface p.1 p.2).toArray;have hl:(Lib.join (ws.map (·.data.toList)) [32]).length<=140737488355328:=by
  have h1:=bs6 (ws.map (·.data.toList));have h2:=sum_le (l:=(ws.map (·.data.toList)).map List.length) (m:=1000) (fun x hx=>by
   simp only [List.map_map,List.mem_map] at hx;obtain ⟨s,hs,rfl⟩:=hx;exact hS s hs)
  simp only [List.length_map] at h1 h2;have:ws.length*1000<=8000:=by omega
  omega
 refine (bc6 _ w.heap.size n parts ws n hn hw (fun j p hj=>?_) (Nat.le_refl _) h8 (fun j p s hp hs=>(hW j p s hp hs).held hb) hl).mono ?_
 ·rw [PB.at_]
  simp [hj]
 ·rintro e w' ⟨rfl,hb2⟩
  exact ⟨rfl,hb.trans (hb2.mono hb.size)⟩
theorem Lns.one (w:World) (s:ByteArray):Lns w.heap.size (.slice (some ⟨w.heap.size,0,none⟩) 1 1) [s] (w.alloc (.cells #[.string s] 9)):=
 ⟨by simp [stc],.inr ⟨w.heap.size,1,#[.string s],rfl,Nat.le_refl _,Blk.new w 9 _,by simp,by unfold maxLen; omega,by simp,by simp [stc]⟩⟩
theorem Lns.held {w':World} (h:Lns B v ls w) (hb:Below w.heap.size w w'):Lns B v ls w':=Ol.held h hb
theorem Lns.mono {B':Nat} (h:Lns B v ls w) (hB:B'<=B):Lns B' v ls w:=Ol.mono h hB
theorem Lns.push {w1:World} {p:Option Addr} {n c:Nat} (h:Lns B (.slice p n c) ls w1) (hn:ls.length=n) (hb:Below B w w1) (hB:B<=w1.heap.size) (s:ByteArray) (hbig:n<=100000):
  ∃ g' cap' W',(Builtin.append_ #[31,31] 31 #[.slice p n c,.slice (some ⟨w1.heap.size,0,none⟩) 1 1]).run prog (w1.alloc (.cells #[.string s] 9))= .ok (.slice (some ⟨g',0,none⟩) (n+1) cap') W'/\
   Lns B (.slice (some ⟨g',0,none⟩) (n+1) cap') (ls++[s]) W'/\Below B w W':=by
 subst hn;obtain ⟨g',cap',W',hrun,hO,hT,hat⟩:=Ol.push1 elemStr h hB s (by omega) 31;exact ⟨g',cap',W',hrun,hO,own_below h hb hB hT⟩
end
end Go.Proofs.YtpljkpnebibbaaaGreatDoor
