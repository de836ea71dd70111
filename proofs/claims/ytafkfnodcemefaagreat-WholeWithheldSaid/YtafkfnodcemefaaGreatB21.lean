import Derived.Test.YtafkfnodcemefaaGreatB02
import Derived.Lib.ConvBytes
import Derived.Lib.QuietBelow
set_option maxHeartbeats 8000000
set_option maxRecDepth 100000
namespace Go.Proofs.YtafkfnodcemefaaGreat.Sc
open _root_.Go.Proofs.Tryz (prog)
section
variable {b:List Nat}{x y z:Nat}
structure Ev where
 kind:Int
 i:Int
 k:Int
 n:Int
 a:Nat
 len:Int
 p:List UInt8
deriving DecidableEq
structure Ev.Fits (e:Ev):Prop where
 kind1:-9223372036854775808<=e.kind
 kind2:e.kind<=9223372036854775807
 i1:-9223372036854775808<=e.i
 i2:e.i<=9223372036854775807
 k1:-9223372036854775808<=e.k
 k2:e.k<=9223372036854775807
 n1:-9223372036854775808<=e.n
 n2:e.n<=9223372036854775807
 a:e.a<4294967296
 len1:-9223372036854775808<=e.len
 len2:e.len<=9223372036854775807
def hasI (k:Int):Bool:=decide (0<=k) && decide (k<=6)
def hasK (k:Int):Bool:=k==3||k==7||k==8||k==9
def hasN (k:Int):Bool:=k==2||k==3||k==7
def hasP (k:Int):Bool:=k==4||k==5
def hasS (k:Int):Bool:=k==1
def small (x:Int):Bool:=decide (0<=x) && decide (x<=65536)
def bare (e:Ev):Bool:=(hasI e.kind||e.i==0) && (hasK e.kind||e.k==0) && (hasN e.kind||e.n==0) && (hasP e.kind||(e.a==0 && e.len==0)) && (hasS e.kind||e.p.isEmpty)
def right (e:Ev):Bool:=decide (0<=e.kind) && decide (e.kind<=10) && bare e && small e.i && small e.k && small e.n && Am.right e.a e.len && decide (e.p.length<=240) && decide (e.p.length % 6=0)
def val (b:List Nat):Nat:=b.foldl (fun s c=>s*256+c) 0
def four (n:Nat):List Nat:=[n / 16777216 % 256,n / 65536 % 256,n / 256 % 256,n % 256]
def three (n:Nat):List Nat:=[n / 65536 % 256,n / 256 % 256,n % 256]
def two (n:Nat):List Nat:=[n / 256 % 256,n % 256]
def nats (p:List UInt8):List Nat:=p.map UInt8.toNat
def hd (e:Ev):List Nat:=e.kind.toNat % 256::(three e.i.toNat++(three e.k.toNat++(three e.n.toNat++(four e.a++[e.len.toNat % 256,e.p.length % 256]))))
def ebytes (e:Ev):List Nat:=hd e++nats e.p
def flat (l:List Ev):List Nat:=l.flatMap ebytes
def script (n s:Nat) (l:List Ev):List Nat:=n % 256::(two s++flat l)
def parse (b:List Nat):Ev:=⟨b.getD 0 0,val ((b.drop 1).take 3),val ((b.drop 4).take 3),val ((b.drop 7).take 3),val ((b.drop 10).take 4),b.getD 14 0,((b.drop 16).take (b.getD 15 0)).map UInt8.ofNat⟩
def room (b:List Nat):Bool:=decide (16<=b.length) && decide (16+b.getD 15 0<=b.length)
def first (b:List Nat):Bool:=room b && right (parse b)
theorem val_snoc (b:List Nat) (c:Nat):val (b++[c])=val b*256+c:=by simp [val]
theorem val_lt:∀ (k:Nat) (b:List Nat),b.length<=k->(∀ c∈b,c<256)->val b<256 ^ k
 |0,b,h,_=>by rw [List.length_eq_zero_iff.1 (Nat.le_zero.1 h)]; simp [val]
 |k+1,b,h,hb=>by
  by_cases hne:b=[]
  ·subst hne
   simp only [val,List.foldl_nil];exact Nat.pow_pos G
  ·have e:=(List.dropLast_concat_getLast hne).symm
   have ih:=val_lt k b.dropLast (by simp; omega) (fun c hc=>hb c ((List.dropLast_sublist b).mem hc));have hc:=hb _ (List.getLast_mem hne);rw [e,val_snoc,Nat.pow_succ];omega
theorem getD_lt (h:∀ c∈b,c<256) (i:Nat):b.getD i 0<256:=by
 rw [List.getD_eq_getElem?_getD]
 cases e:b[i]? with
 |none=>simp
 |some c=>simpa using h c (List.mem_of_getElem? e)
theorem az7 (n:Nat):∀ c∈three n,c<256:=by
 intro c hc;simp only [three,List.mem_cons,List.not_mem_nil,or_false] at hc;omega
theorem am7 (n:Nat):∀ c∈four n,c<256:=by
 intro c hc;simp only [four,List.mem_cons,List.not_mem_nil,or_false] at hc;omega
theorem nats_length (p:List UInt8):(nats p).length=p.length:=by simp [nats]
theorem bl7 (p:List UInt8):∀ c∈nats p,c<256:=by
 intro c hc;obtain ⟨x,_,rfl⟩:=List.mem_map.1 hc;exact x.toNat_lt
theorem an3 (p:List UInt8):(nats p).map UInt8.ofNat=p:=by
 unfold nats;rw [List.map_map]
 conv=>rhs; rw [<- List.map_id p]
 exact List.map_congr_left fun x _=>by simp
theorem cn7 (h:∀ c∈b,c<256):nats (b.map UInt8.ofNat)=b:=by
 unfold nats;rw [List.map_map]
 conv=>rhs; rw [<- List.map_id b]
 exact List.map_congr_left fun x hx=>by simp [Nat.mod_eq_of_lt (h x hx)]
theorem cj5 (e:Ev):(hd e).length=16:=rfl
theorem dg6 (e:Ev):(ebytes e).length=16+e.p.length:=by rw [ebytes,List.length_append,cj5,nats_length]
theorem ck4 (e:Ev):∀ c∈ebytes e,c<256:=by
 intro c hc;simp only [ebytes,hd,List.cons_append,List.mem_cons,List.mem_append,List.not_mem_nil,or_false] at hc;rcases hc with rfl|(h|h|h|h|rfl|rfl)|h
 ·omega
 ·exact az7 _ c h
 ·exact az7 _ c h
 ·exact az7 _ c h
 ·exact am7 _ c h
 ·omega
 ·omega
 ·exact bl7 _ c h
theorem ar0:flat []=[]:=rfl
theorem ar7 (e:Ev) (l:List Ev):flat (e::l)=ebytes e++flat l:=by simp [flat]
theorem dh0 (l:List Ev) (e:Ev):flat (l++[e])=flat l++ebytes e:=by simp [flat]
theorem bv7 (l m:List Ev):flat (l++m)=flat l++flat m:=by simp [flat]
theorem bk6 (n s:Nat) (l:List Ev):(script n s l).length=3+(flat l).length:=by simp [script,two]; omega
structure Ok (e:Ev):Prop where
 kind1:0<=e.kind
 kind2:e.kind<=10
 bare:bare e=true
 i1:0<=e.i
 i2:e.i<=65536
 k1:0<=e.k
 k2:e.k<=65536
 n1:0<=e.n
 n2:e.n<=65536
 am:Am.right e.a e.len=true
 len1:0<=e.len
 len2:e.len<=32
 few:e.p.length<=240
 six:e.p.length % 6=0
theorem ao1 {e:Ev} (h:right e=true):Ok e:=by
 unfold right small at h;simp only [Bool.and_eq_true,decide_eq_true_eq] at h;obtain ⟨⟨⟨⟨⟨⟨⟨⟨h1,h2⟩,h3⟩,h4,h5⟩,h6,h7⟩,h8,h9⟩,h10⟩,h11⟩,h12⟩:=h;have h13:=h10;unfold Am.right at h13;simp only [Bool.and_eq_true,decide_eq_true_eq] at h13;exact ⟨h1,h2,h3,h4,h5,h6,h7,h8,h9,h10,h13.1.1,h13.1.2,h11,h12⟩
theorem af0 (h:x<=65536):val (three x)=x:=by simp only [val,three,List.foldl]; omega
theorem ah4 (h:x<4294967296):val (four x)=x:=by simp only [val,four,List.foldl]; omega
theorem at6 (hx:x<256) (hy:y<256) (hz:z<256):three (val [x,y,z])=[x,y,z]:=by
 simp only [val,three,List.foldl,List.cons.injEq,and_true]; omega
theorem cu6 {u:Nat} (hx:x<256) (hy:y<256) (hz:z<256) (hu:u<256):four (val [x,y,z,u])=[x,y,z,u]:=by
 simp only [val,four,List.foldl,List.cons.injEq,and_true]; omega
theorem sixteen (h:16<=b.length):∃ b0 b1 b2 b3 b4 b5 b6 b7 b8 b9 b10 b11 b12 b13 b14 b15 r,b=b0::b1::b2::b3::b4::b5::b6::b7::b8::b9::b10::b11::b12::b13::b14::b15::r:=by
 match b,h with
 |b0::b1::b2::b3::b4::b5::b6::b7::b8::b9::b10::b11::b12::b13::b14::b15::r,_=>exact ⟨_,_,_,_,_,_,_,_,_,_,_,_,_,_,_,_,_,rfl⟩
theorem ay0 (b0 b1 b2 b3 b4 b5 b6 b7 b8 b9 b10 b11 b12 b13 b14 b15:Nat) (r:List Nat):
  parse (b0::b1::b2::b3::b4::b5::b6::b7::b8::b9::b10::b11::b12::b13::b14::b15::r)=⟨b0,val [b1,b2,b3],val [b4,b5,b6],val [b7,b8,b9],val [b10,b11,b12,b13],b14,(r.take b15).map UInt8.ofNat⟩:=rfl
theorem am5 {e:Ev} (h:right e=true) (ha:e.a<4294967296) (r:List Nat):parse (ebytes e++r)=e/\room (ebytes e++r)=true:=by
 have O:=ao1 h;have e1:ebytes e++r=(e.kind.toNat % 256)::(e.i.toNat / 65536 % 256)::(e.i.toNat / 256 % 256)::(e.i.toNat % 256)::(e.k.toNat / 65536 % 256)::(e.k.toNat / 256 % 256)::(e.k.toNat % 256)::(e.n.toNat / 65536 % 256)::(e.n.toNat / 256 % 256)::(e.n.toNat % 256)::
   (e.a / 16777216 % 256)::(e.a / 65536 % 256)::(e.a / 256 % 256)::(e.a % 256)::(e.len.toNat % 256)::(e.p.length % 256)::(nats e.p++r):=rfl
 have hi:=af0 (x:=e.i.toNat) (by have:=O.i2; omega);have hk:=af0 (x:=e.k.toNat) (by have:=O.k2; omega);have hn:=af0 (x:=e.n.toNat) (by have:=O.n2; omega);have h4:=ah4 ha;have hp:e.p.length % 256=e.p.length:=Nat.mod_eq_of_lt (by have:=O.few; omega);constructor
 ·rw [e1,ay0]
  unfold three at hi hk hn;unfold four at h4;rw [hi,hk,hn,h4,hp];have e2:(nats e.p++r).take e.p.length=nats e.p:=by rw [<- nats_length,List.take_left]
  rw [e2,an3];obtain ⟨kind,i,k,n,a,len,p⟩:=e;have:=O.kind1; have:=O.kind2; have:=O.i1; have:=O.k1; have:=O.n1; have:=O.len1; have:=O.len2;simp only [Ev.mk.injEq,and_true,true_and] at*;refine ⟨by omega,G,G,G,G⟩
 ·unfold room
  rw [e1];simp only [List.length_cons,List.length_append,nats_length,List.getD_cons_succ,List.getD_cons_zero,Bool.and_eq_true,decide_eq_true_eq,hp];omega
theorem av6 {e:Ev} (h:right e=true) (ha:e.a<4294967296) (r:List Nat):first (ebytes e++r)=true:=by
 obtain ⟨h1,h2⟩:=am5 h ha r;rw [first,h1,h2,h]; rfl
theorem ak5 (hb:∀ c∈b,c<256):(parse b).Fits/\(parse b).a<4294967296:=by
 have l3:∀ o,val ((b.drop o).take 3)<16777216:=fun o=>val_lt 3 _ (by simp; omega) (fun c hc=>hb c (List.mem_of_mem_drop (List.mem_of_mem_take hc)))
 have l4:val ((b.drop 10).take 4)<4294967296:=val_lt 4 _ (by simp; omega) (fun c hc=>hb c (List.mem_of_mem_drop (List.mem_of_mem_take hc)));have:=l3 1; have:=l3 4; have:=l3 7;have:=getD_lt hb 0; have:=getD_lt hb 14;refine ⟨⟨?_,?_,?_,?_,?_,?_,?_,?_,l4,?_,?_⟩,l4⟩<;>(simp only [parse]; omega)
theorem cf8 (h:room b=true):(parse b).p.length=b.getD 15 0:=by
 unfold room at h;simp only [Bool.and_eq_true,decide_eq_true_eq] at h;simp only [parse,List.length_map,List.length_take,List.length_drop];omega
theorem am4 (hb:∀ c∈b,c<256) (h:room b=true):b=ebytes (parse b)++b.drop (16+(parse b).p.length):=by
 have hp:=cf8 h;have h0:=h;unfold room at h;simp only [Bool.and_eq_true,decide_eq_true_eq] at h;obtain ⟨b0,b1,b2,b3,b4,b5,b6,b7,b8,b9,b10,b11,b12,b13,b14,b15,r,rfl⟩:=sixteen h.1;simp only [List.getD_cons_succ,List.getD_cons_zero,List.length_cons] at h hp;rw [hp];simp only [List.mem_cons,forall_eq_or_imp] at hb;obtain ⟨h0,h1,h2,h3,h4,h5,h6,h7,h8,h9,h10,h11,h12,h13,h14,h15,hr⟩:=hb;have hr':∀ c∈r.take b15,c<256:=fun c hc=>hr c (List.mem_of_mem_take hc)
 rw [ay0];unfold ebytes hd;simp only [Int.toNat_natCast];rw [at6 h1 h2 h3,at6 h4 h5 h6,at6 h7 h8 h9,cu6 h10 h11 h12 h13,cn7 hr',List.length_map,List.length_take,Nat.mod_eq_of_lt h0,Nat.mod_eq_of_lt h14,
  show min b15 r.length % 256=b15 by rw [Nat.min_eq_left G]; exact Nat.mod_eq_of_lt h15]
 simp only [List.cons_append,List.nil_append,Nat.add_comm 16 b15,List.drop_succ_cons,List.take_append_drop]
structure Evs (bs:List Nat) (l:List Ev) (k e:Nat):Prop where
 right:∀ x∈l,right x=true/\x.a<4294967296
 few:l.length<=8192
 at_:k=3+(flat l).length
 le:k<=bs.length
 parts:bs.drop 3=flat l++bs.drop k
 how:(e=0/\k=bs.length)\/(e=6/\k<bs.length/\first (bs.drop k)=false)\/(e=7/\k<bs.length/\l.length=8192/\first (bs.drop k)=true)
theorem ax5 (e:Ev) (r:List Nat):ebytes e++r≠[]:=fun h=>by
 have:=congrArg List.length h;simp [dg6] at this
end
end Go.Proofs.YtafkfnodcemefaaGreat.Sc
namespace Go.Proofs.YtafkfnodcemefaaGreat.Sp
open _root_.Go.Proofs.Tryz (prog)
section
open Go.RowKit Go.Maps Sc
variable {w:World}{A:Option Addr}{b cap n off:Nat}{bs:List Nat}
def BytesAt (w:World) (A:Option Addr) (n:Nat) (bs:List Nat):Prop:=
 bs.length=n/\n<=maxLen/\(∀ c,c∈bs->c<256)/\∀ k,k<n->∃ ad,A=some ad/\w.cell? (ad.add k)=some (Yy (bs.getD k 0:Nat))
theorem BytesAt.take_succ (h:BytesAt w A n bs) {k:Nat} (hk:k<n):bs.take (k+1)=bs.take k++[bs.getD k 0]:=by
 have hl:k<bs.length:=by have:=h.1; omega
 rw [List.take_succ_eq_append_getElem hl];simp [List.getD,hl]
theorem BytesAt.takeAll (h:BytesAt w A n bs):bs.take n=bs:=by rw [<- h.1,List.take_length]
theorem BytesAt.lt (h:BytesAt w A n bs) (k:Nat):bs.getD k 0<256:=by
 rw [List.getD_eq_getElem?_getD]
 cases e:bs[k]? with
 |none=>simp
 |some c=>simpa using h.2.2.1 c (List.mem_of_getElem? e)
theorem BytesAt.take_lt (h:BytesAt w A n bs) (k:Nat):∀ c,c∈bs.take k->c<256:=
 fun c hc=>h.2.2.1 c (List.mem_of_mem_take hc)
def cell (c:Nat):Value:= Yy (c:Int)
def cls (b:List Nat):Array Value:=(b.map cell).toArray
def toU (b:List Nat):List UInt8:=b.map UInt8.ofNat
theorem ag4 (b:List Nat):(toU b).length=b.length:=by simp [toU]
theorem cc4 {b:List Nat} (hb:∀ c∈b,c<256) {j:Nat} (hj:j<(toU b).length):((toU b)[j].toNat:Int)=((b.getD j 0:Nat):Int):=by
 have hj':j<b.length:=by rw [ag4] at hj; exact hj
 have h1:b[j]<256:=hb _ (List.getElem_mem hj');simp [toU,hj',Nat.mod_eq_of_lt h1]
theorem BytesAt.held {w w':World} {A:Option Addr} {n:Nat} {bs:List Nat} (h:BytesAt w A n bs) (hb:Below w.heap.size w w'):BytesAt w' A n bs:=
 ⟨h.1,h.2.1,h.2.2.1,fun k hk=>by
  obtain ⟨ad,e,hc⟩:=h.2.2.2 k hk;exact ⟨ad,e,Go.Proofs.YtafkfnodcemefaaGreat.held hb hc⟩⟩
theorem BytesAt.of_blk {g:Nat} {t:TypeId} {C:Array Value} (h:Blk t w g C) (bs:List Nat) (o n:Nat) (hn:n<=maxLen) (hl:bs.length=n) (hb:∀ c∈bs,c<256) (hC:∀ k,k<n->C[o+k]?=some (cell (bs.getD k 0))):BytesAt w (some (Y g o)) n bs:=
 ⟨hl,hn,hb,fun k hk=>⟨_,rfl,by rw [Addr.add_mid,h.at_ (o+k)]; exact hC k hk⟩⟩
theorem aa5 (h:n<=5000):n<=maxLen:=by unfold maxLen; omega
theorem as5 (h:BytesAt w A n bs):(convert 45 9 (.slice A n cap)).run prog w= .ok (Ss ⟨(toU bs).toArray⟩) w:=by
 obtain ⟨hl,hm,hb,hc⟩:=h;rcases Nat.eq_zero_or_pos n with rfl|h0
 ·obtain rfl:=List.length_eq_zero_iff.1 hl
  rw [run_convert_bytes_string w 45 9 5 A 0 cap X X X]
  cases A<;>rfl
 ·obtain ⟨ad,rfl,-⟩:=hc 0 h0
  have e:n=(toU bs).length:=by rw [ag4,hl]
  rw [e];refine run_convert_bytes_back (P:=prog) w 45 9 5 ad cap (toU bs) X X X (fun j hj=>?_);obtain ⟨ad',e',h'⟩:=hc j G
  cases e';rw [h',cc4 hb hj]
theorem an5 (g off cap:Nat) (v:Nat) (hv:v<4294967296) (C:Array Value) (w:World) (h:Blk 5 w g C) (hs:off+4<=C.size):
  Q 57 #[Mt g off 4 cap,U v] w fun e w'=>e= .returned (.tuple #[])/\
   w'=(((w.setCell (Y g off) (cell (v / 16777216 % 256))).setCell (Y g (off+1)) (cell (v / 65536 % 256))).setCell (Y g (off+2)) (cell (v / 256 % 256))).setCell (Y g (off+3)) (cell (v % 256)):=by
 have c0:w.cell? (Y g off)=some C[off]:=(h.at_ off).trans sn;have c1:w.cell? (Y g (off+1))=some C[off+1]:=(h.at_ _).trans sn;have c2:w.cell? (Y g (off+2))=some C[off+2]:=(h.at_ _).trans sn;have c3:w.cell? (Y g (off+3))=some C[off+3]:=(h.at_ _).trans sn;have f0:=h.free off;have f1:=h.free (off+1);have f2:=h.free (off+2);have f3:=h.free (off+3);clear h;generalize C[off]=v0 at*;generalize C[off+1]=v1 at*;generalize C[off+2]=v2 at*;generalize C[off+3]=v3 at*;clear hs;go_enter Tryz.func57,Tryz.ntmps57;go_wp2;refine wp_loop_rounds 5 ?_
 iterate 5
  rw [rounds_succ];go_wp2
 go_end0;refine ⟨rfl,?_⟩;unfold cell;rw [show ((v / 16777216 % 256:Nat):Int)=(v:Int) / 16777216 by omega,show ((v / 65536 % 256:Nat):Int)=(v:Int) / 65536 % 256 by omega,show ((v / 256 % 256:Nat):Int)=(v:Int) / 256 % 256 by omega,show ((v % 256:Nat):Int)=(v:Int) % 256 by omega]
theorem cf3 (g off cap:Nat) (v:Nat) (hv:v<16777216) (C:Array Value) (w:World) (h:Blk 5 w g C) (hs:off+3<=C.size):
  Q 57 #[Mt g off 3 cap,U v] w fun e w'=>e= .returned (.tuple #[])/\
   w'=((w.setCell (Y g off) (cell (v / 65536 % 256))).setCell (Y g (off+1)) (cell (v / 256 % 256))).setCell (Y g (off+2)) (cell (v % 256)):=by
 have c0:w.cell? (Y g off)=some C[off]:=(h.at_ off).trans sn;have c1:w.cell? (Y g (off+1))=some C[off+1]:=(h.at_ _).trans sn;have c2:w.cell? (Y g (off+2))=some C[off+2]:=(h.at_ _).trans sn;have f0:=h.free off;have f1:=h.free (off+1);have f2:=h.free (off+2);clear h;generalize C[off]=v0 at*;generalize C[off+1]=v1 at*;generalize C[off+2]=v2 at*;clear hs;go_enter Tryz.func57,Tryz.ntmps57;go_wp2;refine wp_loop_rounds 4 ?_
 iterate 4
  rw [rounds_succ];go_wp2
 go_end0;refine ⟨rfl,?_⟩;unfold cell;rw [show ((v / 65536 % 256:Nat):Int)=(v:Int) / 65536 by omega,show ((v / 256 % 256:Nat):Int)=(v:Int) / 256 % 256 by omega,show ((v % 256:Nat):Int)=(v:Int) % 256 by omega]
theorem au7 (g off cap:Nat) (v:Nat) (hv:v<65536) (C:Array Value) (w:World) (h:Blk 5 w g C) (hs:off+2<=C.size):
  Q 57 #[Mt g off 2 cap,U v] w fun e w'=>e= .returned (.tuple #[])/\
   w'=(w.setCell (Y g off) (cell (v / 256 % 256))).setCell (Y g (off+1)) (cell (v % 256)):=by
 have c0:w.cell? (Y g off)=some C[off]:=(h.at_ off).trans sn;have c1:w.cell? (Y g (off+1))=some C[off+1]:=(h.at_ _).trans sn;have f0:=h.free off;have f1:=h.free (off+1);clear h;generalize C[off]=v0 at*;generalize C[off+1]=v1 at*;clear hs;go_enter Tryz.func57,Tryz.ntmps57;go_wp2;refine wp_loop_rounds 3 ?_
 iterate 3
  rw [rounds_succ];go_wp2
 go_end0;refine ⟨rfl,?_⟩;unfold cell;try rw [show ((v / 256 % 256:Nat):Int)=(v:Int) / 256 by omega,show ((v % 256:Nat):Int)=(v:Int) % 256 by omega]
theorem cg3 (s c:Nat) (hs:s<16777216) (hc:c<256):bits .or .u32 ((s:Int)*256) (c:Int)=((s*256+c:Nat):Int):=by
 rw [show ((s:Int)*256)=((s*256:Nat):Int) from by omega,u32_or_nat (s*256) c G G];congr 1;have h:=Nat.two_pow_add_eq_or_of_lt (i:=8) (b:=c) G s;rw [show 2 ^ 8*s=s*256 by omega] at h;exact h.symm
theorem aj0 {k:Nat} (hk:k<=3):256 ^ k<=16777216:=by
 have:k=0\/k=1\/k=2\/k=3:=G
 rcases this with rfl|rfl|rfl|rfl<;>decide
theorem am6 (A:Option Addr) (n cap:Nat) (bs:List Nat) (w:World) (h:BytesAt w A n bs) (hn:n<=4):
  Q 38 #[.slice A n cap] w fun e w'=>e= .returned (U (Sc.val bs:Nat))/\w=w':=by
 have H:=Z h;clear h;go_enter Tryz.func38,Tryz.ntmps38;go_wp2;go_loop [3,8] (fun s i=>∃ k:Nat,k<=n/\i= I k/\s= U (Sc.val (bs.take k):Nat)) (fun _ i=>n - (intOf i).toNat)
 case atStart=>exact ⟨0,G,rfl,rfl⟩
 case round=>
  obtain ⟨k,hk,rfl,rfl⟩:=hrel;by_cases hlt:k<n
  ·obtain ⟨ad,ha,hcell⟩:=H.out.2.2.2 k hlt
   have hc:=H.out.lt k;have hm:Sc.val (bs.take k)<16777216:=Nat.lt_of_lt_of_le (Sc.val_lt k _ (by rw [List.length_take]; omega) (H.out.take_lt k)) (aj0 G);have E:Hid (Sc.val (bs.take (k+1))=Sc.val (bs.take k)*256+bs.getD k 0):=Z (by rw [H.out.take_succ hlt,Sc.val_snoc]);generalize Sc.val (bs.take k)=s at hm E ⊢;generalize bs.getD k 0=c at hc E hcell;subst ha;go_wp2;go_round
   case rel=>exact ⟨k+1,G,by go_num,by rw [E.out,cg3 s c hm hc]⟩
   case measure=>simp [intOf]; omega
  ·go_wp2
   go_ret;obtain rfl:k=n:=G
   exact ⟨ab0 (by rw [H.out.takeAll]),rfl⟩
structure Sl (w:World) (A:Option Addr) (n cap:Nat) (bs:List Nat):Prop where
 bytes:BytesAt w A n bs
 cap:n<=cap
 plain:0<n->∃ b off,A=some ⟨b,off,none⟩
theorem Sl.held {w w':World} {A:Option Addr} {n cap:Nat} {bs:List Nat} (h:Sl w A n cap bs) (hb:Below w.heap.size w w'):Sl w' A n cap bs:=⟨h.bytes.held hb,h.cap,h.plain⟩
theorem Sl.at_ {w:World} {b off n cap:Nat} {bs:List Nat} (h:Sl w (some (Y b off)) n cap bs) {k:Nat} (hk:k<n):w.cell? (Y b (off+k))=some (Yy (bs.getD k 0:Nat)):=by
 obtain ⟨ad',e,hc⟩:=h.bytes.2.2.2 k hk
 cases e
 rwa [Addr.add_mid] at hc
theorem Sl.part (h:Sl w (some (Y b off)) n cap bs) (o m:Nat) (hm:o+m<=n):Sl w (some (Y b (off+o))) m (cap - o) ((bs.drop o).take m):=by
 obtain ⟨⟨h1,h2,h3,h4⟩,h5,-⟩:=h;refine ⟨⟨by simp; omega,G,fun c hc=>h3 c (List.mem_of_mem_drop (List.mem_of_mem_take hc)),fun k hk=>?_⟩,G,fun _=>⟨_,_,rfl⟩⟩;obtain ⟨ad',e,hc⟩:=h4 (o+k) G
 cases e;refine ⟨_,rfl,?_⟩;rw [Addr.add_mid] at hc ⊢;rw [Nat.add_assoc,hc];congr 3;have h5:o+k<bs.length:=G
 simp [List.getD,hk,h5]
theorem Sl.rest (h:Sl w (some (Y b off)) n cap bs) (o:Nat) (ho:o<=n):Sl w (some (Y b (off+o))) (n - o) (cap - o) (bs.drop o):=by
 have k:=h.part o (n - o) G;have e:(bs.drop o).take (n - o)=bs.drop o:=List.take_of_length_le (by rw [List.length_drop,h.bytes.1]; omega)
 rwa [e] at k
theorem ae1 (h:Sl w (some (Y b off)) n cap bs) (o m:Nat) (hm:o+m<=n) (h4:m<=4) (c:Nat):
  Q 38 #[Mt b (off+o) m c] w fun e w'=>e= .returned (U (Sc.val ((bs.drop o).take m):Nat))/\w=w':=
 am6 _ m c _ w (h.part o m hm).bytes h4
def bcl (c:Nat):List Value:=[cell c]
theorem elemB:Elem prog 45 5 bcl 1 1:=⟨by kernel_rfl,ae2 (z:= Yy 0) X rfl,G,fun _=>rfl,fun x v hv=>by simp only [bcl,List.mem_cons,List.not_mem_nil,or_false] at hv; subst hv; rfl,G⟩
abbrev Ob:=Ol 5 bcl 1
theorem ae8 (b:List Nat):b.flatMap bcl=b.map cell:=by
 induction b with
 |nil=>rfl
 |cons x r ih=>rw [List.flatMap_cons,ih]; rfl
theorem bj0 (s:List UInt8):Lib.strCells ⟨s.toArray⟩=(Sc.nats s).flatMap bcl:=by
 rw [ae8];simp [Lib.strCells,Sc.nats,cell]
section
variable {B:Nat} {v:Value} {bs:List Nat} {W W':World}
theorem Ob.bytes {p:Option Addr} (h:Ob B (.slice p n cap) bs W) (hb:∀ c∈bs,c<256):BytesAt W p n bs:=by
 rcases h.2 with ⟨h0,h1⟩|⟨g',cap',cur,e,h4,h5,h6,h7,h8,h9⟩
 ·cases h0
  obtain rfl:=List.length_eq_zero_iff.1 h1;exact ⟨rfl,by unfold maxLen; omega,sn,fun k hk=>by omega⟩
 ·cases e
  have h5':Blk 5 W g' cur:=h5;refine .of_blk h5' bs 0 _ G rfl hb (fun k hk=>?_);rw [ae8,Nat.mul_one] at h9;have e:(cur.toList.take bs.length)[k]?=some (cell (bs.getD k 0)):=by rw [h9]; simp [hk]
  rw [List.getElem?_take,if_pos hk] at e;simpa using e
theorem Ob.app (h:Ob B v bs W) (hB:B<=W.heap.size) {A:Option Addr} {m c:Nat} {news:List Nat} (hx:BytesAt W A m news) (h0:0<m) (hbig:bs.length+m<=1000000) (ty:TypeId):
  ∃ g' cap' W',(Builtin.append_ #[45,45] ty #[v,.slice A m c]).run prog W= .ok (Lt g' (bs.length+m) cap') W'/\Ob B (Lt g' (bs.length+m) cap') (bs++news) W'/\W.grownBy W' v.ownBlock/\(v.ownBlock=some g'\/g'=W.heap.size):=by
 obtain ⟨i0,z,hi,hz0,hz1,hz2,hz3⟩:=elemB.info;obtain ⟨hnl,-,-,hc⟩:=hx;obtain ⟨ad,rfl⟩:∃ ad,A=some ad:=by
  obtain ⟨ad',e,_⟩:=hc 0 h0;exact ⟨_,e⟩
 obtain ⟨v',W',hr,hown,hgr,hnil,hat⟩:=run_append_own_at (P:=prog) W B 45 ty 5 i0 z 1 1 elemB.ht hi hz0 hz1 hz2 hz3 elemB.pos v bs.length (bs.flatMap bcl) h ad m c (news.flatMap bcl) (by rw [ae8]; simp [hnl]) (fun j v hv=>by
   rw [ae8] at hv;have hj:j<m:=by
    have:=(List.getElem?_eq_some_iff.1 hv).1;simp at this; omega
   obtain ⟨ad',e,h'⟩:=hc j hj
   cases e;rw [h',<- hv];have hj':j<news.length:=G
   simp [hj',cell]) (fun v hv=>by
   rw [ae8] at hv;obtain ⟨c,_,rfl⟩:=List.mem_map.1 hv;rfl)
  (by unfold maxLen; omega) G hB
 have hne:¬ v'= .slice none 0 0:=fun e=>by have:=(hnil.1 e).2; omega
 rcases hown.2 with ⟨rfl,_⟩|⟨g',cap',cur,rfl,h4,h5,h6,h7,h8,h9⟩
 ·exact absurd rfl hne
 ·have e1:(bs++news).flatMap bcl=bs.flatMap bcl++news.flatMap bcl:=sn
  have e2:(bs++news).length=bs.length+m:=by simp [hnl]
  refine ⟨g',cap',W',hr,⟨by rw [e1,e2]; exact hown.1,.inr ⟨g',cap',cur,by rw [e2],h4,h5,by rw [e2]; exact h6,h7,h8,by rw [e1,e2]; exact h9⟩⟩,hgr,?_⟩;rcases hat with h|h
  ·exact .inl (h.symm.trans rfl)
  ·exact .inr (by simpa [Value.ownBlock] using h)
theorem Ob.str (h:Ob B v bs W) (hB:B<=W.heap.size) (h0:0<bs.length) (s:List UInt8) (hbig:bs.length+s.length<=1000000) (ty:TypeId):
  ∃ g' cap' W',(Builtin.append_ #[45,9] ty #[v,Ss ⟨s.toArray⟩]).run prog W= .ok (Lt g' (bs.length+s.length) cap') W'/\Ob B (Lt g' (bs.length+s.length) cap') (bs++Sc.nats s) W'/\W.grownBy W' v.ownBlock:=by
 obtain ⟨i0,z,hi,hz0,hz1,hz2,hz3⟩:=elemB.info;have hz:i0.zero=some (Yy 0):=by
  have:(prog.info? 5).map (fun i=>i.zero)=some (some (Yy 0)):=X
  rw [hi] at this;simpa using this
 have hs:(⟨s.toArray⟩:ByteArray).size=s.length:=by simp [ByteArray.size]
 obtain ⟨v',W',hr,hown,hgr,hnil⟩:=Lib.run_append_own_string (P:=prog) W B 45 9 ty 5 i0 elemB.ht X hi hz hz1 hz2 v bs.length (bs.flatMap bcl) h ⟨s.toArray⟩ (by rw [hs]; unfold maxLen; omega) (by rw [hs]; omega) hB;rw [hs] at hown hnil;have hne:¬ v'= .slice none 0 0:=fun e=>by
  have e2:=(hnil.1 e).1;subst e2;rcases h.2 with ⟨_,h1⟩|⟨g',cap',cur,e3,_⟩
  ·omega
  ·cases e3
 rcases hown.2 with ⟨rfl,_⟩|⟨g',cap',cur,rfl,h4,h5,h6,h7,h8,h9⟩
 ·exact absurd rfl hne
 ·have e1:(bs++Sc.nats s).flatMap bcl=bs.flatMap bcl++Lib.strCells ⟨s.toArray⟩:=by rw [bj0]; simp
  have e2:(bs++Sc.nats s).length=bs.length+s.length:=by simp [Sc.nats_length]
  exact ⟨g',cap',W',hr,⟨by rw [e1,e2]; exact hown.1,.inr ⟨g',cap',cur,by rw [e2],h4,h5,by rw [e2]; exact h6,h7,h8,by rw [e1,e2]; exact h9⟩⟩,hgr⟩
end
def ecs (e:Ev):Array Value:=#[I e.kind,I e.i,I e.k,I e.n,U e.a,I e.len,Ss ⟨e.p.toArray⟩]
def ecl (e:Ev):List Value:=[I e.kind,I e.i,I e.k,I e.n,U e.a,I e.len,Ss ⟨e.p.toArray⟩]
theorem dx6 (e:Ev):(ecs e).toList=ecl e:=rfl
theorem ba0 (p:List UInt8):(⟨p.toArray⟩:ByteArray).size=p.length:=by simp [ByteArray.size]
structure _root_.Go.Proofs.YtafkfnodcemefaaGreat.Sc.Ev.Good (e:Ev):Prop where
 fits:e.Fits
 few:e.p.length<=maxLen
structure El (w:World) (A:Option Addr) (n cap:Nat) (es:List Ev):Prop where
 len:es.length=n
 max:n<=maxLen
 cap:n<=cap
 plain:0<n->∃ b off,A=some ⟨b,off,none⟩
 cells:∀ b off,A=some ⟨b,off,none⟩->∀ i (_:i<es.length),∀ j,j<7->w.cell? (Y b (off+(7*i+j)))=(ecs es[i])[j]?
 good:∀ e∈es,e.Good
section
variable {w w':World} {A:Option Addr} {n cap:Nat} {es:List Ev}
theorem El.held (h:El w A n cap es) (hb:Below w.heap.size w w'):El w' A n cap es:=by
 refine ⟨h.len,h.max,h.cap,h.plain,fun b off e i hi j hj=>?_,h.good⟩;have h1:=h.cells b off e i hi j hj;have hj':j<(ecs es[i]).size:=hj;rw [Array.getElem?_eq_getElem hj'] at h1 ⊢;exact Go.Proofs.YtafkfnodcemefaaGreat.held hb h1
theorem El.at_ {b off:Nat} (h:El w (some (Y b off)) n cap es) {k:Nat} (hk:k<es.length) {e:Ev} (he:es[k]=e):
  w.cell? (Y b (off+k*7))=some (I e.kind)/\w.cell? (Y b (off+k*7+1))=some (I e.i)/\w.cell? (Y b (off+k*7+2))=some (I e.k)/\w.cell? (Y b (off+k*7+3))=some (I e.n)/\w.cell? (Y b (off+k*7+4))=some (U e.a)/\w.cell? (Y b (off+k*7+5))=some (I e.len)/\w.cell? (Y b (off+k*7+6))=some (Ss ⟨e.p.toArray⟩):=by
 have H:=h.cells b off rfl k hk;rw [he] at H;exact ⟨(by rw [show off+k*7=off+(7*k+0) by omega,H 0 G]; rfl),(by rw [show off+k*7+1=off+(7*k+1) by omega,H 1 G]; rfl),(by rw [show off+k*7+2=off+(7*k+2) by omega,H 2 G]; rfl),(by rw [show off+k*7+3=off+(7*k+3) by omega,H 3 G]; rfl),(by rw [show off+k*7+4=off+(7*k+4) by omega,H 4 G]; rfl),(by rw [show off+k*7+5=off+(7*k+5) by omega,H 5 G]; rfl),(by rw [show off+k*7+6=off+(7*k+6) by omega,H 6 G]; rfl)⟩
end
theorem elemE:Elem prog 22 30 ecl 7 64:=⟨by kernel_rfl,ae2 (z:= .agg #[I 0,I 0,I 0,I 0,U 0,I 0,Ss ⟨#[]⟩]) X rfl,G,fun _=>rfl,fun x v hv=>by simp only [ecl,List.mem_cons,List.not_mem_nil,or_false] at hv; rcases hv with rfl|rfl|rfl|rfl|rfl|rfl|rfl<;>rfl,G⟩
abbrev Oe:=Ol 30 ecl 7
theorem Oe.el {B:Nat} {v:Value} {es:List Ev} {W:World} (h:Oe B v es W) (hg:∀ e∈es,e.Good):∃ A cap,v= .slice A es.length cap/\El W A es.length cap es:=by
 rcases h.2 with ⟨rfl,h0⟩|⟨g,cap,cur,rfl,h4,h5,h6,h7,h8,h9⟩
 ·have e0:=List.length_eq_zero_iff.1 h0
  subst e0;exact ⟨none,0,rfl,rfl,by unfold maxLen; simp,sn,fun h=>by simp at h,fun b off e=>(by cases e),hg⟩
 ·refine ⟨some (Y g 0),cap,rfl,rfl,G,h6,fun _=>⟨_,_,rfl⟩,fun b off e i hi j hj=>?_,hg⟩
  cases e;have h5':Blk 30 W g cur:=h5;have e2:=ai1 (cl:=ecl) (k:=7) (fun _=>rfl) es i hi j hj;rw [<- h9,List.getElem?_take,if_pos G] at e2;rw [Nat.zero_add,h5'.at_,show 7*i+j=i*7+j by omega];rw [show (ecs es[i])[j]?=(ecl es[i])[j]? by rw [<- dx6]; simp];rw [<- e2];simp
end
section
open Go.RowKit
theorem ad2 (n:Nat) (hn:n<=32) (w:World):Q 110 #[I n] w fun e w'=>e= .returned (U (4294967295 / 2 ^ n:Nat))/\w=w':=by
 go_enter Tryz.func110,Tryz.ntmps110;go_wp2;go_ret;exact ⟨ab0 (by simp [Int.natCast_ediv]),rfl⟩
theorem ah3 (n:Nat):4294967295 / 2 ^ n<4294967296:=Nat.lt_of_le_of_lt (Nat.div_le_self _ _) G
theorem af2 (n:Nat):(4294967295:Int) / 2 ^ n=((4294967295 / 2 ^ n:Nat):Int):=by simp [Int.natCast_ediv]
theorem ao8 (a n:Nat) (ha:a<4294967296) (hn:n<=32):(bits .and .u32 (a:Int) (4294967295 / 2 ^ n)==0)=decide (a % 2 ^ (32 - n)=0):=by
 rw [af2,u32_and_nat a _ ha (ah3 n),Am.and_behind a n hn,Bool.eq_iff_iff];simp only [beq_iff_eq,decide_eq_true_eq];omega
def Pre (w:World) (g:Nat) (a:Int) (len:Int):Prop:=w.cell? (Y g 0)=some (U a)/\w.cell? (Y g 1)=some (I len)
theorem ai9 (w:World) (t:TypeId) (a len:Int):Pre (w.alloc (.cells #[U a,I len] t)) w.heap.size a len:=⟨(ab3 w _ t 0).trans rfl,(ab3 w _ t 1).trans rfl⟩
theorem af5 (a:Nat) (len:Int) (ha:a<4294967296) (w:World):
  Q 79 #[.agg #[U a,I len]] w (Rr0 w (O (Am.right a len))):=by
 by_cases h1:len<0
 ·have R:=Z (Am.right_neg (a:=a) h1)
  have d1:=df (0<=len);go_enter Tryz.func79,Tryz.ntmps79;go_wp2_with fail;obtain ⟨c0,c1⟩:=ai9 w 28 a len;have hb:=aa0 w (.cells #[U a,I len] 28);generalize w.alloc (.cells #[U a,I len] 28)=w2 at*;have HB:=Z hb;clear hb;go_quiet ((go_at_call 110; exact Calls.quiet_of_same (ac9 _ G _)));go_wp2;go_ret;exact ⟨aa4 R.out.symm,ac8 HB.out _⟩
 ·by_cases h2:32<len
  ·have R:=Z (Am.right_big (a:=a) h2)
   have d1:=dT (0<=len);have d2:=df (len<=32);go_enter Tryz.func79,Tryz.ntmps79;go_wp2_with fail;obtain ⟨c0,c1⟩:=ai9 w 28 a len;have hb:=aa0 w (.cells #[U a,I len] 28);generalize w.alloc (.cells #[U a,I len] 28)=w2 at*;have HB:=Z hb;clear hb;go_quiet ((go_at_call 110; exact Calls.quiet_of_same (ac9 _ G _)));go_wp2;go_ret;exact ⟨aa4 R.out.symm,ac8 HB.out _⟩
  ·obtain ⟨n,rfl⟩:=Int.eq_ofNat_of_zero_le (by omega:0<=len)
   have hn:n<=32:=G
   have d1:=dT (0<=(n:Int));have d2:=dT ((n:Int)<=32);clear h1 h2;have R:=Z (Am.right_in (a:=a) hn);go_enter Tryz.func79,Tryz.ntmps79;go_wp2_with fail;obtain ⟨c0,c1⟩:=ai9 w 28 a (n:Int);have hb:=aa0 w (.cells #[U a,I (n:Int)] 28);generalize w.alloc (.cells #[U a,I (n:Int)] 28)=w2 at*;have HB:=Z hb;clear hb;go_region_held3 (fun w'=>w'.cell? (Y w.heap.size 0)=some (U a)/\w'.cell? (Y w.heap.size 1)=some (I (n:Int))) (go_keep)
    (first|(go_at_call 110; refine (ad2 _ G _).mono ?_; rintro e w' ⟨rfl,rfl⟩))
   go_wp2;go_ret;exact ⟨aa4 ((ao8 a n ha hn).trans R.out.symm),HB.out.drew⟩
theorem right_eq {a:Nat} {len:Int} {r:Bool} (ha:a<4294967296) (h:Am.right a len=r) (w:World):
  Q 79 #[.agg #[U a,I len]] w (Rr0 w (O r)):=h ▸ af5 a len ha w
end
section
open Go.RowKit Go.Maps Sc
def _root_.Go.Proofs.YtafkfnodcemefaaGreat.Sc.pared (e:Ev):Ev:=⟨e.kind,if hasI e.kind then e.i else 0,if hasK e.kind then e.k else 0,if hasN e.kind then e.n else 0,if hasP e.kind then e.a else 0,if hasP e.kind then e.len else 0,if hasS e.kind then e.p else []⟩
theorem below3 (w:World) (a b c:Obj):Below w.heap.size w (((w.alloc a).alloc b).alloc c):=next (next (aa0 w a) (aa0 _ b)) (aa0 _ c)
theorem ag6 (e:Ev) (h0:0<=e.kind) (h1:e.kind<=10) (w:World):Q 94 #[.agg (ecs e)] w (Rr0 w (.agg (ecs (pared e)))):=by
 obtain ⟨kind,i,k,n,a,len,p⟩:=e;simp only at h0 h1;obtain ⟨q,hq⟩:∃ q:ByteArray,q=⟨p.toArray⟩:=⟨_,rfl⟩;have hk:kind=0\/kind=1\/kind=2\/kind=3\/kind=4\/kind=5\/kind=6\/kind=7\/kind=8\/kind=9\/kind=10:=G
 clear h0 h1;rcases hk with rfl|rfl|rfl|rfl|rfl|rfl|rfl|rfl|rfl|rfl|rfl
 all_goals
  show Q 94 #[.agg #[I _,I i,I k,I n,U (a:Nat),I len,Ss ⟨p.toArray⟩]] w _;rw [<- hq];go_enter Tryz.func94,Tryz.ntmps94;go_wp2_with fail;try go_region
  all_goals
   try go_wp2_with fail
   refine bodyPost_ret (v:= .agg (ecs (pared ⟨_,i,k,n,a,len,p⟩))) ?_ rfl ⟨rfl,?_⟩
   ·simp [results,Tryz.results94,go_sem,ecs,pared,hasI,hasK,hasN,hasP,hasS,hq]
   ·first|exact below3 _ _ _ _|exact (below3 _ _ _ _).drew
theorem ca0 (z:Int) (w:World):Q 95 #[I z] w fun e w'=>e= .returned (O (small z))/\w=w':=by
 unfold small
 cases h:decide (0<=z)
 ·go_enter Tryz.func95,Tryz.ntmps95
  go_wp2_with fail;go_ret;exact ⟨rfl,rfl⟩
 ·go_enter Tryz.func95,Tryz.ntmps95
  go_wp2_with fail;go_ret;exact ⟨aa4 sn,rfl⟩
theorem bi5 {z:Int} {r:Bool} (h:small z=r) (w:World):Q 95 #[I z] w (Rr0 w (O r)):=
 (ca0 z w).mono fun _ _ h'=>⟨h ▸ h'.1,h'.2 ▸ Below.refl _ _⟩
theorem by8 {P:Program} {C:World->Prop} {K:Act->Prop} {a:Act} {o:Oper} {t:TypeId} {x y:Operand} {z:TypeId} {xs ys:Array Value} {b:Bool} (ho:o.op= .binOp .eql t x y z) (ha:a.eval x= .agg xs) (hb:a.eval y= .agg ys)
  (hm:P.eqGuardType P.depth t=false) (hq:∀ w,(binOp .eql t (.agg xs) (.agg ys)).run P w= .ok (O b) w) (hk:K (a.put o.dst (O b))):o.quiet P a C K:=
 ⟨_,fun w _=>by
  unfold Oper.quietAt execOp;simp [ho,ha,hb,run_eqGuard_agg _ _ _ _ _ _ _ hm,hq,Oper.quietUpon],hk⟩
theorem cl0 (e f:Ev) (w:World):(binOp .eql 30 (.agg (ecs e)) (.agg (ecs f))).run prog w= .ok (O (decide (e=f))) w:=by
 obtain ⟨k1,i1,j1,n1,a1,l1,p1⟩:=e;obtain ⟨k2,i2,j2,n2,a2,l2,p2⟩:=f;unfold ecs;go_simp;by_cases h1:k1=k2
 case neg=>simp [h1]
 by_cases h2:i1=i2
 case neg=>simp [h2]
 by_cases h3:j1=j2
 case neg=>simp [h3]
 by_cases h4:n1=n2
 case neg=>simp [h4]
 by_cases h5:a1=a2
 case neg=>simp [h5,show ¬ (a1:Int)=a2 by omega]
 by_cases h6:l1=l2
 case neg=>simp [h6]
 by_cases h7:p1=p2<;>simp [h1,h2,h3,h4,h5,h6,h7]
theorem aq1 (e:Ev):decide (e=pared e)=bare e:=by
 obtain ⟨kind,i,k,n,a,len,p⟩:=e;unfold pared bare;simp only [Ev.mk.injEq,true_and];rw [Bool.eq_iff_iff,decide_eq_true_eq];simp only [Bool.and_eq_true,Bool.or_eq_true,beq_iff_eq,List.isEmpty_iff]
 cases hasI kind<;>cases hasK kind<;>cases hasN kind<;>cases hasP kind<;>cases hasS kind<;>simp [and_assoc]
end
end Go.Proofs.YtafkfnodcemefaaGreat.Sp
