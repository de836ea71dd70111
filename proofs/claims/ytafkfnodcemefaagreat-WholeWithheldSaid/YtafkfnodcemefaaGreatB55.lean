import Derived.Test.YtafkfnodcemefaaGreatRows
import Derived.Test.YtafkfnodcemefaaGreatB21
import Derived.Lib.SmallJoins
set_option maxHeartbeats 8000000
namespace Go.Proofs.YtafkfnodcemefaaGreat
open _root_.Go.Proofs.Tryz (prog)
section
open Go.ChangeShapes Go.WideShapes Go.ChangeAt Go.RowKit Go.Joins Go.Deep Sc
set_option maxRecDepth 100000
theorem at5:ownKnob prog.godebug=none:=X
theorem ak2:laidOutB prog=true:=X
theorem ab5:prog.cellsOf 30=7:=X
theorem af7:prog.cellsOf 25=1:=X
theorem ab2:prog.cellsOf 28=2:=X
theorem aj8:prog.cellsOf 26=1:=X
theorem ab4:prog.cellsOf 3=1:=X
theorem ak1:prog.cellsOf 9=1:=X
theorem al4:prog.cellsOf 5=1:=X
theorem aa2 {z:Int} (h:(Lit.int .i64 z).wf=true):-9223372036854775808<=z/\z<=9223372036854775807:=by
 have h1:IntKind.i64.min=-9223372036854775808:=rfl;have h2:IntKind.i64.max=9223372036854775807:=rfl;simp only [Lit.wf,Bool.and_eq_true,decide_eq_true_eq] at h;omega
theorem am9 {z:Int} (h:(Lit.int .u32 z).wf=true):∃ n:Nat,z=n/\n<4294967296:=by
 have h1:IntKind.u32.min=0:=rfl;have h2:IntKind.u32.max=4294967295:=rfl;simp only [Lit.wf,Bool.and_eq_true,decide_eq_true_eq] at h;exact ⟨z.toNat,G,G⟩
theorem aj6 {z:Int} (h:(Lit.int .u8 z).wf=true):∃ c:Nat,c<256/\z=c:=by
 have h1:IntKind.u8.min=0:=rfl;have h2:IntKind.u8.max=255:=rfl;simp only [Lit.wf,Bool.and_eq_true,decide_eq_true_eq] at h;exact ⟨z.toNat,G,G⟩
theorem pt_ecs (e:Sc.Ev):(Sp.ecs e).toList=Sp.ecl e:=rfl
theorem ap8 {α:Type} {l:List α} (h:l.length=7):∃ a b c d e f g,l=[a,b,c,d,e,f,g]:=by
 match l,h with
 |[a,b,c,d,e,f,g],_=>exact ⟨a,b,c,d,e,f,g,rfl⟩
theorem ag2 {W:World} (a:Addr) (len cap:Nat) (zs:List Int) (hl:len<=cap) (hm:cap<=maxLen) (hz:zs.length=cap)
  (hcell:∀ i,i<zs.length->W.cell? (a.add i)=some (Yy (zs.getD i 0))) (hwz:∀ n∈zs,(Lit.int .u8 n).wf=true):Sp.BytesAt W (some a) len ((zs.take len).map Int.toNat):=by
 refine ⟨by simp; omega,G,fun c hc=>?_,fun k hk=>⟨a,rfl,?_⟩⟩
 ·obtain ⟨z,hz',rfl⟩:=List.mem_map.1 hc
  obtain ⟨d,hd,rfl⟩:=aj6 (hwz z (List.mem_of_mem_take hz'));simpa using hd
 ·have hkz:k<zs.length:=G
  rw [hcell k hkz];obtain ⟨d,hd,e⟩:=aj6 (hwz zs[k] (List.getElem_mem hkz));have e1:zs.getD k 0=zs[k]:=by simp [List.getD,hkz]
  have e2:((zs.take len).map Int.toNat).getD k 0=zs[k].toNat:=by simp [List.getD,hk,hkz]
  rw [e1,e2,e];rfl
section
variable {H:Type} {enc:TypeId×Value->H} {w:World} {base:Nat} {spare:Nat->Bool} {hld:Bool}
theorem al3 {fuel:Nat} {c c':Value} {y:DataW H×List MemPlace} (h:DataW.trod enc prog w base spare hld fuel 28 [c,c']=some y):
  ∃ a n:Int,c= U a/\c'= I n/\(Lit.int .u32 a).wf=true/\(Lit.int .i64 n).wf=true:=by
 cases fuel with
 |zero=>simp [DataW.trod] at h
 |succ fuel=>
  simp only [DataW.trod,Tryz.underlying28,ab2] at h;simp [aj8,ab4,Option.bind_eq_some_iff] at h;obtain ⟨_,_,h0,_,⟨_,_,h1,_⟩,_⟩:=h;obtain ⟨n0,e0,-,w0⟩:=DataW.trod_int Tryz.underlying26 h0;obtain ⟨n1,e1,-,w1⟩:=DataW.trod_int Tryz.underlying3 h1;simp only [List.cons.injEq,and_true] at e0 e1;exact ⟨n0,n1,e0,e1,w0,w1⟩
theorem as0 {fuel:Nat} {cs:List Value} {y:DataW H×List MemPlace} (h:DataW.trod enc prog w base spare hld fuel 30 cs=some y):
  ∃ e:Ev,cs=Sp.ecl e/\e.Good:=by
 cases fuel with
 |zero=>simp [DataW.trod] at h
 |succ fuel=>
  simp only [DataW.trod,Tryz.underlying30,ab5] at h;split at h
  case isFalse=>cases h
  rename_i hlen;obtain ⟨c0,c1,c2,c3,c4,c5,c6,rfl⟩:=ap8 hlen;simp [af7,ab4,ab2,ak1,Option.bind_eq_some_iff] at h;obtain ⟨_,_,h0,_,⟨_,_,h1,_,⟨_,_,h2,_,⟨_,_,h3,_,⟨_,_,h4,_,⟨_,_,h5,_⟩,_⟩,_⟩,_⟩,_⟩,_⟩:=h;obtain ⟨n0,e0,-,w0⟩:=DataW.trod_int Tryz.underlying25 h0;obtain ⟨n1,e1,-,w1⟩:=DataW.trod_int Tryz.underlying3 h1;obtain ⟨n2,e2,-,w2⟩:=DataW.trod_int Tryz.underlying3 h2;obtain ⟨n3,e3,-,w3⟩:=DataW.trod_int Tryz.underlying3 h3;obtain ⟨n4,n5,e4,e5,w4,w5⟩:=al3 h4;obtain ⟨s,e6,-,w6⟩:=DataW.trod_string Tryz.underlying9 h5;simp only [List.cons.injEq,and_true] at e0 e1 e2 e3 e6;subst e0 e1 e2 e3 e4 e5 e6;obtain ⟨a,rfl,ha⟩:=am9 w4;refine ⟨⟨n0,n1,n2,n3,a,n5,s.data.toList⟩,?_,⟨⟨(aa2 w0).1,(aa2 w0).2,(aa2 w1).1,(aa2 w1).2,(aa2 w2).1,(aa2 w2).2,(aa2 w3).1,(aa2 w3).2,ha,(aa2 w5).1,(aa2 w5).2⟩,?_⟩⟩
  ·rfl
  ·exact w6
theorem aq0 {fuel:Nat} {A:Option Addr} {len cap:Nat} {x:DataW H×List MemPlace} (h:DataW.trod enc prog w base (fun _=>true) hld fuel 22 (Value.slice A len cap).cells.toList=some x):
  ∃ es,Sp.El w A len cap es:=by
 rcases open_slice Tryz.underlying22 h with ⟨hcs,-⟩|⟨a,len',cap',m,n,D,Pl,hcs,_,hl,hm,hmm,-,hi⟩
 ·simp [Value.cells] at hcs
  obtain ⟨rfl,rfl,rfl⟩:=hcs;exact ⟨[],⟨rfl,by unfold maxLen; omega,G,fun h=>absurd h G,(fun b off e=>by cases e),sn⟩⟩
 ·simp [Value.cells] at hcs
  obtain ⟨rfl,rfl,rfl⟩:=hcs;simp only [if_true] at hmm;have hp:∀ i:Nat,∃ r:Ev,i<m->r.Good/\∀ j,j<7->w.cell? (a.add (i*7+j))=(Sp.ecs r)[j]?:=fun i=>by
   by_cases him:i<m
   ·obtain ⟨cs',hc,ht⟩:=hi i him
    rw [ab5] at hc;obtain ⟨_,hcl,hat⟩:=World.cells?_some hc;obtain ⟨r,rfl,hg⟩:=as0 ht;refine ⟨r,fun _=>⟨hg,fun j hj=>?_⟩⟩;have h1:=hat j (by simpa [Sp.ecl] using hj);rw [Deep.add_add] at h1;rw [h1,show (Sp.ecs r)[j]?=(Sp.ecl r)[j]? by rw [<- pt_ecs]; simp]
   ·exact ⟨⟨0,0,0,0,0,0,[]⟩,fun h=>absurd h him⟩
  obtain ⟨f,hf⟩:=Classical.axiomOfChoice hp;refine ⟨(List.range len).map f,⟨by simp,G,hl,fun h0=>?_,fun b off e i hi' j hj=>?_,fun r hr=>?_⟩⟩
  ·obtain ⟨b,off,spot⟩:=a
   have h1:=(hf 0 G).2 0 G;have hspot:spot=none:=by simpa [Addr.add] using World.cell?_spot (h1.trans rfl)
   exact ⟨b,off,by rw [hspot]⟩
  ·cases e
   have hil:i<len:=by simpa using hi'
   have h1:=(hf i G).2 j hj;simp only [List.getElem_map,List.getElem_range];rw [<- h1];rw [show (Y b off:Addr).add (i*7+j)=⟨b,off+(7*i+j),none⟩ by
    rw [show i*7+j=7*i+j by omega];generalize 7*i+j=q;by_cases hq:q=0
    ·subst hq; rfl
    ·simp [Addr.add,hq]]
  ·obtain ⟨i,hi',rfl⟩:=List.mem_map.1 hr
   exact (hf i (by have:=List.mem_range.1 hi'; omega)).1
theorem open_sl {fuel:Nat} {A:Option Addr} {len cap:Nat} {x:DataW H×List MemPlace} (hf:DataW.trod enc prog w base (fun _=>true) hld fuel 45 (Value.slice A len cap).cells.toList=some x):
  ∃ bs,Sp.Sl w A len cap bs:=by
 rcases open_ints Tryz.underlying45 Tryz.underlying5 al4 hf with ⟨hcs,hx⟩|⟨a,len',cap',zs,hcs,_,hl,hm,hz,hx,hcell,hwz⟩
 ·simp [Value.cells] at hcs
  obtain ⟨rfl,rfl,rfl⟩:=hcs;exact ⟨[],⟨rfl,by unfold maxLen; omega,sn,fun k hk=>absurd hk G⟩,G,fun h=>absurd h G⟩
 ·simp [Value.cells] at hcs
  obtain ⟨rfl,rfl,rfl⟩:=hcs;simp only [if_true] at hz;refine ⟨_,ag2 a len cap zs hl hm hz hcell hwz,hl,fun h0=>?_⟩;obtain ⟨b,off,spot⟩:=a;have h1:=hcell 0 G;have hspot:spot=none:=by simpa [Addr.add] using World.cell?_spot h1
  exact ⟨b,off,by rw [hspot]⟩
end
end
end Go.Proofs.YtafkfnodcemefaaGreat
