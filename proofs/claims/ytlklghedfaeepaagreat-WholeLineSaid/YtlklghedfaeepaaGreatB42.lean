import Derived.Test.YtlklghedfaeepaaGreatRows
import Derived.Test.YtlklghedfaeepaaGreatB09
import Derived.Lib.SmallJoins
set_option maxHeartbeats 8000000
namespace Go.Proofs.YtlklghedfaeepaaGreat
open _root_.Go.Proofs.Tryz (prog)
section
open Go.ChangeShapes Go.WideShapes Go.ChangeAt Go.RowKit Go.Joins Go.Deep
set_option maxRecDepth 100000
theorem di5:ownKnob prog.godebug=none:=by kernel_rfl
theorem da6:laidOutB prog=true:=by kernel_rfl
theorem dn1:prog.cellsOf 3=1:=by kernel_rfl
theorem dp6 {z:Int} (h:(Lit.int .i64 z).wf=true):-9223372036854775808<=z/\z<=9223372036854775807:=by
 have h1:IntKind.i64.min=-9223372036854775808:=rfl;have h2:IntKind.i64.max=9223372036854775807:=rfl;simp only [Lit.wf,Bool.and_eq_true,decide_eq_true_eq] at h;exact ⟨by omega,by omega⟩
section
variable {H:Type} {enc:TypeId×Value->H} {w:World} {base:Nat} {spare:Nat->Bool} {hld:Bool}
theorem open_ints {fuel:Nat} {A:Option Addr} {len cap:Nat} {x:DataW H×List MemPlace} (h:DataW.trod enc prog w base (fun _=>true) hld fuel 22 (Value.slice A len cap).cells.toList=some x):
  ∃ cs:List Int,InI w A len cap cs:=by
 rcases open_slice Tryz.underlying22 h with ⟨hcs,-⟩|⟨a,len',cap',m,n,D,Pl,hcs,_,hl,hm,hmm,-,hi⟩
 ·simp [Value.cells] at hcs
  obtain ⟨rfl,rfl,rfl⟩:=hcs;exact ⟨[],rfl,by unfold maxLen; omega,by omega,fun h=>absurd h (by omega),by simp,fun b off e=>by cases e⟩
 ·simp [Value.cells] at hcs
  obtain ⟨rfl,rfl,rfl⟩:=hcs;simp only [if_true] at hmm;have hp:∀ i:Nat,∃ z:Int,i<m->(-9223372036854775808<=z/\z<=9223372036854775807)/\w.cell? (a.add i)=some (.int .i64 z):=fun i=>by
   by_cases him:i<m
   ·obtain ⟨cs',hc,ht⟩:=hi i him
    rw [dn1,Nat.mul_one] at hc;obtain ⟨_,hcl,hat⟩:=World.cells?_some hc;obtain ⟨z,e0,-,w0⟩:=DataW.trod_int Tryz.underlying3 ht;refine ⟨z,fun _=>⟨dp6 w0,?_⟩⟩;have h1:=hat 0 (by decide);rw [Deep.add_add,Nat.add_zero,e0] at h1;simpa using h1
   ·exact ⟨0,fun h=>absurd h him⟩
  obtain ⟨f,hf⟩:=Classical.axiomOfChoice hp;refine ⟨(List.range len).map f,by simp,by omega,hl,fun h0=>?_,fun r hr=>?_,fun b off e i hi'=>?_⟩
  ·obtain ⟨b,off,spot⟩:=a
   have h1:=(hf 0 (by omega)).2;have hspot:spot=none:=by simpa [Addr.add] using World.cell?_spot h1
   exact ⟨b,off,by rw [hspot]⟩
  ·obtain ⟨i,hi',rfl⟩:=List.mem_map.1 hr
   exact (hf i (by have:=List.mem_range.1 hi'; omega)).1
  ·cases e
   have hil:i<len:=by simpa using hi'
   simp only [List.getElem_map,List.getElem_range];rw [<- (hf i (by omega)).2,show (⟨b,off,none⟩:Addr).add i=⟨b,off+i,none⟩ by
    by_cases hq:i=0
    ·subst hq; rfl
    ·simp [Addr.add,hq]]
end
end
end Go.Proofs.YtlklghedfaeepaaGreat
