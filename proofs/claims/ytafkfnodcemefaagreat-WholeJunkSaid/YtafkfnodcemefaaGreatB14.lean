import Derived.Test.YtafkfnodcemefaaGreatB03
set_option maxHeartbeats 8000000
set_option maxRecDepth 20000
namespace Go.Proofs.YtafkfnodcemefaaGreat
open _root_.Go.Proofs.Tryz (prog)
section
open Go.RowKit
theorem bf1:∃ i,prog.info? 218=some i/\i.zero=some (Value.agg (Array.replicate 48 (Yy 0)))/\i.size=48/\i.bytes=48:=by
 have h:(prog.info? 218).map (fun i=>(i.zero,i.size,i.bytes))=some (some (Value.agg (Array.replicate 48 (Yy 0))),48,48):=X
 exact info_parts h
def zer (n:Nat):Array Value:=madeCells (Array.replicate 48 (Yy 0)) (n*48)
theorem bp5 (n:Nat):(zer n).size=n*48:=size_madeCells _ _
theorem cy3 {n k:Nat} (h:k<n*48):(zer n)[k]?=some (Yy 0):=by
 have hs:=bp5 n;rw [Array.getElem?_eq_getElem G];unfold zer madeCells;have hm:k % 48<48:=Nat.mod_lt _ G;simp [hm]
theorem ar9 (n:Nat) (hn:n<=512) (w:World):(Instr.makeSlice 148 (I (n:Int)) (I (n:Int))).run prog w= .ok (Lt w.heap.size n n) (w.alloc (.cells (zer n) 218)):=by
 obtain ⟨i,h1,h2,h3,h4⟩:=bf1;have h:=run_make (P:=prog) w 148 218 i _ X h1 h2 .i64 .i64 (n:Int) (n:Int) G G (by rw [h4]; omega) G;simpa [h3,zer,Value.cells] using h
theorem ca7 (n:Nat):∀ i,i<n->∀ j v,(sec (List.replicate 48 0))[j]?=some v->(zer n)[i*48+j]?=some v:=by
 intro i hi j v hv;rw [ba3,List.getElem?_replicate] at hv;split at hv
 ·rw [cy3 G]
  simpa using hv
 ·simp at hv
theorem new_in (n:Nat) (h1:1<=n) (h2:n<=512) (w:World):Q 46 #[I (n:Int)] w fun e w'=>
  e= .returned (K (w.heap.size+2))/\Dk w' (w.heap.size+2) w.heap.size (w.heap.size+1) n (fun _=>List.replicate 48 0) (fun _=>none) (-1)/\Bw w w':=by
 have hmk:=ar9 n h2;have hmm:= @run_makeMap prog;have hmn:min (max (n:Int) 1) 512=(n:Int):=G
 go_enter Tryz.func46,Tryz.ntmps46;go_wp2;go_ret;refine ⟨rfl,?_,((aa0 w _).alloc sn _).alloc (by simp; omega) _⟩;have hs1:=aa1 w (.cells (zer n) 218);have hX:=Blk.new w 218 (zer n);generalize w.alloc _=w1 at*;have hM:=Mp.new (P:=prog) (k:=3) w1;have hs2:=aa1 w1 (.map #[] 0);have hX2:=hX.more (.map #[] 0);generalize w1.alloc (.map #[] 0)=w2 at*;obtain ⟨hb,hH⟩:=nw w2 151 #[Lt w.heap.size n n,.map (some (w.heap.size+1)),I (-1)];rw [show w2.heap.size=w.heap.size+2 by omega] at hH;rw [hs1] at hM;exact ⟨hH,⟨_,hX2.held hb,bp5 n,ca7 n⟩,hM.of_block (hb.block _ G),fun _ _=>by simp,fun z s h=>by simp at h,h1,h2,G,G⟩
end
end Go.Proofs.YtafkfnodcemefaaGreat
