import Derived.Test.YtafkfnodcemefaaGreatB42
set_option maxHeartbeats 8000000
set_option maxRecDepth 100000
namespace Go.Proofs.YtafkfnodcemefaaGreat
open _root_.Go.Proofs.Tryz (prog)
section
open Go.RowKit Go.Maps Rm Sb
attribute [local go_sem] Oper.semAt_some
theorem ck3:∃ i,prog.info? 40=some i/\i.zero=some (.slice none 0 0)/\i.size=1/\i.bytes=24:=by
 have h:(prog.info? 40).map (fun i=>(i.zero,i.size,i.bytes))=some (some (.slice none 0 0),1,24):=X
 exact info_parts h
def fibZ (n:Nat):Array Value:=madeCells #[.slice none 0 0] n
theorem bq6 (n:Nat):(fibZ n).size=n:=size_madeCells _ _
theorem cp7 {n k:Nat} (h:k<n):(fibZ n)[k]?=some (.slice none 0 0):=by
 rw [Array.getElem?_eq_getElem (by rw [bq6]; exact h)];simp [fibZ,madeCells,Nat.mod_one]
theorem bk7 (n:Nat) (hn:n<=512) (w:World):(Instr.makeSlice 37 (I (n:Int)) (I (n:Int))).run prog w= .ok (Lt w.heap.size n n) (w.alloc (.cells (fibZ n) 40)):=by
 obtain ⟨i,h1,h2,h3,h4⟩:=ck3;have h:=run_make (P:=prog) w 37 40 i _ X h1 h2 .i64 .i64 (n:Int) (n:Int) G G (by rw [h4]; omega) G;simpa [h3,fibZ,Value.cells] using h
structure FbL (w:World) (W n:Nat) (fe:Nat->List Fe) (k:Nat) (wr:World):Prop where
 le:w.heap.size<=W
 ex:∃ C,Blk 40 wr W C/\C.size=n/\(∀ j,j<k->∃ v,C[j]?=some v/\Lf (W+1) v (fe j) wr)/\∀ j,k<=j->j<n->C[j]?=some (.slice none 0 0)
 below:Below w.heap.size w wr
section
variable {w wr w2:World} {W n k:Nat} {fe:Nat->List Fe}
theorem FbL.start (w:World) (n:Nat) (fe:Nat->List Fe):FbL w w.heap.size n fe 0 (w.alloc (.cells (fibZ n) 40)):=
 ⟨Nat.le_refl _,⟨_,Blk.new w _ _,bq6 n,fun j h=>absurd h G,fun j _ h=>cp7 h⟩,aa0 _ _⟩
theorem FbL.held (h:FbL w W n fe k wr) (hb:Below wr.heap.size wr w2):FbL w W n fe k w2:=by
 obtain ⟨C,h1,h2,h3,h4⟩:=h.ex;exact ⟨h.le,⟨C,h1.held hb,h2,fun j hj=>by obtain ⟨v,q1,q2⟩:=h3 j hj; exact ⟨v,q1,q2.held hb⟩,h4⟩,h.below.trans (hb.mono h.below.size)⟩
theorem FbL.skip (h:FbL w W n fe k wr) (hk:k<n) (he:fe k=[]):FbL w W n fe (k+1) wr:=by
 obtain ⟨C,h1,h2,h3,h4⟩:=h.ex;refine ⟨h.le,⟨C,h1,h2,fun j hj=>?_,fun j hj=>h4 j G⟩,h.below⟩;by_cases e:j=k
 ·subst e
  exact ⟨_,h4 j (Nat.le_refl _) hk,by rw [he]; exact Lf.nil _ _⟩
 ·exact h3 j G
theorem FbL.put (h:FbL w W n fe k wr) (hk:k<n) {v:Value} (hv:Lf (W+1) v (fe k) wr):FbL w W n fe (k+1) (wr.setCell (Y W k) v):=by
 obtain ⟨C,h1,h2,h3,h4⟩:=h.ex;have far:∀ b,b≠W->(wr.setCell (Y W k) v).heap[b]?=wr.heap[b]?:=fun b hb=>Below.heap_setCell _ _ _ _ hb
 have keep:∀ {u:Value} {us:List Fe},Lf (W+1) u us wr->Lf (W+1) u us (wr.setCell (Y W k) v):=fun hu=>hu.of_block fun b e=>far b (by have:=(hu.lt e).2; omega)
 refine ⟨h.le,⟨_,h1.store k v,by rw [Array.size_setIfInBounds,h2],fun j hj=>?_,fun j hj hj2=>?_⟩,h.below.setCell h.le v⟩
 ·rw [Array.getElem?_setIfInBounds]
  by_cases e:k=j
  ·subst e
   rw [if_pos rfl,if_pos G];exact ⟨v,rfl,keep hv⟩
  ·rw [if_neg e]
   obtain ⟨u,q1,q2⟩:=h3 j G;exact ⟨u,q1,keep q2⟩
 ·rw [Array.getElem?_setIfInBounds,if_neg G]
  exact h4 j G hj2
theorem FbL.cell (h:FbL w W n fe k wr) (hk:k<n):wr.cell? (Y W k)=some (.slice none 0 0)/\wr.frozen? (Y W k)=false:=by
 obtain ⟨C,h1,h2,h3,h4⟩:=h.ex;exact ⟨(h1.at_ k).trans (h4 k (Nat.le_refl _) hk),h1.free k⟩
end
section
variable {O:Nat->Prop} {w0 w:World} {N n:Nat} {st:Nat->Sv} {os:List Dg}
end
noncomputable def SvG.fib (s:SvG):List Fe:=match s.r with
 |none=>[]
 |some x=>x.M.subjs.flatMap x.M.entry
theorem NtG.row {w:World} {N MB n:Nat} {ms:Nat->MaG} {v:Value} (h:NtG w N MB n ms v) {i:Nat} (hi:i<n):
  w.cell? (Y MB (i*10))=some (ms i).rv/\w.cell? (Y MB (i*10+1))=Np (ms i).d/\w.cell? (Y MB (i*10+2))=some (I ((ms i).c 0))/\w.cell? (Y MB (i*10+3))=some (I ((ms i).c 1))/\w.cell? (Y MB (i*10+4))=some (I ((ms i).c 2))/\w.cell? (Y MB (i*10+5))=some (I ((ms i).c 3))/\w.cell? (Y MB (i*10+6))=some (I ((ms i).c 4))/\w.cell? (Y MB (i*10+7))=some (I ((ms i).c 5))/\w.cell? (Y MB (i*10+8))=some (I ((ms i).c 6))/\w.cell? (Y MB (i*10+9))=some (I ((ms i).c 7)):=
 ⟨h.cell hi (j:=0) rfl,h.cell hi (j:=1) rfl,h.cell hi (j:=2) rfl,h.cell hi (j:=3) rfl,h.cell hi (j:=4) rfl,h.cell hi (j:=5) rfl,h.cell hi (j:=6) rfl,h.cell hi (j:=7) rfl,h.cell hi (j:=8) rfl,h.cell hi (j:=9) rfl⟩
section
variable {O:Nat->Prop} {w0 w:World} {N n:Nat} {st:Nat->SvG} {os:List Dg}
theorem BoG.at_machine (h:BoG O w0 w N n st os) {MB:Nat} (hMB:w.cell? (Y N 0)=Xp MB n n) {i:Nat} (hi:i<n) :
  ∃ rv d c0 c1 c2 c3 c4 c5 c6 c7,(∀ w',Below w.heap.size w w'->w'.cell? (Y N 0)=Xp MB n n/\w'.cell? (Y MB (i*10))=some (.pointer rv)/\w'.cell? (Y MB (i*10+1))=Np d/\w'.cell? (Y MB (i*10+2))=some (I c0)/\w'.cell? (Y MB (i*10+3))=some (I c1)/\w'.cell? (Y MB (i*10+4))=some (I c2)/\w'.cell? (Y MB (i*10+5))=some (I c3)/\w'.cell? (Y MB (i*10+6))=some (I c4)/\w'.cell? (Y MB (i*10+7))=some (I c5)/\w'.cell? (Y MB (i*10+8))=some (I c6)/\w'.cell? (Y MB (i*10+9))=some (I c7))/\
   ((rv=none/\(st i).fib=[])\/∃ R,rv=some ⟨R,0,none⟩/\∀ w',Below w.heap.size w w'->Q 34 #[K R] w' fun e w2=>∃ v,e= .returned v/\Lf w'.heap.size v (st i).fib w2/\Bw w' w2):=by
 obtain ⟨MB',ms,v,xs,hW,hst,b1,b2,b3,b4,hB,hl⟩:=h.ex;obtain rfl:MB'=MB:=by
  have e:=(hW.nt.head.at_ 0).symm.trans hMB;simpa using e
 refine ⟨(ms i).r.map (fun x:RnG=>(Y x.R 0:Addr)),(ms i).d,(ms i).c 0,(ms i).c 1,(ms i).c 2,(ms i).c 3,(ms i).c 4,(ms i).c 5,(ms i).c 6,(ms i).c 7,fun w' hb=>⟨(hW.nt.held hb).head.at_ 0,(hW.nt.held hb).row hi⟩,?_⟩;have hk:=hW.nt.mas.ok i hi
 cases hr:(ms i).r with
 |none=>
  refine .inl ⟨by rfl,?_⟩;rw [<- hst i hi];unfold MaG.sv SvG.fib;rw [hr];rfl
 |some x=>
  obtain ⟨R,J,sp,M⟩:=x;refine .inr ⟨R,rfl,fun w' hb=>?_⟩;refine (gz_fib ((hk.some hr).held hb)).mono ?_;rintro e w2 ⟨v,rs,rfl,h1,h2,h3⟩;refine ⟨v,rfl,?_,h3⟩;have e1:(st i).fib=rs.flatMap M.entry:=by
   rw [<- hst i hi];unfold MaG.sv SvG.fib;rw [hr];show M.un.subjs.flatMap M.un.entry=_;rw [dv9,h1.subjs];rfl
  rw [e1];exact h2
theorem cv8 (h:BoG O w0 w N n st os):
  Q 10 #[K N] w fun e w'=>e= .returned (Lt w.heap.size n n)/\FbL w w.heap.size n (fun i=>(st i).fib) n w':=by
 have hn8:=h.n8;have HS:=az1 h;have hmk:=bk7 n G w;have S0:=Z (FbL.start w n (fun i=>(st i).fib));obtain ⟨MB,hMB⟩:∃ MB,w.cell? (Y N 0)=Xp MB n n:=by
  obtain ⟨MB,ms,v,xs,hW,-⟩:=h.ex;exact ⟨MB,hW.nt.head.at_ 0⟩
 have q0:(w.alloc (.cells (fibZ n) 40)).cell? (Y N 0)=Xp MB n n:=held (aa0 _ _) hMB;have H:=H2 h hMB;clear h hMB;go_enter Tryz.func10,Tryz.ntmps10;go_wp2_with (first|(go_at_call 33; refine HS.mono ?_; rintro e w1 ⟨rfl,hw1⟩; have hw2:=hw1.symm; subst hw2; clear hw1)|fail);go_loopw [14] (fun i wr=>∃ k:Nat,i= I (k:Nat)/\k<=n/\Hid (FbL w w.heap.size n (fun i=>(st i).fib) k wr)) (fun i _=>n - (intOf i).toNat)
 case atStart=>exact ⟨0,rfl,Nat.zero_le _,S0⟩
 case round=>
  clear S0 q0;obtain ⟨k,rfl,hkn,R⟩:=hrel;by_cases hk:k<n
  ·have hkz:(k:Int)<(n:Int):=G
   obtain ⟨rv,d,z0,z1,z2,z3,z4,z5,z6,z7,hc,hcase⟩:=H.out.1.at_machine H.out.2 hk;obtain ⟨a,a0,a1,a2,a3,a4,a5,a6,a7,a8,a9⟩:=hc wr R.out.below;obtain ⟨hbx,BX⟩:=nw wr 88 #[.pointer rv,K d,I z0,I z1,I z2,I z3,I z4,I z5,I z6,I z7];have R1:=Z (R.out.held hbx);have hW:w.heap.size<wr.heap.size:=by
    obtain ⟨C,h1,-⟩:=R.out.ex;exact h1.lt
   rcases hcase with ⟨rfl,he⟩|⟨R0,rfl,HFib⟩
   ·have R2:=Z (R1.out.skip hk he)
    clear R R1 he hc hbx hW;go_upto_region 5 with fail;generalize wr.alloc _=w2 at*;have x0:w2.cell? (Y wr.heap.size 0)=some (.pointer none):=BX.at_ 0;clear BX;go_wp2_with fail;go_roundw
    case rel=>exact ⟨k+1,by go_num,G,R2⟩
    case measure=>simp [intOf]; omega
   ·have HFb:=HFib _ (R.out.below.trans (hbx.mono R.out.below.size))
    have hW2:=Z hW;clear R hc hbx HFib hW;go_upto_region 5 with fail;have hs2:=Z (aa1 wr (.cells #[K R0,K d,I z0,I z1,I z2,I z3,I z4,I z5,I z6,I z7] 88));generalize wr.alloc _=w2 at*;have x0:w2.cell? (Y wr.heap.size 0)=Np R0:=BX.at_ 0;clear BX a a0 a1 a2 a3 a4 a5 a6 a7 a8 a9;go_wp2_with (first|(go_at_call 34; refine HFb.mono ?_; rintro e w3 ⟨v,rfl,hL,hb3⟩; obtain ⟨vp,vc,rfl,-⟩:=hL.form; have R3:=R1.out.held hb3; have C9:=(R3.cell hk).1; have F9:=(R3.cell hk).2; have R4:=Z (R3.put hk (hL.mono (by have:=hs2.out; have:=hW2.out; omega))); clear hL hb3 R3 HFb; generalize (st k).fib.length=fl at*)|fail);go_roundw
    case rel=>exact ⟨k+1,by go_num,G,R4⟩
    case measure=>simp [intOf]; omega
  ·obtain rfl:k=n:=G
   go_wp2_with fail;go_ret;exact ⟨rfl,R.out⟩
end
end
end Go.Proofs.YtafkfnodcemefaaGreat
