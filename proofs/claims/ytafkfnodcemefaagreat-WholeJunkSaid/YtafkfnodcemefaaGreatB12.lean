import Derived.Test.YtafkfnodcemefaaGreatB11
import Derived.Test.YtafkfnodcemefaaGreatLayg
import Derived.Lib.OwnKind
set_option maxHeartbeats 8000000
set_option maxRecDepth 100000
namespace Go.Proofs.YtafkfnodcemefaaGreat
open _root_.Go.Proofs.Tryz (prog)
section
open Go.RowKit Go.Maps Go.Sort
variable {g:Nat}{lb:Array Value}
instance:Inhabited Pk:=⟨⟨0,0⟩⟩
theorem af1 (x:Pk):(clP x).length=2:=rfl
theorem cm2 (x:Pk):∀ v∈clP x,v.oneCell'=true:=by
 intro v hv;simp [clP] at hv;rcases hv with rfl|rfl<;>rfl
theorem ay8:∀ args w,(callFunc 103 args).run prog w= .ok (.enter 103 args) w:=enters_of Tryz.func103 kr rfl
theorem bi6 (blk off size:Nat) (w:World):CmpLays prog 103 #[] clP 2 cfP blk off size w:=fun _ _ _ _ x y=>
 bn8 x.a x.n y.a y.n _
theorem collectP (eg:∀ args w,(callFunc g args).run prog w= .ok (.enter g args) w) {S Sp:List Pk->Prop} {N:Nat} (hN:N<=1000000000) {w:World}
  (hseq:SeqStopsK Fence.wide 8 prog g lb (fun x:Pk=>#[.agg #[U x.a,I x.n]]) KeepsWalks S Sp N w):
  Q 196 #[.func (.func g) #[] lb] w fun e w'=>∃ v xs,e= .returned v/\S xs/\GotP w.heap.size v xs w'/\Bw w w':=by
 have hC:=appendSeqP eg hN hseq;clear hseq;go_enter Tryz.func196,Tryz.ntmps196;go_wp2_with (go_at_call 210; refine hC.mono ?_; rintro e w' ⟨v,xs,rfl,hS,hG,hB⟩);go_ret;exact ⟨v,xs,rfl,hS,hG,hB⟩
theorem sortFuncP {n₀:Nat} {v:Value} {xs:List Pk} {W:World} (hlen:xs.length<=1000000000) (h:GotP n₀ v xs W):
  Q 128 #[v,.func (.func 103) #[] #[]] W fun e w'=>e= .returned (.tuple #[])/\∃ ys,ys.Perm xs/\ys.Pairwise (fun x y=>ltOf cfP y x=false)/\Row clP 2 w' v ys/\(v= .slice none 0 0↔ys=[])/\(∀ b,v.ownBlock=some b->n₀<=b/\b<w'.heap.size)/\W.grownBy w' v.ownBlock:=by
 obtain ⟨hrow,hnil⟩:=h;rcases hrow.2 with ⟨rfl,h0⟩|⟨g,cap,cur,rfl,hg0,hb,h1,h2,h3,h4⟩
 ·have:xs=[]:=List.eq_nil_of_length_eq_zero h0
  subst this;refine (AnyF.slices_SortFunc_none Tryz.sortP none 0 _ W).mono ?_;rintro e w' ⟨rfl,rfl⟩;exact ⟨rfl,[],List.Perm.refl _,List.Pairwise.nil,.inl ⟨rfl,rfl⟩,sn,(fun b hb=>by cases hb),⟨rfl,rfl,rfl,Nat.le_refl _,fun _ _ _=>rfl⟩⟩
 ·have hH:HoldsK clP 2 W g 0 xs.toArray:=ae4 af1 hb h4
  have hgl:g<W.heap.size:=(Array.getElem?_eq_some_iff.1 hb).1;refine (AnyQ.slices_SortFunc Tryz.sortP 2 Tryz.isAgg28 Tryz.sizeOf28 clP af1 cm2 cfP swoP 103 #[] g 0 cap xs.toArray W ay8 (bi6 _ _ _ _) hH hgl (by simp; omega)).mono ?_;rintro e w' ⟨rfl,d',n,os,hp,hs,rfl⟩;have hsz:d'.size=xs.length:=hp.1.trans sn;have hH':=holdsK_sortWorldK_c clP 2 W g 0 xs.toArray d' n os hH hgl hp.1;have hR:=Row.of_holds af1 hH' (show d'.size<=cap by omega) h2;rw [hsz] at hR;refine ⟨rfl,d'.toList,(ap9 hp).trans sn,ai4 (by rw [hp.1]; exact hs),hR,?_,?_,ae0 _⟩
  ·constructor
   ·intro h; cases h
   ·intro h
    have:d'.size=0:=by rw [<- Array.length_toList,h]; rfl
    have hx:=hnil.2 (List.eq_nil_of_length_eq_zero G)
    cases hx
  ·intro b hb'
   cases hb';exact ⟨hg0,Nat.lt_of_lt_of_le hgl (size_sortWorldK_c _ _ _ _ _ _ _ _)⟩
theorem sortedFuncP (eg:∀ args w,(callFunc g args).run prog w= .ok (.enter g args) w) {S Sp:List Pk->Prop} {N:Nat} (hN:N<=1000000000) (hS:∀ xs,S xs->xs.length<=1000000000) {w:World}
  (hseq:SeqStopsK Fence.wide 8 prog g lb (fun x:Pk=>#[.agg #[U x.a,I x.n]]) KeepsWalks S Sp N w):
  Q 175 #[.func (.func g) #[] lb,.func (.func 103) #[] #[]] w fun e w'=>∃ v xs ys,e= .returned v/\S xs/\ys.Perm xs/\ys.Pairwise (fun x y=>ltOf cfP y x=false)/\Row clP 2 w' v ys/\(v= .slice none 0 0↔ys=[])/\(∀ b,v.ownBlock=some b->w.heap.size<=b/\b<w'.heap.size)/\Bw w w':=by
 have hC:=collectP eg hN hseq;clear hseq;go_enter Tryz.func175,Tryz.ntmps175;go_wp2_with (first
  |(go_at_call 196; refine hC.mono ?_; rintro e w' ⟨v,xs,rfl,hSx,hG,hB⟩; have hF:=sortFuncP (hS _ hSx) hG)
  |(go_at_call 128; refine hF.mono ?_; rintro e w2 ⟨rfl,ys,hp,hs,hR,hn,hb,hg⟩))
 go_ret;exact ⟨v,xs,ys,rfl,hSx,hp,hs,hR,hn,hb,hB.grown hg hB.size (fun k e=>(hb k e).1)⟩
end
section
open Go.RowKit Go.Maps
variable {w:World}{a b g k m n:Nat}{cur f:Nat->Pk}{n':Int}
structure PR (w:World) (g:Nat) (f:Nat->Pk) (m:Nat):Prop where
 c0:∀ i,i<m->w.cell? (Y g (i*2))=some (U (f i).a)
 c1:∀ i,i<m->w.cell? (Y g (i*2+1))=some (I (f i).n)
 f0:∀ i,i<m->w.frozen? (Y g (i*2))=false
 f1:∀ i,i<m->w.frozen? (Y g (i*2+1))=false
theorem PR.held {w w':World} {g m:Nat} {f:Nat->Pk} (h:PR w g f m) (hg:g<w.heap.size) (hb:Below w.heap.size w w'):PR w' g f m:=by
 have e:=hb.block g hg;exact ⟨fun i hi=>by rw [World.cell?_of_block e]; exact h.c0 i hi,fun i hi=>by rw [World.cell?_of_block e]; exact h.c1 i hi,
  fun i hi=>by have:=h.f0 i hi; unfold World.frozen? at this ⊢; rw [e]; exact this,fun i hi=>by have:=h.f1 i hi; unfold World.frozen? at this ⊢; rw [e]; exact this⟩
def setF (f:Nat->Pk) (i:Nat) (x:Pk):Nat->Pk:=fun j=>if j=i then x else f j
theorem PR.set (h:PR w g f m) {i:Nat} (hi:i<m) (x:Pk):PR ((w.setCell (Y g (i*2)) (U x.a)).setCell (Y g (i*2+1)) (I x.n)) g (setF f i x) m:=by
 refine ⟨fun j hj=>?_,fun j hj=>?_,fun j hj=>?_,fun j hj=>?_⟩
 ·rw [World.cell?_setCell_other _ _ _ _ (by intro e; have h9:=congrArg Addr.off e; dsimp only at h9; omega)]
  unfold setF;by_cases c:j=i
  ·subst c
   rw [if_pos rfl];exact World.cell?_setCell_same _ _ _ (h.c0 j hj)
  ·rw [if_neg c,World.cell?_setCell_other _ _ _ _ (by intro e; have h9:=congrArg Addr.off e; dsimp only at h9; omega)]
   exact h.c0 j hj
 ·unfold setF
  by_cases c:j=i
  ·subst c
   rw [if_pos rfl];exact World.cell?_setCell_same _ _ _ ((World.cell?_setCell_other _ _ _ _ (by intro e; have h9:=congrArg Addr.off e; dsimp only at h9; omega)).trans (h.c1 j hj))
  ·rw [if_neg c,World.cell?_setCell_other _ _ _ _ (by intro e; have h9:=congrArg Addr.off e; dsimp only at h9; omega),World.cell?_setCell_other _ _ _ _ (by intro e; have h9:=congrArg Addr.off e; dsimp only at h9; omega)]
   exact h.c1 j hj
 ·rw [World.frozen?_setCell,World.frozen?_setCell]; exact h.f0 j hj
 ·rw [World.frozen?_setCell,World.frozen?_setCell]; exact h.f1 j hj
theorem ba5 (h:PR w g f m) {k:Nat} (hk:k<=m) (c:Nat) (ty:TypeId):
  ∃ w',(Builtin.clear_ #[229] ty #[Mt g (k*2) (m - k) c]).run prog w= .ok (.tuple #[]) w'/\PR w' g f k/\Turn [g] w w'/\w'.heap.size=w.heap.size:=by
 by_cases h0:m - k=0
 ·rw [h0]
  refine ⟨w,?_,⟨fun i hi=>h.c0 i G,fun i hi=>h.c1 i G,fun i hi=>h.f0 i G,fun i hi=>h.f1 i G⟩,.refl _ _,rfl⟩;simp [Builtin.clear_,run_underlying Tryz.underlying229]
 ·obtain ⟨q,hq⟩:∃ q,m - k=q+1:=⟨m - k - 1,G⟩
  have hzl:(Builtin.zeroCells #[U 0,I 0] (m - k)).toList.length=(m - k)*2:=by simp [Builtin.zeroCells]
  have hat:∀ j,j<(m - k)*2->(w.cell? (Y g (k*2+0+j))).isSome=true/\w.frozen? (Y g (k*2+0+j))=false:=fun j hj=>by
   have hj2:j % 2=0\/j % 2=1:=G
   rcases hj2 with e|e
   ·rw [show k*2+0+j=(k+j / 2)*2 by omega]
    exact ⟨by rw [h.c0 _ G]; rfl,h.f0 _ G⟩
   ·rw [show k*2+0+j=(k+j / 2)*2+1 by omega]
    exact ⟨by rw [h.c1 _ G]; rfl,h.f1 _ G⟩
  have hst:=run_storeCells_cells (P:=prog) g (k*2) (Builtin.zeroCells #[U 0,I 0] (m - k)).toList 0 w (fun j hj=>(hat j (by rw [hzl] at hj; exact hj)).1) (fun j hj=>(hat j (by rw [hzl] at hj; exact hj)).2) (by
   intro v hv;simp only [Builtin.zeroCells,Array.toList_map,List.mem_map] at hv;obtain ⟨i,-,rfl⟩:=hv;have:i % 2=0\/i % 2=1:=G
   rcases this with e|e<;>simp [e]<;>rfl)
  simp only [Nat.add_zero] at hst;have hz:∀ w,(zeroValue 28).run prog w= .ok (.agg #[U 0,I 0]) w:=fun w=>by kernel_rfl
  refine ⟨_,?_,?_,Turn.setCells w (b:=g) sn (k*2) (Builtin.zeroCells #[U 0,I 0] (m - k)).toList,setCells_size _ _ _ _⟩
  ·rw [hq] at hst ⊢
   simp [Builtin.clear_,run_underlying Tryz.underlying229,hz,Value.cells,hst]
  ·refine ⟨fun i hi=>?_,fun i hi=>?_,fun i hi=>?_,fun i hi=>?_⟩
   ·rw [World.cell?_setCells_out _ _ _ _ _ (fun _ _=> .inl (by show i*2<k*2; omega))]; exact h.c0 i G
   ·rw [World.cell?_setCells_out _ _ _ _ _ (fun _ _=> .inl (by show i*2+1<k*2; omega))]; exact h.c1 i G
   ·rw [World.frozen?_setCells]; exact h.f0 i G
   ·rw [World.frozen?_setCells]; exact h.f1 i G
def keep (f:Nat->Pk) (n:Nat):List Pk:=(List.range n).filterMap fun i=>if i=0\/f i≠f (i - 1) then some (f i) else none
theorem aj3 (f:Nat->Pk) (n:Nat):keep f (n+1)=keep f n++(if n=0\/f n≠f (n - 1) then [f n] else []):=by
 unfold keep;rw [List.range_succ,List.filterMap_append];by_cases h:n=0\/f n≠f (n - 1)
 ·rw [if_pos h]; simp [h]
 ·rw [if_neg h]; simp [h]
theorem ct4 (f:Nat->Pk) (n:Nat):(keep f n).length<=n:=by
 unfold keep;exact Nat.le_trans (List.length_filterMap_le _ _) sn
theorem as4 (f:Nat->Pk):∀ n,(∀ i,0<i->i<n->f i≠f (i - 1))->keep f n=(List.range n).map f
 |0,_=>rfl
 |n+1,h=>by
  rw [aj3,as4 f n (fun i h1 h2=>h i h1 G),List.range_succ,List.map_append];rw [if_pos]
  ·rfl
  ·by_cases e:n=0
   ·exact .inl e
   ·exact .inr (h n G G)
structure Cp (f:Nat->Pk) (cur:Nat->Pk) (k n:Nat):Prop where
 len:(keep f n).length=k
 at_:∀ i (h:i<(keep f n).length),cur i=(keep f n)[i]
 rest:∀ i,n - 1<=i->cur i=f i
 kn:k<n
theorem Cp.start (hk:0<k) (hn:∀ i,0<i->i<k->f i≠f (i - 1)) (he:f k=f (k - 1)):Cp f f k (k+1):=by
 have e:keep f (k+1)=(List.range k).map f:=by
  rw [aj3,if_neg,List.append_nil,as4 f k hn];rintro (h|h)
  ·omega
  ·exact h he
 refine ⟨by rw [e]; simp,fun i h=>?_,fun _ _=>rfl,G⟩;simp only [e];simp
theorem Cp.same (h:Cp f cur k n) (he:f n=f (n - 1)):Cp f cur k (n+1):=by
 have e:keep f (n+1)=keep f n:=by
  rw [aj3,if_neg,List.append_nil];rintro (h2|h2)
  ·have:=h.kn; omega
  ·exact h2 he
 exact ⟨by rw [e]; exact h.len,fun i hi=>by simp only [e]; exact h.at_ i (by rw [e] at hi; exact hi),fun i hi=>h.rest i G,by have:=h.kn; omega⟩
theorem Cp.put (h:Cp f cur k n) (he:f n≠f (n - 1)):Cp f (setF cur k (f n)) (k+1) (n+1):=by
 have e:keep f (n+1)=keep f n++[f n]:=by rw [aj3,if_pos (.inr he)]
 have hl:=h.len;have hk:=h.kn;refine ⟨by rw [e]; simp [hl],fun i hi=>?_,fun i hi=>?_,G⟩
 ·simp only [e]
  unfold setF;by_cases c:i=k
  ·subst c
   rw [if_pos rfl,List.getElem_append_right G];simp [hl]
  ·have hi':i<(keep f n).length:=by rw [e] at hi; simp at hi; omega
   rw [if_neg c,List.getElem_append_left hi'];exact h.at_ i hi'
 ·unfold setF
  rw [if_neg G];exact h.rest i G
theorem bm5 (hs:∀ i j,i<j->j<n->¬ ltP (f j) (f i)):(keep f n).Pairwise ltP/\∀ x,x∈keep f n↔∃ i,i<n/\f i=x:=by
 induction n with
 |zero=>exact ⟨List.Pairwise.nil,fun x=>by simp [keep]⟩
 |succ n ih=>
  obtain ⟨h1,h2⟩:=ih fun i j h1 h2=>hs i j h1 G
  rw [aj3];by_cases h:n=0\/f n≠f (n - 1)
  ·rw [if_pos h]
   refine ⟨List.pairwise_append.2 ⟨h1,sn,fun a ha b hb=>?_⟩,fun x=>?_⟩
   ·simp at hb
    subst hb;obtain ⟨i,hi,rfl⟩:=(h2 a).1 ha;have h3:f n≠f (n - 1):=by rcases h with h|h; omega; exact h
    have k1:¬ ltP (f n) (f (n - 1)):=hs (n - 1) n G G;have k2:i<n - 1->¬ ltP (f (n - 1)) (f i):=fun h=>hs i (n - 1) h G
    have h4:¬ ((f n).a=(f (n - 1)).a/\(f n).n=(f (n - 1)).n):=fun e=>h3 (by
     cases hx:f n
     cases hy:f (n - 1);rw [hx,hy] at e;simp at e;rw [e.1,e.2])
    unfold ltP at*;by_cases c:i=n - 1
    ·subst c; omega
    ·have:=k2 G; omega
   ·rw [List.mem_append,h2]
    constructor
    ·rintro (⟨i,hi,e⟩|hx)
     ·exact ⟨i,G,e⟩
     ·simp at hx; exact ⟨n,G,hx.symm⟩
    ·rintro ⟨i,hi,rfl⟩
     by_cases c:i=n
     ·subst c; exact .inr sn
     ·exact .inl ⟨i,G,rfl⟩
  ·rw [if_neg h,List.append_nil]
   refine ⟨h1,fun x=>?_⟩;rw [h2];have hn:n≠0/\f n=f (n - 1):=by
    constructor
    ·exact fun e=>h (.inl e)
    ·by_cases e:f n=f (n - 1)
     ·exact e
     ·exact absurd (.inr e) h
   constructor
   ·rintro ⟨i,hi,e⟩; exact ⟨i,G,e⟩
   ·rintro ⟨i,hi,rfl⟩
    by_cases c:i=n
    ·subst c; exact ⟨i - 1,G,hn.2.symm⟩
    ·exact ⟨i,G,rfl⟩
theorem an7:prog.follows .mixedOrders=true:=by decide
theorem PR.drew (h:PR w g f m):PR w.drew g f m:=⟨h.c0,h.c1,h.f0,h.f1⟩
theorem dc3 {n:Int} (h:¬ (a=b/\n=n')) (w:World):(binOp .neq 28 (.agg #[U a,I n]) (.agg #[U b,I n'])).run prog w= .ok (O true) w:=by
 go_simp;by_cases h1:a=b
 ·by_cases h2:n=n'
  ·exact absurd ⟨h1,h2⟩ h
  ·simp [h1,h2]
 ·simp [show ¬ (a:Int)=b by omega]
theorem ck9 {n:Int} (h:¬ (a=b/\n=n')) (w:World):(binOp .eql 28 (.agg #[U a,I n]) (.agg #[U b,I n'])).run prog w= .ok (O false) w:=by
 go_simp;by_cases h1:a=b
 ·by_cases h2:n=n'
  ·exact absurd ⟨h1,h2⟩ h
  ·simp [h1,h2]
 ·simp [show ¬ (a:Int)=b by omega]
theorem cp9 {w2:World} (h:Turn [g] w w2) (i:Nat) (x:Pk):Turn [g] w ((w2.setCell (Y g (i*2)) (U x.a)).setCell (Y g (i*2+1)) (I x.n)):=
 h.trans ((Turn.setCell w2 sn _).trans (Turn.setCell _ sn _))
structure Cpd (w w':World) (g:Nat) (f:Nat->Pk) (m cap:Nat) (v:Value):Prop where
 val:v= Lt g (keep f m).length cap
 row:∃ f',PR w' g f' (keep f m).length/\∀ i (h:i<(keep f m).length),f' i=(keep f m)[i]
 turn:Turn [g] w w'
theorem bn7 {cap:Nat} (h:PR w g f m) (hm:m<=1000000000) (hc:m<=cap):
  Q 129 #[Lt g m cap] w fun e w'=>∃ v,e= .returned v/\Cpd w w' g f m cap v:=by
 have H:=Zq h;have mixed:=an7;clear h;by_cases hm2:m<2
 ·have hmz:(m:Int)<2:=G
  have hn:keep f m=(List.range m).map f:=as4 f m (fun i h1 h2=>by omega);have E:=Zq hn;clear hn;go_enter Tryz.func129,Tryz.ntmps129;go_wp2_with fail;go_ret;refine ⟨_,rfl,by rw [E.out]; simp,⟨f,by rw [E.out]; simpa using H.out,fun i hi=>?_⟩,.refl _ _⟩;simp only [E.out];simp
 ·have hmz:¬ (m:Int)<2:=G
  go_enter Tryz.func129,Tryz.ntmps129;go_wp2_with fail;go_loopw [3] (fun v wr=>∃ k:Nat,v= I k/\1<=k/\k<=m/\Hid (PR wr g f m/\Turn [g] w wr/\∀ i,0<i->i<k->f i≠f (i - 1))) (fun v _=>m - (intOf v).toNat)
  case atStart=>exact ⟨1,rfl,Nat.le_refl _,G,H.out,.refl _ _,fun i h1 h2=>by omega⟩
  case round=>
   clear H;obtain ⟨k,rfl,hk1,hkm,R⟩:=hrel;by_cases hk:k<m
   ·have hkz:(k:Int)<(m:Int):=G
    have kp:(0:Int)<=(k:Int) - 1:=G
    have kp':(1:Int)<=(k:Int):=G
    have kb:(k:Int) - 1<(m:Int):=G
    have ke:((k:Int) - 1).toNat=k - 1:=G
    have c0:=R.out.1.c0 k hk;have c1:=R.out.1.c1 k hk;have c2:=R.out.1.c0 (k - 1) G;have c3:=R.out.1.c1 (k - 1) G;by_cases he:f k=f (k - 1)
    ·have S:=Zq (Cp.start hk1 R.out.2.2 he)
     rw [he] at c0 c1;have hm3:(k:Int)<=(m:Int):=G
     have hcz:(k:Int)<=(cap:Int):=G
     have hcm:(m:Int)<=(cap:Int):=G
     have PT:=H2 R.out.1 R.out.2.1;clear R;generalize f (k - 1)=x at c0 c1 c2 c3;obtain ⟨a,n⟩:=x;dsimp only at c0 c1 c2 c3;go_wp2_with fail;go_big_region_o;all_goals go_wp2_with fail
     obtain ⟨z,hz⟩:=ey (m - k);obtain ⟨zc,hzc⟩:=ey (cap - k);rw [hz,hzc];clear c0 c1 c2 c3 kp kp' kb ke;go_loopw [3,5] (fun v3 v5 wr2=>∃ (q j:Nat) (cur:Nat->Pk),v3= I q/\v5= I j/\1<=j/\j<=z/\q<k+j/\Hid (PR wr2 g cur m/\Turn [g] w wr2/\Cp f cur q (k+j))) (fun _ v5 _=>z - (intOf v5).toNat)
     case atStart=>exact ⟨k,1,f,rfl,rfl,Nat.le_refl _,G,G,PT.out.1.drew,PT.out.2.drew,S.out⟩
     case round=>
      clear PT S;obtain ⟨q,j,cur,rfl,rfl,hj1,hjz,hqj,R⟩:=hrel;by_cases hj:j<z
      ·have hjzz:(j:Int)<(z:Int):=G
       have jp:(0:Int)<=(j:Int) - 1:=G
       have jp':(1:Int)<=(j:Int):=G
       have jb:(j:Int) - 1<(z:Int):=G
       have je:((j:Int) - 1).toNat=j - 1:=G
       have qb:(q:Int)<(m:Int):=G
       have c0:=R.out.1.c0 (k+j) G;have c1:=R.out.1.c1 (k+j) G;have c2:=R.out.1.c0 (k+(j - 1)) G;have c3:=R.out.1.c1 (k+(j - 1)) G;have c4:=R.out.1.c0 q G;have c5:=R.out.1.c1 q G;have f4:=R.out.1.f0 q G;have f5:=R.out.1.f1 q G;rw [R.out.2.2.rest _ G,Nat.add_mul] at c0 c1;rw [R.out.2.2.rest _ G,Nat.add_mul] at c2 c3;by_cases he2:f (k+j)=f (k+j - 1)
       ·have S:=H3 R.out.1 R.out.2.1 (R.out.2.2.same he2)
        rw [he2,show k+j - 1=k+(j - 1) by omega] at c0 c1;clear R;generalize f (k+(j - 1))=x at c0 c1 c2 c3;obtain ⟨a,n⟩:=x;dsimp only at c0 c1 c2 c3;go_wp2_with fail;go_big_region_o;all_goals go_wp2_with fail
        go_roundw
        case rel=>exact ⟨q,j+1,cur,rfl,by go_num,G,G,G,S.out.1.drew,S.out.2.1.drew,S.out.2.2⟩
        case measure=>simp [intOf]; omega
       ·have S:=Zq (And.intro (R.out.1.set (show q<m by omega) (f (k+j))) (And.intro (cp9 R.out.2.1 q (f (k+j))) (R.out.2.2.put he2)))
        have hne:¬ ((f (k+j)).a=(f (k+(j - 1))).a/\(f (k+j)).n=(f (k+(j - 1))).n):=fun e=>he2 (by
         rw [show k+j - 1=k+(j - 1) by omega]
         cases hx:f (k+j)
         cases hy:f (k+(j - 1));rw [hx,hy] at e;simp at e;rw [e.1,e.2])
        clear R;generalize f (k+j)=x at c0 c1 hne S;generalize f (k+(j - 1))=y at c2 c3 hne;obtain ⟨a,n⟩:=x;obtain ⟨b,n'⟩:=y;dsimp only at c0 c1 c2 c3 hne S;have hq:=dc3 hne;clear hne;go_wp2_with fail;go_big_region_o;all_goals go_wp2_with fail
        go_roundw
        case rel=>exact ⟨q+1,j+1,_,by go_num,by go_num,G,G,G,S.out.1.drew,S.out.2.1.drew,S.out.2.2⟩
        case measure=>simp [intOf]; omega
      ·obtain rfl:j=z:=G
       have hql:=R.out.2.2.len;have hkz2:k+j=m:=G
       rw [hkz2] at R hql;have hqz:(q:Int)<=(m:Int):=G
       have hqc:(q:Int)<=(cap:Int):=G
       obtain ⟨w3,hrun,hP3,hT3,-⟩:=ba5 R.out.1 (show q<=m by omega) (cap - q) 0;have Z:=H4 hP3 (R.out.2.1.trans hT3) R.out.2.2 hql;clear R hP3 hT3;go_wp2_with fail;go_ret;refine ⟨_,rfl,by rw [Z.out.2.2.2]; rfl,⟨cur,by rw [Z.out.2.2.2]; exact Z.out.1,Z.out.2.2.1.at_⟩,Z.out.2.1⟩
    ·have hne:¬ ((f k).a=(f (k - 1)).a/\(f k).n=(f (k - 1)).n):=fun e=>he (by
      cases hx:f k
      cases hy:f (k - 1);rw [hx,hy] at e;simp at e;rw [e.1,e.2])
     have S:=Zq (And.intro R.out.1 (And.intro R.out.2.1 (show ∀ i,0<i->i<k+1->f i≠f (i - 1) from fun i h1 h2=>by
      by_cases c:i=k
      ·rw [c]; exact he
      ·exact R.out.2.2 i h1 G)))
     clear R;generalize f k=x at c0 c1 hne;generalize f (k - 1)=y at c2 c3 hne;obtain ⟨a,n⟩:=x;obtain ⟨b,n'⟩:=y;dsimp only at c0 c1 c2 c3 hne;have hq:=ck9 hne;clear hne;go_wp2_with fail;go_big_region_o;all_goals go_wp2_with fail
     go_roundw
     case rel=>exact ⟨k+1,by go_num,G,G,S.out.1.drew,S.out.2.1.drew,S.out.2.2⟩
     case measure=>simp [intOf]; omega
   ·obtain rfl:k=m:=G
    have hn:=Zq (as4 f k R.out.2.2);go_wp2_with fail;go_ret;refine ⟨_,rfl,by rw [hn.out]; simp,⟨f,by rw [hn.out]; simpa using R.out.1,fun i hi=>?_⟩,R.out.2.1⟩;simp only [hn.out];simp
end
section
open Go.RowKit Go.Maps Go.Sort
theorem PR.of_holds {w:World} {g:Nat} {d:Array Pk} (h:HoldsK clP 2 w g 0 d):PR w g (fun i=>d[i]!) d.size:=by
 have key:∀ i,i<d.size->∀ j,j<2->w.cell? (Y g (i*2+j))=(clP d[i]!)[j]?/\w.frozen? (Y g (i*2+j))=false:=fun i hi j hj=>by
  have h1:=h.cell hi hj;rw [Nat.zero_add] at h1;refine ⟨h1.1.trans ?_,h1.2⟩;have hl:j<(clP d[i]!).length:=by rw [af1]; exact hj
  rw [getB hl]
 exact ⟨fun i hi=>(key i hi 0 G).1,fun i hi=>(key i hi 1 G).1,fun i hi=>(key i hi 0 G).2,fun i hi=>(key i hi 1 G).2⟩
theorem cp8 {n₀ g cap:Nat} {xs:List Pk} {W:World} (hlen:xs.length<=1000000000) (hown:W.ownsRow n₀ 28 2 (Lt g xs.length cap) xs.length (xs.flatMap clP)):
  Q 128 #[Lt g xs.length cap,.func (.func 103) #[] #[]] W fun e w'=>e= .returned (.tuple #[])/\∃ f:Nat->Pk,PR w' g f xs.length/\(∀ i j,i<j->j<xs.length->¬ ltP (f j) (f i))/\(∀ x,(∃ i,i<xs.length/\f i=x)↔x∈xs)/\W.grownBy w' (some g):=by
 rcases hown.2 with ⟨h0,-⟩|⟨g',cap',cur,h0,hg0,hb,h1,h2,h3,h4⟩
 ·cases h0
 ·cases h0
  have hH:HoldsK clP 2 W g 0 xs.toArray:=ae4 af1 hb h4;have hgl:g<W.heap.size:=(Array.getElem?_eq_some_iff.1 hb).1;refine (AnyQ.slices_SortFunc Tryz.sortP 2 Tryz.isAgg28 Tryz.sizeOf28 clP af1 cm2 cfP swoP 103 #[] g 0 cap xs.toArray W ay8 (bi6 _ _ _ _) hH hgl (by simp; omega)).mono ?_;rintro e w' ⟨rfl,d',n,os,hp,hs,rfl⟩;have hsz:d'.size=xs.length:=hp.1.trans sn;have hH':=holdsK_sortWorldK_c clP 2 W g 0 xs.toArray d' n os hH hgl hp.1;have hP:=PR.of_holds hH';rw [hsz] at hP;have hpl:d'.toList.Perm xs:=(ap9 hp).trans sn;have hsl:=ai4 (lt:=ltOf cfP) (d:=d') (by rw [hp.1]; exact hs);refine ⟨rfl,_,hP,fun i j hij hj=>?_,fun x=>?_,ae0 _⟩
  ·have:=(List.pairwise_iff_getElem.1 hsl) i j (by simp; omega) (by simp; omega) hij
   rw [bt9] at this;simpa [hsz,hj,show i<xs.length by omega] using this
  ·rw [<- hpl.mem_iff,List.mem_iff_getElem]
   constructor
   ·rintro ⟨i,hi,rfl⟩
    exact ⟨i,by simp; omega,by simp [hsz,hi]⟩
   ·rintro ⟨i,hi,rfl⟩
    have hi':i<xs.length:=by simp at hi; omega
    exact ⟨i,hi',by simp [hsz,hi']⟩
end
section
open Go.RowKit Go.Maps Go.Sort
attribute [local go_sem] Oper.semAt_some
variable {o:Option Nat}{w w':World}{cnt n r:Nat}{f:Rk->Option Value}{left:Rk->Bool}
variable {X:Option Nat->Array Value}
def Ro (o:Option Nat) (w:World) (r n:Nat) (f:Rk->Option Value) (left:Rk->Bool) (cnt:Nat):Prop:=
 match o with
 |none=>w.heap[r]?=some (.mapIter none 0 #[] 0)/\n=0/\cnt=0/\∀ z,left z=false
 |some b=>Rg rkE w b r n f left cnt
def roLeft (o:Option Nat) (w:World) (r:Nat):Nat:=
 match o with
 |none=>0
 |some b=>w.rangeLeft b r
theorem Ro.left_eq (h:Ro o w r n f left cnt):roLeft o w r=cnt:=by
 cases o with
 |none=>exact h.2.2.1.symm
 |some b=>exact Rg.left_eq h
theorem Ro.of_walks (h:Ro o w r n f left cnt) (hk:KeepsWalks w w'):Ro o w' r n f left cnt:=by
 cases o with
 |none=>exact ⟨hk.same r _ h.1 rfl,h.2⟩
 |some b=>exact Rg.of_walks h hk
theorem Ro.iter_walk (h:Ro o w r n f left cnt):∃ ob:Obj,w.heap[r]?=some ob/\ob.isWalk=true:=by
 cases o with
 |none=>exact ⟨_,h.1,rfl⟩
 |some b=>exact Rg.iter_walk h
theorem Ro.next (h:Ro o w r n f left cnt) (ty:TypeId):
  (cnt=0/\(∀ z,rkE.ok z->left z=false)/\(Instr.next (K r) false ty).run prog w= .ok (.tuple #[O false]) w)\/
  ∃ (i:Rk) (v:Value) (w':World) (cnt':Nat),rkE.ok i/\left i=true/\f i=some v/\(Instr.next (K r) false ty).run prog w= .ok (.tuple #[O true,rkE.enc i,v]) w'/\
   Ro o w' r n f (fun z=>left z && !decide (z=i)) cnt'/\cnt'<cnt/\w.grownBy w' (some r)/\w'.heap.size=w.heap.size/\(Instr.entry (K r)).run prog w'= .ok (.tuple #[rkE.enc i,v]) w':=by
 cases o with
 |none=>
  refine .inl ⟨h.2.2.1,fun z _=>h.2.2.2 z,?_⟩;simp only [Instr.next,getObj,Sem.run_bind,Sem.run,h.1,Result.andThen];rfl
 |some b=>exact Rg.next h ty
theorem Ro.range (h:Mo rkE w o n f):
  ∃ w',(Instr.range 112 (.map o)).run prog w= .ok (K w.heap.size) w'/\Ro o w' w.heap.size n f (fun z=>(f z).isSome) n/\w.grownBy w' none/\w'.heap.size=w.heap.size+1:=by
 cases o with
 |none=>exact ⟨_,run_range_nilMap (P:=prog) w 112 196 130 kr,⟨heap_alloc_new w _,h.1,h.1,fun z=>by show (f z).isSome=false; rw [h.2 z]; rfl⟩,World.grownBy_alloc w _ none,aa1 _ _⟩
 |some b=>exact Mk.range h (t:=112) (e:=130) kr
theorem Tb.len {w:World} {t n:Nat} {o:Option Nat} {f:Ways} (h:Tb X w t o n f):∀ ty,(Builtin.len_ #[112] ty #[.map o]).run prog w= .ok (I (n:Int)) w:=fun ty=>by
 cases o with
 |none=>
  obtain ⟨h0,-⟩:=h.map;subst h0;exact Maps.len_nil (k:=196) (e:=130) kr ty
 |some b=>exact Mk.len (e:=130) h.map kr ty
def preK (k:Rk):Pk:=⟨k.a,k.n⟩
structure Col (w wr:World) (o:Option Nat) (r n:Nat) (f:Ways) (B:Nat) (left:Rk->Bool) (cnt:Nat) (ss:List Rk) (g cap:Nat):Prop where
 rg:Ro o wr r n (vals f) left cnt
 card:ss.length+cnt<=n
 came:Came rkE (vals f) left ss
 box:Blk 229 wr B #[Lt g ss.length cap]
 row:wr.ownsRow w.heap.size 28 2 (Lt g ss.length cap) ss.length ((ss.map preK).flatMap clP)
 gB:g≠B
 B0:w.heap.size<=B
 r0:w.heap.size<=r
 below:Below w.heap.size w wr
structure Pfx (w w':World) (f:Ways) (n B g cap:Nat) (xs:List Pk):Prop where
 box:Blk 229 w' B #[Lt g xs.length cap]
 row:∃ F,PR w' g F xs.length/\∀ i (h:i<xs.length),F i=xs[i]
 asc:xs.Pairwise ltP
 mem:∀ p,p∈xs↔∃ fr,Rk.ok ⟨p.a,p.n,fr⟩/\(f ⟨p.a,p.n,fr⟩).isSome=true
 gB:g≠B
 B0:w.heap.size<=B
 g0:w.heap.size<=g
 gl:g<w'.heap.size
 len:xs.length<=n
 below:Below w.heap.size w w'
theorem PR.turn {L:List Nat} {g m:Nat} {f:Nat->Pk} (h:PR w g f m) (ht:Turn L w w') (hg:g∉L) (hl:g<w.heap.size):PR w' g f m:=by
 have e:=ht.block g hl hg;exact ⟨fun i hi=>by rw [World.cell?_of_block e]; exact h.c0 i hi,fun i hi=>by rw [World.cell?_of_block e]; exact h.c1 i hi,
  fun i hi=>by have:=h.f0 i hi; unfold World.frozen? at this ⊢; rw [e]; exact this,fun i hi=>by have:=h.f1 i hi; unfold World.frozen? at this ⊢; rw [e]; exact this⟩
theorem db4 [Ten X] {w:World} {t n:Nat} {o:Option Nat} {f:Ways} (h:Tb X w t o n f) (hn:n<=1000000000):
  Q 100 #[Qt t 10] w fun e w'=>∃ B g cap xs,e= .returned (.func (.func 130) #[] #[K B])/\Pfx w w' f n B g cap xs:=by
 obtain ⟨i0,hi0,hz0,hz1,hz2⟩:=info_parts infoP;have c0:=h.head.ten;have hl:=h.len;obtain ⟨w1,hmk,hown,hgr⟩:=run_make_own (P:=prog) (w:=w) w.heap.size 229 28 i0 (.agg #[U 0,I 0]) 2 kr hi0 hz0 hz1 .i64 .i64 n (by rw [hz2]; omega) (by unfold maxLen; omega) (Nat.le_refl _);have II:=H4 hi0 hz0 hz1 hz2;clear hi0 hz0 hz1 hz2;have hb1:Below w.heap.size w w1:=(Below.refl _ _).grown hgr (Nat.le_refl _) (fun k e=>by cases e);have hB0:=hgr.size;have hgl:=(hown.lt w.heap.size rfl).2;have hb2:=next hb1 (aa0 w1 (.cells #[Lt w.heap.size 0 n] 229));have h2:=h.held hb2;have cB:=Blk.new w1 229 #[Lt w.heap.size 0 n];have c1:=h2.head.ten;obtain ⟨w3,hrn,hrg,hg3,hs3⟩:=Ro.range h2.map;have hb3:=next hb2 ((Below.refl _ _).grown hg3 (Nat.le_refl _) (fun k e=>by cases e));have cB3:Blk 229 w3 w1.heap.size #[Lt w.heap.size 0 n]:=cB.grown (B:=0) hg3 (fun r e=>by cases e);have row3:=(hown.alloc (.cells #[Lt w.heap.size 0 n] 229)).kept hg3 (.inr (by simp [Value.ownBlock]));have C0:Col w w3 o (w1.heap.size+1) n f w1.heap.size (fun z=>(vals f z).isSome) n [] w.heap.size n:=⟨by rw [aa1] at hrg; exact hrg,sn,Came.start _ _,cB3,row3,G,G,G,hb3⟩;rw [aa1] at hrn;have CC:=Zq C0;clear hb1 hb2 hb3 h2 cB cB3 row3 hrg hg3 C0 hown hgr;go_enter Tryz.func100,Tryz.ntmps100;go_wp2_with fail;generalize hg:w1.heap.size=B at*;clear hmk hrn hl c0 c1 hs3 hgl hB0 hg;go_loopw [4] (fun _ wr=>∃ (left:Rk->Bool) (cnt:Nat) (ss:List Rk) (g cap:Nat),Hid (Col w wr o (B+1) n f B left cnt ss g cap)) (fun _ wr=>roLeft o wr (B+1))
 case atStart=>exact ⟨_,_,_,_,_,CC⟩
 case round=>
  clear CC;obtain ⟨left,cnt,ss,g,cap,C⟩:=hrel;rcases C.out.rg.next 0 with ⟨hc0,hl0,hrun⟩|⟨⟨a,len,fr⟩,v,w2,cnt2,hi,hli,hfi,hrun,hrg2,hlt,hg2,hs2,hen⟩
  ·have b0:=C.out.box.at_ 0
   have hS:=cp8 (xs:=ss.map preK) (by rw [List.length_map]; have:=C.out.card; omega) (by rw [List.length_map]; exact C.out.row);simp only [List.length_map] at hS;go_wp2_with fail;refine hS.mono ?_;rintro e w4 ⟨rfl,F,hP,hasc,hmem,hg4⟩;have hCo:=bn7 hP (by have:=C.out.card; omega) (cap:=cap) (by
    rcases C.out.row.2 with ⟨h0,-⟩|⟨_,_,_,h0,_,_,h1,_⟩
    ·cases h0
    ·cases h0; exact h1)
   have bx:Blk 229 w4 B #[Lt g ss.length cap]:=(hg4.block B C.out.box.lt (fun e=>C.out.gB (by cases e; rfl))).trans C.out.box;have hb4:Below w.heap.size w w4:=C.out.below.grown hg4 C.out.below.size (fun k e=>by cases e; exact (C.out.row.lt g rfl).1);have gl4:g<w4.heap.size:=Nat.lt_of_lt_of_le (C.out.row.lt g rfl).2 hg4.size;have Z:=H5 bx hb4 hasc hmem gl4;have b1:=bx.at_ 0;clear b0 hS hP hasc hmem hg4 bx hb4 gl4;go_wp2_with fail;refine hCo.mono ?_;rintro e w5 ⟨v5,rfl,D⟩;have bx5:Blk 229 w5 B #[Lt g ss.length cap]:=Z.out.1.turn D.turn (by simp; exact fun e=>C.out.gB e.symm);have b2:=bx5.at_ 0;have b3:=bx5.free 0;have Y:=H3 bx5 D.row D.turn;obtain rfl:=D.val;obtain ⟨xs,hxs⟩:=ey (keep F ss.length);clear D bx5;rw [hxs] at Y ⊢;have HX:=Zq hxs;clear hxs;go_wp2_with fail;go_ret;have bx6:=Y.out.1.store 0 (Lt g xs.length cap);have hT:Turn [B] w5 (w5.setCell (Aa B 0) (Lt g xs.length cap)):=Turn.setCell _ sn _;obtain ⟨F',hP',hF'⟩:=Y.out.2.1;have gl5:g<w5.heap.size:=Nat.lt_of_lt_of_le Z.out.2.2.2.2 Y.out.2.2.size;have hka:=bm5 (f:=F) (n:=ss.length) Z.out.2.2.1;rw [HX.out] at hka;refine ⟨B,g,cap,xs,rfl,bx6,⟨F',hP'.turn hT (by simp; exact C.out.gB) gl5,hF'⟩,hka.1,fun p=>?_,C.out.gB,C.out.B0,(C.out.row.lt g rfl).1,Nat.lt_of_lt_of_le gl5 hT.size,by rw [<- HX.out]; exact Nat.le_trans (ct4 _ _) (by have:=C.out.card; omega),?_⟩
   ·rw [hka.2 p,Z.out.2.2.2.1 p,List.mem_map]
    have hall:=(C.out.came.all hl0).2;constructor
    ·rintro ⟨⟨a,n,fr⟩,hk,rfl⟩
     obtain ⟨h1,h2⟩:=(hall _).1 hk;exact ⟨fr,h1,by rw [<- af3]; exact h2⟩
    ·rintro ⟨fr,h1,h2⟩
     exact ⟨⟨p.a,p.n,fr⟩,(hall _).2 ⟨h1,by rw [af3]; exact h2⟩,rfl⟩
   ·have hT2:=Y.out.2.2
    have h5:Below w.heap.size w w5:=Z.out.2.1.trans (hT2.below (fun i hi=>by simp at hi; subst hi; exact (C.out.row.lt _ rfl).1) Z.out.2.1.size);exact h5.trans (hT.below (fun i hi=>by simp at hi; subst hi; exact C.out.B0) h5.size)
  ·replace hrun:(Instr.next (K (B+1)) false 0).run prog wr= .ok (.tuple #[O true,.agg #[U a,I len,I fr],v]) w2:=hrun
   replace hen:(Instr.entry (K (B+1))).run prog w2= .ok (.tuple #[.agg #[U a,I len,I fr],v]) w2:=hen;obtain ⟨ob,hob,hwk⟩:=C.out.rg.iter_walk;have hoc:=Obj.not_cells_of_walk hwk;have bx:Blk 229 w2 B #[Lt g ss.length cap]:=C.out.box.grown (B:=0) hg2 (fun r e=>by cases e; exact ⟨Nat.zero_le _,ob,hob,hoc⟩);have rw2:=C.out.row.kept hg2 (.inr (by
    intro e;have e2:g=B+1:=by simpa [Value.ownBlock] using e
    obtain ⟨_,_,hk⟩:=Lib.ownsRow_kind C.out.row g rfl;rw [e2,hob] at hk
    cases hk
    cases hoc))
   have hb2:Below w.heap.size w w2:=C.out.below.grown hg2 C.out.below.size (fun k e=>by cases e; exact C.out.r0);have C2:=H9 C.out.card (C.out.came.step hi hli hfi) hrg2 bx rw2 hb2 C.out.gB C.out.B0 C.out.r0;have hmeas:=C.out.rg.left_eq;clear bx rw2 hb2 hrg2 hoc hwk hob C;have b0:=C2.out.2.2.2.1.at_ 0;clear hs2 hg2;have b1:=(C2.out.2.2.2.1.more (.cells #[U a,I len,I fr] 196)).at_ 0;have hz2:B<w2.heap.size:=C2.out.2.2.2.1.lt;go_wp2_with (first|(at_builtin; refine wpList_append_own _ rfl (.tmp 20) (.tmp 23) 229 rfl w.heap.size 28 i0 (.agg #[U 0,I 0]) 2 16 kr II.out.1 II.out.2.1 II.out.2.2.1 II.out.2.2.2 rfl (by decide) _ _ _ rfl ((C2.out.2.2.2.2.1.alloc _).alloc _) ⟨w2.heap.size+1,0,none⟩ 1 1 [U a,I len] rfl ?c1 ?c2 ?c3 ?c4 ?c5 ?c6 ?_))
   case c1=>rfl
   case c2=>
    intro j u hj;rw [Addr.add_mid,Nat.zero_add,show w2.heap.size+1=(w2.alloc (.cells #[U a,I len,I fr] 196)).heap.size from (aa1 _ _).symm,ab3];simpa using hj
   case c3=>
    intro u hu;simp only [List.mem_cons,List.not_mem_nil,or_false] at hu;rcases hu with rfl|rfl<;>rfl
   case c4=>have:=C2.out.1; unfold maxLen; omega
   case c5=>have:=C2.out.1; omega
   case c6=>
    have:=C2.out.2.2.2.2.2.1.size;rw [aa1,aa1];omega
   intro v' w10 hown' hgrow hnil;obtain ⟨g2,cap2,rfl⟩:∃ g2 cap2,v'= Lt g2 (ss.length+1) cap2:=by
    rcases hown'.2 with ⟨h0,-⟩|⟨g3,cap3,_,h0,_⟩
    ·exact absurd h0 (by simpa using hnil)
    ·exact ⟨g3,cap3,h0⟩
   have bx10:Blk 229 w10 B #[Lt g ss.length cap]:=(hgrow.block B (by rw [aa1,aa1]; omega) (fun e=>C2.out.2.2.2.2.2.2.1 (by simpa [Value.ownBlock] using e.symm))).trans ((C2.out.2.2.2.1.more _).more _);have hgB:g2≠B:=fun e=>by
    obtain ⟨_,_,hk⟩:=Lib.ownsRow_kind hown' g2 rfl;unfold Blk at bx10;rw [e,bx10] at hk
    cases hk
   have k1:KeepsWalks w2 w10:=((KeepsWalks.alloc w2 _).trans (KeepsWalks.alloc _ _)).trans (KeepsWalks.of_grownBy hgrow (fun j ob hj ho=>by
    obtain ⟨_,_,hk⟩:=Lib.ownsRow_kind ((C2.out.2.2.2.2.1.alloc (.cells #[U a,I len,I fr] 196)).alloc (.cells #[U a,I len] 28)) j hj;rw [ho] at hk
    cases hk;rfl))
   have hb10:Below w.heap.size w w10:=((C2.out.2.2.2.2.2.1.alloc C2.out.2.2.2.2.2.1.size _).alloc (by have:=C2.out.2.2.2.2.2.1.size; rw [aa1]; omega) _).grown hgrow (by have:=C2.out.2.2.2.2.2.1.size; rw [aa1,aa1]; omega) (fun k e=>by cases e; exact (C2.out.2.2.2.2.1.lt g rfl).1);have Z:=H5 hown' bx10 hgB k1 hb10;have b4:=bx10.at_ 0;have b5:=bx10.free 0;clear hown' hgrow hnil bx10 hgB k1 hb10 b0 b1;go_wp2_with fail;go_roundw
   case rel=>
    have hT:Turn [B] w10 (w10.setCell (Aa B 0) (Lt g2 (ss.length+1) cap2)):=Turn.setCell _ sn _;have hl:(ss++[(⟨a,len,fr⟩:Rk)]).length=ss.length+1:=sn;refine ⟨_,cnt2,ss++[⟨a,len,fr⟩],g2,cap2,C2.out.2.2.1.of_walks (Z.out.2.2.2.1.trans (KeepsWalks.setCell _ _ _)),by rw [hl]; have:=C2.out.1; omega,C2.out.2.1,?_,?_,Z.out.2.2.1,C2.out.2.2.2.2.2.2.2.1,C2.out.2.2.2.2.2.2.2.2,?_⟩
    ·rw [hl]; exact Z.out.2.1.store 0 _
    ·rw [hl,List.map_append,List.flatMap_append]
     exact ownsRow_setCell_other Z.out.1 (fun e=>Z.out.2.2.1 (by simpa [Value.ownBlock] using e)) _
    ·exact Z.out.2.2.2.2.trans (hT.below (fun i hi=>by simp at hi; subst hi; exact C2.out.2.2.2.2.2.2.2.1) Z.out.2.2.2.2.size)
   case measure=>
    have:=(C2.out.2.2.1.of_walks (Z.out.2.2.2.1.trans (KeepsWalks.setCell w10 ⟨B,0,none⟩ (Lt g2 (ss.length+1) cap2)))).left_eq;omega
end
section
open Go.RowKit Go.Maps
attribute [local go_sem] Oper.semAt_some
variable {w wr:World}{cnt n r t:Nat}{o:Option Nat}{f f':Ways}{dead left:Rk->Bool}
variable {X:Option Nat->Array Value}
section
variable {P:Program} {k t e:TypeId} {α:Type} [DecidableEq α] {E:Ke P k α} {w:World} {o:Option Nat} {n:Nat} {f:α->Option Value}
theorem Mo.drop (h:Mo E w o n f) (ht:P.underlying t=some (.map k e)) {i:α} (hw:E.ok i) (ty:TypeId):
  ∃ w' n',(Builtin.delete_ #[t,k] ty #[.map o,E.enc i]).run P w= .ok (.tuple #[]) w'/\Mo E w' o n' (cut f i)/\n'<=n/\Turn o.toList w w'/\w'.heap.size=w.heap.size:=by
 cases o with
 |none=>
  refine ⟨w,n,drop_nil ht hw ty,⟨h.1,fun x=>?_⟩,Nat.le_refl _,.refl _ _,rfl⟩;unfold cut;split
  ·rfl
  ·exact h.2 x
 |some b=>
  obtain ⟨w',n',h1,h2,h3,h4,h5⟩:=Mk.drop h ht hw ty;exact ⟨w',n',h1,h2,h3,Turn.of_grown h4 sn,h5⟩
end
theorem da3 [Ten X] {w:World} {t n:Nat} {o:Option Nat} {f:Ways} (h:Tb X w t o n f) (a:Nat) (len fr:Int) (hk:Rk.ok ⟨a,len,fr⟩) {ok:Bool} (ho:(f ⟨a,len,fr⟩).isSome=ok):
  Q 73 #[Qt t 10,.agg #[U a,I len],I fr] w fun e w'=>e= .returned (O ok)/\∃ n',Tb X w' t o n' (cutR f ⟨a,len,fr⟩)/\n'<=n/\Turn o.toList w w':=by
 obtain ⟨hb,PB⟩:=nw w 28 #[U a,I len];have hG:=ce4 (h.held hb) a len fr hk rfl ho;generalize (f ⟨a,len,fr⟩).getD Rt.zero=r at hG;obtain ⟨fr',id,seq,met,exp⟩:=r;have p0:=PB.at_ 0;have p1:=PB.at_ 1;have H:=H3 h hb PB;clear h hb PB ho;go_enter Tryz.func73,Tryz.ntmps73;go_wp2_with fail;refine hG.mono ?_;rintro e w3 ⟨rfl,hb3⟩;unfold rV;have hb4:=next hb3 (aa0 w3 (.cells #[I fr',U id,U seq,V met,I exp] 130));have hbw:=next H.out.2.1 hb4;have PW:=H.out.2.2.held hb4;have TW:=H.out.1.held hbw;clear hG p0 p1 hb3 hb4 H;go_wp2_with fail;generalize w3.alloc _=W at*;obtain ⟨w4,n',hu,hM4,hn',hT4,hs4⟩:=(TW.map.of_block (w':=W.drew) (fun b e=>rfl)).drop (t:=112) (e:=130) kr (i:=⟨a,len,fr⟩) hk 0;have hu:(Builtin.delete_ #[112,196] 0 #[.map o,.agg #[U a,I len,I fr]]).run prog W.drew= .ok (.tuple #[]) w4:=hu;have k0:=PW.at_ 0;have k1:=PW.at_ 1;have t0:W.cell? (Y t 10)=some (.map o):=TW.head.ten;have Z:=H5 TW hM4 hn' hT4 hbw;clear TW hM4 hn' hT4 hbw PW hs4;go_region;all_goals
  go_wp2_with fail;go_ret;have hM:=Z.out.2.1;rw [<- bp9] at hM;exact ⟨rfl,n',⟨Z.out.1.head.drew.turn Z.out.2.2.2.1 (fun hm=>Z.out.1.ne (b:=t) (by simpa using hm) rfl),hM⟩,Z.out.2.2.1,((Turn.of_below _ Z.out.2.2.2.2).drew).trans Z.out.2.2.2.1⟩
variable {X:Option Nat->Array Value}
structure Pw (X:Option Nat->Array Value) (w wr:World) (t r:Nat) (o:Option Nat) (f:Ways) (left:Rk->Bool) (cnt n:Nat):Prop where
 rg:Ro o wr r n (vals f) left cnt
 head:Blk 116 wr t (X o)
 turn:Turn o.toList w wr
 r0:w.heap.size<=r
theorem Pw.next {w2:World} {left':Rk->Bool} {cnt':Nat} (h:Pw X w wr t r o f left cnt n) (hrg:Ro o w2 r n (vals f) left' cnt') (hg:wr.grownBy w2 (some r)):Pw X w w2 t r o f left' cnt' n:=by
 obtain ⟨ob,hob,hwk⟩:=h.rg.iter_walk;exact ⟨hrg,h.head.grown (B:=0) hg (fun r' e=>by cases e; exact ⟨Nat.zero_le _,ob,hob,Obj.not_cells_of_walk hwk⟩),h.turn.fresh (Turn.of_grown hg sn) h.r0,h.r0⟩
theorem Pw.alloc (h:Pw X w wr t r o f left cnt n) (ob:Obj):Pw X w (wr.alloc ob) t r o f left cnt n:=
 ⟨h.rg.of_walks (KeepsWalks.alloc wr ob),h.head.more ob,h.turn.alloc ob,h.r0⟩
theorem Pw.drew (h:Pw X w wr t r o f left cnt n):Pw X w wr.drew t r o f left cnt n:=
 ⟨h.rg.of_walks ⟨Nat.le_refl _,fun _ _ h _=>h⟩,h.head.drew,h.turn.drew,h.r0⟩
theorem Pw.ne (h:Pw X w wr t r o f left cnt n):t∉o.toList:=by
 intro hm
 cases o with
 |none=>cases hm
 |some b=>
  have hb:t=b:=by simpa using hm
  obtain ⟨es,cl,h2⟩:=(Rg.map h.rg).isMap;have h3:=h.head;unfold Blk at h3;rw [hb,h2] at h3
  cases h3
theorem Pw.drop (h:Pw X w wr t r o f left cnt n) (ho:o≠none) {i:Rk} (hi:rkE.ok i):
  ∃ w' n' cnt',(Builtin.delete_ #[112,196] 0 #[.map o,.agg #[U i.a,I i.n,I i.fr]]).run prog wr= .ok (.tuple #[]) w'/\Pw X w w' t r o (cutR f i) (fun z=>left z && !decide (z=i)) cnt' n'/\cnt'<=cnt:=by
 have hne:=h.ne
 cases o with
 |none=>exact absurd rfl ho
 |some b=>
  obtain ⟨w',n',cnt',hrun,hrg,hc,hg,hs⟩:=Rg.drop (t:=112) (e:=130) h.rg kr hi 0;rw [<- bp9] at hrg;have hT:=Turn.of_grown hg (List.mem_singleton.2 rfl);exact ⟨w',n',cnt',hrun,⟨hrg,h.head.turn hT hne,h.turn.trans hT,h.r0⟩,hc⟩
def Inv (f f':Ways) (dead:Rk->Bool) (left:Rk->Bool):Prop:=∀ z,rkE.ok z->f' z=if dead z=true/\left z=false then none else f z
theorem Inv.start (f:Ways) (dead:Rk->Bool):Inv f f dead (fun z=>(vals f z).isSome):=fun z _=>by
 split
 ·rename_i h
  have h2:=h.2;simp only [af3] at h2
  cases hf:f z with
  |none=>rfl
  |some r=>rw [hf] at h2; cases h2
 ·rfl
theorem Inv.keep (h:Inv f f' dead left) {i:Rk} (hd:dead i=false):Inv f f' dead (fun z=>left z && !decide (z=i)):=fun z hz=>by
 rw [h z hz];by_cases e:z=i
 ·subst e; simp [hd]
 ·simp [e]
theorem Inv.cut (h:Inv f f' dead left) {i:Rk} (hd:dead i=true):Inv f (cutR f' i) dead (fun z=>(left z && !decide (z=i)) && !decide (z=i)):=fun z hz=>by
 unfold cutR;by_cases e:z=i
 ·subst e; simp [hd]
 ·rw [if_neg e,h z hz]
  simp [e]
def lessF (f:Ways) (dead:Rk->Bool):Ways:=fun z=>if dead z=true then none else f z
theorem Mk.congr {P:Program} {k:TypeId} {α:Type} {E:Ke P k α} {b:Nat} {f f':α->Option Value} (h:Mk E w b n f) (he:∀ z,E.ok z->f z=f' z):Mk E w b n f':=by
 obtain ⟨D,h1,h2,S⟩:=h;refine ⟨D,h1,h2,fun z hz=>?_⟩;rw [<- he z hz];exact S z hz
theorem Pw.done {n0:Nat} (h:Pw X w wr t r o f' left cnt n) (h0:Mo rkE w o n0 (vals f)) (hI:Inv f f' dead left) (hl:∀ z,rkE.ok z->left z=false):Tb X wr t o n (lessF f dead):=by
 refine ⟨h.head,?_⟩
 cases o with
 |none=>
  refine ⟨h.rg.2.1,fun x=>?_⟩;have:=h0.2 x;unfold vals lessF at*;split
  ·rfl
  ·exact this
 |some b=>
  refine Mk.congr (Rg.map h.rg) fun z hz=>?_
  unfold vals lessF;rw [hI z hz];simp [hl z hz]
theorem Ro.some {f:Rk->Option Value} (h:Ro o wr r n f left cnt) {i:Rk} (hl:left i=true):o≠none:=fun e=>by
 subst e;have:=h.2.2.2 i;rw [hl] at this
 cases this
theorem bw1 [Ten X] {w:World} {t n:Nat} {o:Option Nat} {f:Ways} (h:Tb X w t o n f) (fr:Int):
  Q 109 #[Qt t 10,I fr] w fun e w'=>e= .returned (.tuple #[])/\∃ n',Tb X w' t o n' (lessF f fun z=>decide (z.fr=fr))/\Turn o.toList w w':=by
 have c0:=h.head.ten;obtain ⟨w1,hrn,hrg,hg1,hs1⟩:=Ro.range h.map;have P0:Pw X w w1 t w.heap.size o f (fun z=>(vals f z).isSome) n n:=⟨hrg,h.head.grown (B:=0) hg1 (fun r e=>by cases e),(Turn.refl _ _).trans ⟨hg1.os,hg1.tape,hg1.output,hg1.size,fun i hi _=>hg1.block i hi sn⟩,Nat.le_refl _⟩;have H:=H2 h P0;clear h hrg hg1 P0 hs1;go_enter Tryz.func109,Tryz.ntmps109;go_wp2_with fail;generalize hgR:w.heap.size=r at*;clear hrn c0 hgR;go_loopw [4] (fun _ wr=>∃ (f':Ways) (left:Rk->Bool) (cnt n':Nat),Hid (Pw X w wr t r o f' left cnt n'/\Inv f f' (fun z=>decide (z.fr=fr)) left)) (fun _ wr=>roLeft o wr r)
 case atStart=>exact ⟨_,_,_,_,H.out.2,Inv.start _ _⟩
 case round=>
  obtain ⟨f',left,cnt,n',R⟩:=hrel;rcases R.out.1.rg.next 0 with ⟨hc0,hl0,hrun⟩|⟨⟨ka,kn,kf⟩,v,w2,cnt2,hi,hli,hfi,hrun,hrg2,hlt,hg2,hs2,hen⟩
  ·go_wp2_with fail
   go_end0;exact ⟨rfl,n',R.out.1.done H.out.1.map R.out.2 hl0,R.out.1.turn⟩
  ·have hon:=R.out.1.rg.some hli
   have P2:=(R.out.1.next hrg2 hg2).alloc (.cells #[U ka,I kn,I kf] 196);have hmeas:=R.out.1.rg.left_eq;replace hrun:(Instr.next (K r) false 0).run prog wr= .ok (.tuple #[O true,.agg #[U ka,I kn,I kf],v]) w2:=hrun;replace hen:(Instr.entry (K r)).run prog w2= .ok (.tuple #[.agg #[U ka,I kn,I kf],v]) w2:=hen;clear hs2 hg2 hrg2;by_cases hd:kf=fr
   ·have R2:=Zq (R.out.2.cut (i:=⟨ka,kn,kf⟩) (by simp [hd]))
    subst hd;have KB:=Blk.new w2 196 #[U ka,I kn,I kf];clear R;go_wp2_with fail;clear hrun hen;generalize w2.alloc _=W at*;have k0:=KB.at_ 0;have k1:=KB.at_ 1;have k2:=KB.at_ 2;have t0:W.cell? (Y t 10)=some (.map o):=P2.head.ten;obtain ⟨w4,n4,cnt4,hu,P4,hc4⟩:=P2.drew.drop hon hi;replace hu:(Builtin.delete_ #[112,196] 0 #[.map o,.agg #[U ka,I kn,I kf]]).run prog W.drew= .ok (.tuple #[]) w4:=hu;have Z:=Zq P4;clear P4 P2 KB;go_region;all_goals
     go_wp2_with fail;go_roundw
     case rel=>exact ⟨_,_,cnt4,n4,Z.out,R2.out⟩
     case measure=>
      have:=Z.out.rg.left_eq;omega
   ·have R2:=Zq (R.out.2.keep (i:=⟨ka,kn,kf⟩) (by simp [hd]))
    have P3:=Zq P2;clear P2 R;go_wp2_with fail;go_roundw
    case rel=>exact ⟨f',_,cnt2,n',P3.out,R2.out⟩
    case measure=>
     have:=P3.out.rg.left_eq;omega
end
end Go.Proofs.YtafkfnodcemefaaGreat
