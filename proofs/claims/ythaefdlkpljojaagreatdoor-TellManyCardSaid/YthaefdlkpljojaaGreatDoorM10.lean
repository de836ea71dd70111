import Derived.Test.YthaefdlkpljojaaGreatDoorM09
import Derived.WalkMore
import Derived.Test.YthaefdlkpljojaaGreatDoorM08
import Derived.Test.YthaefdlkpljojaaGreatDoorM07
import Derived.Test.YthaefdlkpljojaaGreatDoorM06
set_option maxHeartbeats 8000000
namespace Go.Proofs.YthaefdlkpljojaaGreatDoor
open Go.RowKit Go.Sort
section
variable {α:Type} [Inhabited α] {cl:α→List Value} {k:Nat}
theorem flat_get (hk:∀ x,(cl x).length=k):∀ (xs:List α) (j:Nat),j<xs.length*k→(xs.flatMap cl)[j]?=(cl xs[j / k]!)[j % k]?
 |[],j,h=>by simp at h
 |x::r,j,h=>by
  have hk0:0<k:=by
   rcases Nat.eq_zero_or_pos k with h0|h0
   ·subst h0; simp at h
   ·exact h0
  rw [List.flatMap_cons]
  by_cases hj:j<k
  ·rw [List.getElem?_append_left (by rw [hk]; exact hj),Nat.div_eq_of_lt hj,Nat.mod_eq_of_lt hj]
   rfl
  ·have hj':k≤j:=Nat.le_of_not_lt hj
   have h':j - k<r.length*k:=by rw [List.length_cons,Nat.add_mul,Nat.one_mul] at h; omega
   rw [List.getElem?_append_right (by rw [hk]; exact hj'),hk,flat_get hk r (j - k) h']
   have e1:j / k=(j - k) / k+1:=by
    have:j=(j - k)+k:=by omega
    conv=>lhs; rw [this]
    exact Nat.add_div_right _ hk0
   have e2:j % k=(j - k) % k:=by
    have:j=(j - k)+k:=by omega
    conv=>lhs; rw [this]
    exact Nat.add_mod_right _ _
   rw [e1,e2]
   simp
def Row (cl:α→List Value) (k:Nat) (w:World) (v:Value) (xs:List α):Prop:=
 (v= .slice none 0 0∧xs=[])∨∃ g cap,v= .slice (some ⟨g,0,none⟩) xs.length cap∧xs.length≤cap∧cap≤maxLen∧∀ i (h:i<xs.length) j,j<k→w.cell? ⟨g,i*k+j,none⟩=(cl xs[i])[j]?
omit [Inhabited α] in
theorem Row.slice {w:World} {v:Value} {xs:List α} (h:Row cl k w v xs):∃ p n c,v= .slice p n c:=by
 rcases h with ⟨rfl,-⟩|⟨g,cap,rfl,-⟩
 ·exact ⟨_,_,_,rfl⟩
 ·exact ⟨_,_,_,rfl⟩
theorem bnd_at {i j n k:Nat} (hi:i<n) (hj:j<k):i*k+j<n*k:=by
 have:=Nat.mul_le_mul_right k (show i+1≤n from hi)
 rw [Nat.add_mul,Nat.one_mul] at this
 omega
theorem getB {l:List Value} {j:Nat} (h:j<l.length):l[j]?=some (l[j]!):=by rw [List.getElem?_eq_getElem h]; simp [h]
theorem Row.of_owns {w:World} {base:Nat} {e:TypeId} {v:Value} {xs:List α} (hk:∀ x,(cl x).length=k) (h:w.ownsRow base e k v xs.length (xs.flatMap cl)):Row cl k w v xs:=by
 rcases h.2 with ⟨rfl,h0⟩|⟨g,cap,cur,rfl,-,hb,h1,h2,h3,h4⟩
 ·exact .inl ⟨rfl,List.eq_nil_of_length_eq_zero h0⟩
 ·refine .inr ⟨g,cap,rfl,h1,h2,fun i hi j hj=>?_⟩
  have hj2:i*k+j<xs.length*k:=bnd_at hi hj
  have e1:(xs.flatMap cl)[i*k+j]?=(cl xs[i])[j]?:=by
   have hk0:0<k:=by omega
   rw [flat_get hk xs _ hj2,show (i*k+j) / k=i from by rw [Nat.mul_comm,Nat.mul_add_div hk0,Nat.div_eq_of_lt hj]; rfl,show (i*k+j) % k=j from by rw [Nat.mul_comm,Nat.mul_add_mod,Nat.mod_eq_of_lt hj]]
   simp [hi]
  rw [← e1,← h4]
  simp only [World.cell?,hb]
  rw [List.getElem?_take_of_lt (by exact hj2)]
  simp
theorem holdsK_of_owns {w:World} {g:Nat} {cur:Array Value} {e:TypeId} {xs:List α} (hk:∀ x,(cl x).length=k) (hb:w.heap[g]?=some (.cells cur e (0,0))) (h4:cur.toList.take (xs.length*k)=xs.flatMap cl):HoldsK cl k w g 0 xs.toArray:=by
 intro j hj
 have hj:j<xs.length*k:=by simpa using hj
 have e1:(xs.flatMap cl)[j]?=some ((flatK cl k xs.toArray)[j]!):=by
  rw [get_flatK _ _ _ _ (by simpa using hj),flat_get hk xs j hj]
  have hk0:0<k:=by
   rcases Nat.eq_zero_or_pos k with h0|h0
   ·subst h0; simp at hj
   ·exact h0
  have hl:j % k<(cl xs[j / k]!).length:=by rw [hk]; exact Nat.mod_lt _ hk0
  rw [getB hl]
  simp
 refine ⟨?_,by simp [World.frozen?,hb]⟩
 show w.cell? ⟨g,0+j,none⟩=some _
 rw [Nat.zero_add]
 show _=some ((flatK cl k xs.toArray)[j]!)
 rw [← e1,← h4,List.getElem?_take_of_lt hj]
 simp [World.cell?,hb]
theorem grownBy_sortK {w:World} {g n:Nat} {os:Array Obj} (d:Array α):w.grownBy (sortWorldK cl k w g 0 n d os) (some g):=by
 unfold sortWorldK
 refine ⟨rfl,rfl,rfl,by rw [size_grow,size_putRowK]; exact Nat.le_add_right _ _,fun i hi hne=>?_⟩
 rw [heap_grow_old _ _ (by rw [size_putRowK]; exact hi)]
 show (Array.modify _ g _)[i]?=_
 rw [Array.getElem?_modify,if_neg (fun e=>hne (by rw [e]))]
 rfl
theorem Row.of_holds {w:World} {g cap:Nat} {d:Array α} (hk:∀ x,(cl x).length=k) (h:HoldsK cl k w g 0 d) (h1:d.size≤cap) (h2:cap≤maxLen):Row cl k w (.slice (some ⟨g,0,none⟩) d.size cap) d.toList:=by
 refine .inr ⟨g,cap,by simp,by simpa using h1,h2,fun i hi j hj=>?_⟩
 have hi':i<d.size:=by simpa using hi
 have:=(h.cell hi' hj).1
 rw [Nat.zero_add] at this
 have hl:j<(cl d[i]!).length:=by rw [hk]; exact hj
 rw [this,show d.toList[i]=d[i]! from by simp [hi'],getB hl]
omit [Inhabited α] in
theorem Row.keep {w w':World} {v:Value} {xs:List α} {L:List Nat} (h:Row cl k w v xs) (hK:Keep L w w') (hL:∀ b,v.ownBlock=some b→b∈L):Row cl k w' v xs:=by
 rcases h with ⟨rfl,rfl⟩|⟨g,cap,rfl,h1,h2,h3⟩
 ·exact .inl ⟨rfl,rfl⟩
 ·exact .inr ⟨g,cap,rfl,h1,h2,fun i hi j hj=>by rw [World.cell?_of_block (hK g (hL g rfl))]; exact h3 i hi j hj⟩
theorem sorted_pairs {lt:α→α→Bool} {d:Array α} (h:SortedIn lt 0 d.size d):d.toList.Pairwise fun x y=>lt y x=false:=by
 rw [List.pairwise_iff_getElem]
 intro i j hi hj hij
 have:=h i j (Nat.zero_le _) hij (by simpa using hj)
 simp only [Array.length_toList] at hi hj
 simpa [hi,hj] using this
theorem perm_lists {d d':Array α} (h:PermIn 0 d.size d d'):d'.toList.Perm d.toList:=by
 have h3:=h.2.2
 rw [← h.1] at h3
 have e:d'.extract 0 d'.size=d':=by simp
 rw [e,h.1] at h3
 simpa using h3
end
def itL (B1 B2:Nat) (v:Value) (o:Option Nat):List Nat:=B1::B2::(v.ownBlock.toList++o.toList)
theorem mem_itL {B1 B2:Nat} {v:Value} {o:Option Nat} {b:Nat}:b∈itL B1 B2 v o↔b=B1∨b=B2∨v.ownBlock=some b∨o=some b:=by
 unfold itL
 simp [eq_comm]
end Go.Proofs.YthaefdlkpljojaaGreatDoor
namespace Go.Proofs.YthaefdlkpljojaaGreatDoor
open Go.RowKit Go.Maps Rm
def nearest (xs:List Rh) (x:Rh):Bool:=xs.all fun o=>decide (x.2≤o.2)
def pickL (xs:List Rh):Option Rh:=xs.find? (nearest xs)
def Mr.pick (M:Mr) (a:Nat) (len:Int):Option Rt:=(pickL (M.openL a len 9)).map (·.1)
theorem find_none {α:Type} {p:α→Bool} {xs:List α} (h:∀ i (h:i<xs.length),p xs[i]=false):xs.find? p=none:=by
 rw [List.find?_eq_none]
 intro x hx
 obtain ⟨i,hi,rfl⟩:=List.mem_iff_getElem.1 hx
 rw [h i hi]
 simp
theorem find_at {α:Type} {p:α→Bool} {xs:List α} {k:Nat} (hk:k<xs.length) (h:∀ i (h:i<xs.length),i<k→p xs[i]=false) (hp:p xs[k]=true):xs.find? p=some xs[k]:=by
 rw [List.find?_eq_some_iff_getElem]
 refine ⟨hp,k,hk,rfl,fun j hj=>?_⟩
 rw [h j (by omega) hj]
 rfl
set_option maxRecDepth 100000 in
theorem pick_any {w:World} {R:Nat} {o fl tb:Option Nat} {j:Jr} {N n:Nat} {M:Mr} {rb pb a:Nat} {len:Int} (h:Asks w R o fl tb j N n M rb pb a len) (ha:a<4294967296) (hl:-9223372036854775808≤len∧len≤9223372036854775807) {r:Rt} {ok:Bool} (hr:(M.pick a len).getD Rt.zero=r) (hok:(M.pick a len).isSome=ok):
  Calls Tryz.prog 63 #[.pointer (some ⟨R,10,none⟩),.agg #[.int .u32 a,.int .i64 len],.func (.func 64) #[.pointer (some ⟨R,0,none⟩)] #[],.func (.func 65) #[] #[.pointer (some ⟨rb,0,none⟩),.pointer (some ⟨pb,0,none⟩)]] w fun e w'=>
   e= .returned (.tuple #[rV r,.bool ok])∧Below w.heap.size w w':=by
 have PB:=(Blk.new w 33 #[.int .u32 a,.int .i64 len]).more (.cells #[.int .i64 0,.int .u32 0,.int .u32 0,.int .u16 0,.int .i64 0] 102)
 have RB:=Blk.new (w.alloc (.cells #[.int .u32 a,.int .i64 len] 33)) 102 #[.int .i64 0,.int .u32 0,.int .u32 0,.int .u16 0,.int .i64 0]
 rw [size_new] at RB
 have hb:=next (below_new w (.cells #[.int .u32 a,.int .i64 len] 33)) (below_new _ (.cells #[.int .i64 0,.int .u32 0,.int .u32 0,.int .u16 0,.int .i64 0] 102))
 have HA:=h.held hb
 have HR:=Lib.hid (And.intro hr hok)
 clear h hr hok
 go_enter Tryz.func63,Tryz.ntmps63
 go_wp2_with fail
 have p0:=PB.at_ 0
 have p1:=PB.at_ 1
 have HO:=open_any HA ha hl
 have H0:=Lib.hid (And.intro RB (And.intro hb HO))
 clear HA RB hb HO PB
 generalize hg:w.heap.size=g at*
 have HG:=Lib.hid hg
 clear hg
 generalize (w.alloc (.cells #[.int .u32 a,.int .i64 len] 33)).alloc (.cells #[.int .i64 0,.int .u32 0,.int .u32 0,.int .u16 0,.int .i64 0] 102)=w2 at*
 go_step3
 go_wp2_with fail
 refine H0.out.2.2.mono ?_
 rintro e w3 ⟨v,rfl,hown,hb3⟩
 have hrow:=Row.of_owns rhcl_len hown
 generalize hxs:M.openL a len 9=xs at*
 have hn9:xs.length≤9:=by rw [← hxs]; exact openL_len _ _ _ _
 obtain ⟨vp,vc,rfl,hcells⟩:∃ vp vc,v= .slice vp xs.length vc∧∀ k (hk:k<xs.length),∃ g',vp=some ⟨g',0,none⟩∧∀ j,j<6→w3.cell? ⟨g',k*6+j,none⟩=(rhcl xs[k])[j]?:=by
  rcases hrow with ⟨rfl,rfl⟩|⟨g',cap,rfl,h1,h2,h3⟩
  ·exact ⟨none,0,rfl,fun k hk=>by simp at hk⟩
  ·exact ⟨_,cap,rfl,fun k hk=>⟨g',rfl,fun j hj=>h3 k hk j hj⟩⟩
 have RB3:=H0.out.1.held hb3
 have H3:=Lib.hid (And.intro RB3 (And.intro (H0.out.2.1.trans (hb3.mono (by have:=H0.out.1.lt; omega))) (And.intro hcells hxs)))
 clear hown hb3 hrow hcells RB3 H0 p0 p1 hxs
 go_wp2_with fail
 go_step3
 go_wp2_with fail
 go_loopw [22] (fun i wr=>∃ k:Nat,k≤xs.length∧i= .int .i64 k∧(Below w3.heap.size w3 wr∧∀ i (h:i<xs.length),i<k→nearest xs xs[i]=false)) (fun i _=>xs.length - (intOf i).toNat)
 case atStart=>exact ⟨0,by omega,rfl,.refl _ _,fun i _ h=>by omega⟩
 case round=>
  obtain ⟨k,hk,rfl,hB,hno⟩:=hrel
  by_cases hkx:k<xs.length
  ·obtain ⟨g',rfl,hc⟩:=H3.out.2.2.1 k hkx
   obtain ⟨⟨⟨fr,id,seq,met,exp⟩,m⟩,hx⟩:∃ x,xs[k]=x:=⟨_,rfl⟩
   rw [hx] at hc
   have c0:=held hB (hc 0 (by omega))
   have c1:=held hB (hc 1 (by omega))
   have c2:=held hB (hc 2 (by omega))
   have c3:=held hB (hc 3 (by omega))
   have c4:=held hB (hc 4 (by omega))
   have c5:=held hB (hc 5 (by omega))
   simp only [Nat.add_zero] at c0
   have WB:=Blk.new wr 186 (rhcl (⟨fr,id,seq,met,exp⟩,m)).toArray
   have hb4:=hB.trans ((below_new wr (.cells (rhcl (⟨fr,id,seq,met,exp⟩,m)).toArray 186)).mono hB.size)
   have R:=Lib.hid (And.intro hno (And.intro WB (And.intro hb4 hx)))
   clear hno WB hb4 hx hc hB
   go_wp2_with fail
   generalize hW:wr.heap.size=W at*
   have HW:=Lib.hid hW
   clear hW c0 c1 c2 c3 c4 c5
   generalize hw5:wr.alloc (.cells #[.int .i64 fr,.int .u32 id,.int .u32 seq,.int .u16 met,.int .i64 exp,.int .u16 m] 186)=w5 at*
   have WB5:Blk 186 w5 W #[.int .i64 fr,.int .u32 id,.int .u32 seq,.int .u16 met,.int .i64 exp,.int .u16 m]:=by rw [← hw5,← HW.out]; exact Blk.new wr _ _
   have hb5:Below w3.heap.size w3 w5:=by rw [← hw5]; exact R.out.2.2.1
   have R5:=Lib.hid (And.intro R.out.1 (And.intro WB5 (And.intro hb5 R.out.2.2.2)))
   clear R WB5 hb5 hw5
   go_loopw [28] (fun j wr=>∃ q:Nat,q≤xs.length∧j= .int .i64 q∧(Below w5.heap.size w5 wr∧∀ i (h:i<xs.length),i<q→m≤xs[i].2)) (fun j _=>xs.length - (intOf j).toNat)
   case atStart=>exact ⟨0,by omega,rfl,.refl _ _,fun i _ h=>by omega⟩
   case round=>
    obtain ⟨q,hq,rfl,hB,hle⟩:=hrel
    by_cases hqx:q<xs.length
    ·obtain ⟨g2,he2,hc⟩:=H3.out.2.2.1 q hqx
     cases he2
     obtain ⟨⟨⟨fr2,id2,seq2,met2,exp2⟩,m2⟩,hx2⟩:∃ x,xs[q]=x:=⟨_,rfl⟩
     rw [hx2] at hc
     have hB3:=R5.out.2.2.1.trans (hB.mono R5.out.2.2.1.size)
     have c0:=held hB3 (hc 0 (by omega))
     have c1:=held hB3 (hc 1 (by omega))
     have c2:=held hB3 (hc 2 (by omega))
     have c3:=held hB3 (hc 3 (by omega))
     have c4:=held hB3 (hc 4 (by omega))
     have c5:=held hB3 (hc 5 (by omega))
     simp only [Nat.add_zero] at c0
     have hbn:=below_new wr (.cells #[.int .i64 fr2,.int .u32 id2,.int .u32 seq2,.int .u16 met2,.int .i64 exp2,.int .u16 m2] 186)
     have WBn:=(R5.out.2.1.held hB).held hbn
     have wl:W<wr.heap.size:=(R5.out.2.1.held hB).lt
     have w5':=WBn.at_ 5
     have Q:=Lib.hid (And.intro hB (And.intro hle (And.intro hx2 (And.intro hbn (hB.trans (hbn.mono hB.size))))))
     clear hB hle hx2 hc hB3 hbn WBn
     cases hlt:decide (m2<m) with
     |true=>
      have hno:nearest xs (⟨fr,id,seq,met,exp⟩,m)=false:=by
       unfold nearest
       rw [List.all_eq_false]
       exact ⟨xs[q],List.getElem_mem hqx,by rw [Q.out.2.2.1]; have:=of_decide_eq_true hlt; simp; omega⟩
      have N:=Lib.hid hno
      clear hno
      go_wp2_with fail
      go_roundw
      case rel=>
       refine ⟨k+1,by omega,by go_num,R5.out.2.2.1.trans (Q.out.2.2.2.2.mono R5.out.2.2.1.size),fun i h hi=>?_⟩
       by_cases e:i=k
       ·subst e; rw [R5.out.2.2.2]; exact N.out
       ·exact R5.out.1 i h (by omega)
      case measure=>simp [intOf]; omega
     |false=>
      go_wp2_with fail
      go_roundw
      case rel=>
       refine ⟨q+1,by omega,by go_num,Q.out.2.2.2.2,fun i h hi=>?_⟩
       by_cases e:i=q
       ·subst e; rw [Q.out.2.2.1]; have:=of_decide_eq_false hlt; omega
       ·exact Q.out.2.1 i h (by omega)
      case measure=>simp [intOf]; omega
    ·obtain rfl:q=xs.length:=by omega
     have hnear:nearest xs xs[k]=true:=by
      rw [R5.out.2.2.2]
      unfold nearest
      rw [List.all_eq_true]
      intro x hx
      obtain ⟨i,hi,rfl⟩:=List.mem_iff_getElem.1 hx
      exact decide_eq_true (hle i hi hi)
     have hpk:M.pick a len=some ⟨fr,id,seq,met,exp⟩:=by
      unfold Mr.pick pickL
      rw [H3.out.2.2.2,find_at hkx (fun i h hi=>R5.out.1 i h hi) hnear,R5.out.2.2.2]
      rfl
     have hans:(⟨fr,id,seq,met,exp⟩:Rt)=r∧true=ok:=by
      have h1:=HR.out.1
      have h2:=HR.out.2
      rw [hpk] at h1 h2
      exact ⟨h1,h2⟩
     obtain ⟨rfl,rfl⟩:=hans
     have WB:=R5.out.2.1.held hB
     have hB3:=R5.out.2.2.1.trans (hB.mono R5.out.2.2.1.size)
     have RB:=H3.out.1.held hB3
     have c0:=WB.at_ 0
     have c1:=WB.at_ 1
     have c2:=WB.at_ 2
     have c3:=WB.at_ 3
     have c4:=WB.at_ 4
     have r0:=RB.at_ 0
     have r1:=RB.at_ 1
     have r2:=RB.at_ 2
     have r3:=RB.at_ 3
     have r4:=RB.at_ 4
     have f0:=RB.free 0
     have f1:=RB.free 1
     have f2:=RB.free 2
     have f3:=RB.free 3
     have f4:=RB.free 4
     have R4:=((((RB.store 0 (.int .i64 fr)).store 1 (.int .u32 id)).store 2 (.int .u32 seq)).store 3 (.int .u16 met)).store 4 (.int .i64 exp)
     have hb9:Below w.heap.size w wr:=(H3.out.2.1.trans (hB3.mono (by have:=H3.out.2.1.size; have:=HG.out; omega))).mono (by have:=HG.out; omega)
     have hb10:Below w.heap.size w (((((wr.setCell ⟨g+1,0,none⟩ (.int .i64 fr)).setCell ⟨g+1,1,none⟩ (.int .u32 id)).setCell ⟨g+1,2,none⟩ (.int .u32 seq)).setCell ⟨g+1,3,none⟩ (.int .u16 met)).setCell ⟨g+1,4,none⟩ (.int .i64 exp)):=by
      have hgg:=HG.out
      exact ((((hb9.setCell (by simp; omega) _).setCell (by simp; omega) _).setCell (by simp; omega) _).setCell (by simp; omega) _).setCell (by simp; omega) _
     have Z:=Lib.hid (And.intro R4 hb10)
     clear WB hB3 RB R4 hb9 hb10 hB hle hnear hpk
     go_wp2_with fail
     rw [Exit.noGoto_ret]
     (try go_wp2_with fail)
     refine bodyPost_ret (v:= .tuple #[rV ⟨fr,id,seq,met,exp⟩,.bool true]) ?_ rfl ⟨rfl,Z.out.2⟩
     have q0:=Z.out.1.at_ 0
     have q1:=Z.out.1.at_ 1
     have q2:=Z.out.1.at_ 2
     have q3:=Z.out.1.at_ 3
     have q4:=Z.out.1.at_ 4
     clear Z c0 c1 c2 c3 c4 r0 r1 r2 r3 r4 f0 f1 f2 f3 f4
     generalize ((((wr.setCell ⟨g+1,0,none⟩ (.int .i64 fr)).setCell ⟨g+1,1,none⟩ (.int .u32 id)).setCell ⟨g+1,2,none⟩ (.int .u32 seq)).setCell ⟨g+1,3,none⟩ (.int .u16 met)).setCell ⟨g+1,4,none⟩ (.int .i64 exp)=Z at*
     simp [results,Tryz.results63,go_sem,q0,q1,q2,q3,q4,rV]
  ·obtain rfl:k=xs.length:=by omega
   have hpk:M.pick a len=none:=by
    unfold Mr.pick pickL
    rw [H3.out.2.2.2,find_none (fun i h=>hno i h h)]
    rfl
   have hans:Rt.zero=r∧false=ok:=by
    have h1:=HR.out.1
    have h2:=HR.out.2
    rw [hpk] at h1 h2
    exact ⟨h1,h2⟩
   obtain ⟨rfl,rfl⟩:=hans
   have RB:=H3.out.1.held hB
   have r0:=RB.at_ 0
   have r1:=RB.at_ 1
   have r2:=RB.at_ 2
   have r3:=RB.at_ 3
   have r4:=RB.at_ 4
   have f0:=RB.free 0
   have f1:=RB.free 1
   have f2:=RB.free 2
   have f3:=RB.free 3
   have f4:=RB.free 4
   have R4:=((((RB.store 0 (.int .i64 0)).store 1 (.int .u32 0)).store 2 (.int .u32 0)).store 3 (.int .u16 0)).store 4 (.int .i64 0)
   have hb9:Below w.heap.size w wr:=(H3.out.2.1.trans (hB.mono (by have:=H3.out.2.1.size; have:=HG.out; omega))).mono (by have:=HG.out; omega)
   have hb10:Below w.heap.size w (((((wr.setCell ⟨g+1,0,none⟩ (.int .i64 0)).setCell ⟨g+1,1,none⟩ (.int .u32 0)).setCell ⟨g+1,2,none⟩ (.int .u32 0)).setCell ⟨g+1,3,none⟩ (.int .u16 0)).setCell ⟨g+1,4,none⟩ (.int .i64 0)):=by
    have hgg:=HG.out
    exact ((((hb9.setCell (by simp; omega) _).setCell (by simp; omega) _).setCell (by simp; omega) _).setCell (by simp; omega) _).setCell (by simp; omega) _
   have Z:=Lib.hid (And.intro R4 hb10)
   clear RB R4 hb9 hb10 hB hno hpk
   go_wp2_with fail
   rw [Exit.noGoto_ret]
   (try go_wp2_with fail)
   refine bodyPost_ret (v:= .tuple #[rV Rt.zero,.bool false]) ?_ rfl ⟨rfl,Z.out.2⟩
   have q0:=Z.out.1.at_ 0
   have q1:=Z.out.1.at_ 1
   have q2:=Z.out.1.at_ 2
   have q3:=Z.out.1.at_ 3
   have q4:=Z.out.1.at_ 4
   clear Z r0 r1 r2 r3 r4 f0 f1 f2 f3 f4
   generalize ((((wr.setCell ⟨g+1,0,none⟩ (.int .i64 0)).setCell ⟨g+1,1,none⟩ (.int .u32 0)).setCell ⟨g+1,2,none⟩ (.int .u32 0)).setCell ⟨g+1,3,none⟩ (.int .u16 0)).setCell ⟨g+1,4,none⟩ (.int .i64 0)=Z at*
   simp [results,Tryz.results63,go_sem,q0,q1,q2,q3,q4,rV,Rt.zero]
theorem rr_way {w:World} {R:Nat} {o fl tb:Option Nat} {j:Jr} {N n:Nat} {M:Mr} (h:Rr w R o fl tb j N n M) {a:Nat} {len:Int} (hp:Pk.ok ⟨a,len⟩) {fr exp:Int} {id seq met:Nat} {ok:Bool} (hr:(M.pick a len).getD Rt.zero=⟨fr,id,seq,met,exp⟩) (hok:(M.pick a len).isSome=ok):
  Calls Tryz.prog 41 #[.pointer (some ⟨R,0,none⟩),.agg #[.int .u32 a,.int .i64 len]] w fun e w'=>e= .returned (.tuple #[.agg #[.int .i64 fr,.int .u32 id,.int .u32 seq,.int .u16 met,.int .i64 exp],.bool ok])∧Below w.heap.size w w':=by
 have hb:=next (next (below_new w (.cells #[.pointer (some ⟨R,0,none⟩)] 59)) (below_new _ (.cells #[.int .u32 a,.int .i64 len] 33))) (below_new _ (.cells #[.int .i64 0,.int .u32 0,.int .u32 0,.int .u16 0,.int .i64 0] 102))
 have RB:=((Blk.new w 59 #[.pointer (some ⟨R,0,none⟩)]).more (.cells #[.int .u32 a,.int .i64 len] 33)).more (.cells #[.int .i64 0,.int .u32 0,.int .u32 0,.int .u16 0,.int .i64 0] 102)
 have PB:=(Blk.new (w.alloc (.cells #[.pointer (some ⟨R,0,none⟩)] 59)) 33 #[.int .u32 a,.int .i64 len]).more (.cells #[.int .i64 0,.int .u32 0,.int .u32 0,.int .u16 0,.int .i64 0] 102)
 have DB:=Blk.new ((w.alloc (.cells #[.pointer (some ⟨R,0,none⟩)] 59)).alloc (.cells #[.int .u32 a,.int .i64 len] 33)) 102 #[.int .i64 0,.int .u32 0,.int .u32 0,.int .u16 0,.int .i64 0]
 rw [size_new] at PB
 rw [size_new,size_new] at DB
 have h1:=h.held hb
 go_enter Tryz.func41,Tryz.ntmps41
 go_upto_region 1 with fail
 generalize ((w.alloc (.cells #[.pointer (some ⟨R,0,none⟩)] 59)).alloc (.cells #[.int .u32 a,.int .i64 len] 33)).alloc (.cells #[.int .i64 0,.int .u32 0,.int .u32 0,.int .u16 0,.int .i64 0] 102)=W at*
 have A1:Asks W R o fl tb j N n M w.heap.size (w.heap.size+1) a len:=⟨h1,RB,PB⟩
 have HP:=pick_any (A1.held (Below.refl _ _).drew) hp.1 hp.2 hr hok
 have r0:W.drew.cell? ⟨w.heap.size,0,none⟩=some (.pointer (some ⟨R,0,none⟩)):=RB.at_ 0
 have p0:W.drew.cell? ⟨w.heap.size+1,0,none⟩=some (.int .u32 a):=PB.at_ 0
 have p1:W.drew.cell? ⟨w.heap.size+1,1,none⟩=some (.int .i64 len):=PB.at_ 1
 have X:=Lib.hid (And.intro hb DB)
 dsimp only [rV] at HP
 clear h h1 RB PB hb DB A1 hr hok
 generalize hbw:w.heap.size=b at*
 have HBW:=Lib.hid hbw
 clear hbw
 refine wp_region_held_drew (S:=fun u=>u.cell? ⟨b,0,none⟩=some (.pointer (some ⟨R,0,none⟩))∧u.cell? ⟨b+1,0,none⟩=some (.int .u32 a)∧u.cell? ⟨b+1,1,none⟩=some (.int .i64 len)) (by kernel_rfl) ⟨r0,p0,p1⟩ (fun hHeld=>?_)
 refine take_list (i:=0) (v:= .pointer (some ⟨R,0,none⟩)) rfl (by kernel_rfl) (by kernel_rfl) (by kernel_rfl) (fun _ _ _ h=>h) (.inl ⟨rfl,?_⟩) hHeld ?_
 ·(intro w hSw; go_simp)
 go_frame
 refine take_list (i:=1) (v:= .pointer (some ⟨R,0,none⟩)) rfl (by kernel_rfl) (by kernel_rfl) (by kernel_rfl) (fun _ _ _ h=>h) (.inl ⟨rfl,?_⟩) hHeld ?_
 ·(intro w hSw; go_simp)
 go_frame
 refine take_list (i:=2) (v:= .pointer (some ⟨R,10,none⟩)) rfl (by kernel_rfl) (by kernel_rfl) (by kernel_rfl) (fun _ _ _ h=>h) (.inl ⟨rfl,?_⟩) hHeld ?_
 ·(intro w hSw; go_simp)
 go_frame
 refine take_list (i:=3) (v:= .agg #[.int .u32 a,.int .i64 len]) rfl (by kernel_rfl) (by kernel_rfl) (by kernel_rfl) (fun _ _ _ h=>h) (.inl ⟨rfl,?_⟩) hHeld ?_
 ·(intro w hSw; go_simp)
 go_frame
 refine take_list (i:=4) (v:= .pointer (some ⟨R,0,none⟩)) rfl (by kernel_rfl) (by kernel_rfl) (by kernel_rfl) (fun _ _ _ h=>h) (.inl ⟨rfl,?_⟩) hHeld ?_
 ·(intro w hSw; go_simp)
 go_frame
 refine take_list (i:=5) (v:= .func (.func 64) #[.pointer (some ⟨R,0,none⟩)] #[]) rfl (by kernel_rfl) (by kernel_rfl) (by kernel_rfl) (fun _ _ _ h=>h) (.inl ⟨rfl,?_⟩) hHeld ?_
 ·(intro w hSw; go_simp)
 go_frame
 refine take_list (i:=6) (v:= .func (.func 65) #[] #[.pointer (some ⟨b,0,none⟩),.pointer (some ⟨b+1,0,none⟩)]) rfl (by kernel_rfl) (by kernel_rfl) (by kernel_rfl) (fun _ _ _ h=>h) (.inl ⟨rfl,?_⟩) hHeld ?_
 ·(intro w hSw; go_simp)
 go_frame
 refine ready_list (i:=7) rfl (by kernel_rfl) (fun K hK=>?_)
 go_simp
 refine HP.mono ?_
 rintro e w2 ⟨rfl,hb2⟩
 have s0:=held hb2 r0
 have s2:=held hb2 p0
 have s3:=held hb2 p1
 refine hK.out _ _ ⟨s0,s2,s3⟩ (fun hHeld=>?_)
 clear hK K HP
 have D2:=X.out.2.drew.held hb2
 have z0:=D2.at_ 0
 have z1:=D2.at_ 1
 have z2:=D2.at_ 2
 have z3:=D2.at_ 3
 have z4:=D2.at_ 4
 have y0:=D2.free 0
 have y1:=D2.free 1
 have y2:=D2.free 2
 have y3:=D2.free 3
 have y4:=D2.free 4
 refine take_list (i:=8) (v:= .agg #[.int .i64 fr,.int .u32 id,.int .u32 seq,.int .u16 met,.int .i64 exp]) rfl (by kernel_rfl) (by kernel_rfl) (by kernel_rfl) (fun _ _ _ h=>h) (.inl ⟨rfl,?_⟩) hHeld ?_
 ·(intro w hSw; go_simp)
 go_frame
 refine take_list (i:=9) (v:= .bool ok) rfl (by kernel_rfl) (by kernel_rfl) (by kernel_rfl) (fun _ _ _ h=>h) (.inl ⟨rfl,?_⟩) hHeld ?_
 ·(intro w hSw; go_simp)
 go_frame
 refine ready_list (i:=10) rfl (by kernel_rfl) (fun K hK=>?_)
 go_simp
 have T8:Turn [b+1+1] w2 (((((w2.setCell ⟨b+1+1,0,none⟩ (.int .i64 fr)).setCell ⟨b+1+1,1,none⟩ (.int .u32 id)).setCell ⟨b+1+1,2,none⟩ (.int .u32 seq)).setCell ⟨b+1+1,3,none⟩ (.int .u16 met)).setCell ⟨b+1+1,4,none⟩ (.int .i64 exp)):=((((Turn.setCell _ (by simp) _).trans (Turn.setCell _ (by simp) _)).trans (Turn.setCell _ (by simp) _)).trans (Turn.setCell _ (by simp) _)).trans (Turn.setCell _ (by simp) _)
 have t0:=T8.cell s0 (by simp; omega)
 have t2:=T8.cell s2 (by simp)
 have t3:=T8.cell s3 (by simp)
 refine hK.out _ _ ⟨t0,t2,t3⟩ (fun hHeld=>?_)
 clear hK K
 have D8:Blk 102 _ (b+1+1) #[.int .i64 fr,.int .u32 id,.int .u32 seq,.int .u16 met,.int .i64 exp]:=((((D2.store 0 (.int .i64 fr)).store 1 (.int .u32 id)).store 2 (.int .u32 seq)).store 3 (.int .u16 met)).store 4 (.int .i64 exp)
 have hle:b≤W.drew.heap.size:=by have:b+1+1<W.drew.heap.size:=X.out.2.lt; omega
 have hle2:=Nat.le_trans hle hb2.size
 have hbF:=(X.out.1.drew.trans (hb2.mono hle)).trans (T8.below (B:=b) (fun i hi=>by simp at hi; omega) hle2)
 clear hle hle2 z0 z1 z2 z3 z4 y0 y1 y2 y3 y4 s0 s2 s3 T8 r0 p0 p1 D2
 generalize ((((w2.setCell ⟨b+1+1,0,none⟩ (.int .i64 fr)).setCell ⟨b+1+1,1,none⟩ (.int .u32 id)).setCell ⟨b+1+1,2,none⟩ (.int .u32 seq)).setCell ⟨b+1+1,3,none⟩ (.int .u16 met)).setCell ⟨b+1+1,4,none⟩ (.int .i64 exp)=w8 at*
 refine ready_list (i:=11) rfl (by kernel_rfl) (fun K hK=>?_)
 go_simp
 refine hK.out _ _ ⟨t0,t2,t3⟩ (fun hHeld=>?_)
 clear hK K
 refine wpAnyH_done (by kernel_rfl) ?_ _
 try go_frame
 have q0:=D8.at_ 0
 have q1:=D8.at_ 1
 have q2:=D8.at_ 2
 have q3:=D8.at_ 3
 have q4:=D8.at_ 4
 clear D8 hHeld
 go_wp2_with fail
 refine bodyPost_ret (v:= .tuple #[.agg #[.int .i64 fr,.int .u32 id,.int .u32 seq,.int .u16 met,.int .i64 exp],.bool ok]) ?_ rfl ⟨rfl,by rw [HBW.out]; exact hbF⟩
 simp [results,Tryz.results41,go_sem,q0,q1,q2,q3,q4]
def Mr.dist (M:Mr) (a:Nat) (len:Int):Int×Bool:=if M.owns ⟨a,len⟩=true then (0,true) else match M.pick a len with
 |none=>(0,false)
 |some r=>(far r.met (cAt M.c r.fr),true)
theorem pickL_mem {xs:List Rh} {x:Rh} (h:pickL xs=some x):x∈xs:=List.mem_of_find?_eq_some h
theorem Mr.pick_some {M:Mr} {a:Nat} {len:Int} {r:Rt} (h:M.pick a len=some r):∃ k:Nat,k<9∧M.f ⟨a,len,k⟩=some r∧¬ cAt M.c k<1∧M.fea a len r=true∧far r.met (cAt M.c k)≠65535:=by
 unfold Mr.pick at h
 cases hp:pickL (M.openL a len 9) with
 |none=>rw [hp] at h; cases h
 |some x=>
  rw [hp] at h
  have hx:=pickL_mem hp
  unfold Mr.openL at hx
  obtain ⟨k,hk,he⟩:=List.mem_filterMap.1 hx
  have hk9:=List.mem_range.1 hk
  unfold Mr.reachF at he
  cases hf:M.f ⟨a,len,k⟩ with
  |none=>rw [hf] at he; cases he
  |some r'=>
   rw [hf] at he
   simp only at he
   split at he
   ·cases he
   ·rename_i hc
    cases he
    simp only [Option.map_some,Option.some.injEq] at h
    subst h
    simp only [not_or] at hc
    exact ⟨k,hk9,hf,hc.1,by simpa using hc.2.1,hc.2.2⟩
theorem Mr.pick_fits {M:Mr} (hF:M.Fits) {a:Nat} {len:Int} {r:Rt} (h:(M.pick a len).getD Rt.zero=r):r.Fits:=by
 cases hp:M.pick a len with
 |none=>
  rw [hp] at h
  subst h
  constructor<;>(try constructor)<;>simp [Rt.zero]
 |some x=>
  rw [hp] at h
  obtain ⟨k,-,hk,-⟩:=Mr.pick_some hp
  have:=hF.f _ _ hk
  have e:x=r:=h
  rwa [e] at this
theorem run_field_metric (s:Nat) (z:Int) (w:World):(Instr.field 100 (.agg #[.int .u32 s,.int .u16 z]) 1).run Tryz.prog w= .ok (.int .u16 z) w:=by kernel_rfl
set_option maxRecDepth 100000 in
theorem rr_dist {w:World} {R:Nat} {o fl tb:Option Nat} {j:Jr} {N n:Nat} {M:Mr} (h:Rr w R o fl tb j N n M) {a:Nat} {len:Int} (hp:Pk.ok ⟨a,len⟩) {z:Int} {ok:Bool} (hz:M.dist a len=(z,ok)):
  Calls Tryz.prog 22 #[.pointer (some ⟨R,0,none⟩),.agg #[.int .u32 a,.int .i64 len]] w fun e w'=>e= .returned (.tuple #[.int .i64 z,.bool ok])∧Below w.heap.size w w':=by
 have hb:=below_new w (.cells #[.int .u32 a,.int .i64 len] 33)
 have PB:=Blk.new w 33 #[.int .u32 a,.int .i64 len]
 have p0:=PB.at_ 0
 have p1:=PB.at_ 1
 have HO:=rr_owns (h.held hb) hp
 unfold Mr.dist at hz
 obtain ⟨q,hq⟩:∃ q,M.owns ⟨a,len⟩=q:=⟨_,rfl⟩
 rw [hq] at HO hz
 have X:=Lib.hid (And.intro h (And.intro hb (And.intro PB hz)))
 clear h hb PB hz hq
 go_enter Tryz.func22,Tryz.ntmps22
 go_wp2_with fail
 refine HO.mono ?_
 rintro e w2 ⟨rfl,hb2⟩
 have hb3:=next X.out.2.1 hb2
 have PB2:=X.out.2.2.1.held hb2
 have h2:=X.out.1.held hb3
 cases q with
 |true=>
  have E:=X.out.2.2.2
  rw [if_pos rfl] at E
  injection E with e1 e2
  subst e1 e2
  clear p0 p1 HO hb2 PB2 h2
  go_wp2_with fail
  go_ret2
  exact ⟨rfl,hb3⟩
 |false=>
  have E:=X.out.2.2.2
  rw [if_neg (by decide)] at E
  obtain ⟨⟨fr,id,seq,met,exp⟩,hr⟩:∃ r,(M.pick a len).getD Rt.zero=r:=⟨_,rfl⟩
  obtain ⟨ok2,hok⟩:∃ ok,(M.pick a len).isSome=ok:=⟨_,rfl⟩
  have HW:=rr_way h2 hp hr hok
  have hm:=(Mr.pick_fits X.out.1.fits hr).met
  have q0:=PB2.at_ 0
  have q1:=PB2.at_ 1
  have Y:=Lib.hid (And.intro E (And.intro hr (And.intro hok (And.intro h2 (And.intro hb3 hm)))))
  clear E hr hok h2 hb3 hm p0 p1 HO hb2 PB2
  go_wp2_with fail
  refine HW.mono ?_
  rintro e w3 ⟨rfl,hb4⟩
  have hb5:=next Y.out.2.2.2.2.1 (next hb4 (below_new w3 (.cells #[.int .i64 fr,.int .u32 id,.int .u32 seq,.int .u16 met,.int .i64 exp] 102)))
  have h5:=Y.out.2.2.2.1.held (next hb4 (below_new w3 (.cells #[.int .i64 fr,.int .u32 id,.int .u32 seq,.int .u16 met,.int .i64 exp] 102)))
  have RB:=Blk.new w3 102 #[.int .i64 fr,.int .u32 id,.int .u32 seq,.int .u16 met,.int .i64 exp]
  clear q0 q1 HW hb4
  cases ok2 with
  |false=>
   have E:=Y.out.1
   cases hpk:M.pick a len with
   |some r=>have:=Y.out.2.2.1; rw [hpk] at this; cases this
   |none=>
    rw [hpk] at E
    injection E with e1 e2
    subst e1 e2
    clear h5 RB hpk
    go_wp2_with fail
    go_ret2
    exact ⟨rfl,hb5⟩
  |true=>
   have E:=Y.out.1
   cases hpk:M.pick a len with
   |none=>have:=Y.out.2.2.1; rw [hpk] at this; cases this
   |some r=>
    have e0:r=⟨fr,id,seq,met,exp⟩:=by have:=Y.out.2.1; rw [hpk] at this; exact this
    subst e0
    rw [hpk] at E
    injection E with e1 e2
    have hfr:=far_range (m:=met) (c:=cAt M.c fr) (by omega)
    have HRc:=rr_reach h5 (fr:=fr) (exp:=exp) (id:=id) (seq:=seq) Y.out.2.2.2.2.2
    simp only at e1
    rw [e1] at HRc hfr
    subst e2
    have r0:=RB.at_ 0
    have r1:=RB.at_ 1
    have r2:=RB.at_ 2
    have r3:=RB.at_ 3
    have r4:=RB.at_ 4
    have Z:=Lib.hid hb5
    clear h5 RB hpk hb5 e1
    go_wp2_with fail
    refine HRc.mono ?_
    rintro e w6 ⟨rfl,hb6⟩
    have hb7:=next Z.out hb6
    have h0:0≤z:=by omega
    have h6:z≤65535:=by omega
    have hfd:=run_field_metric seq z w6
    clear hb6 HRc r0 r1 r2 r3 r4
    go_wp2_with fail
    go_ret2
    exact ⟨rfl,hb7⟩
end Go.Proofs.YthaefdlkpljojaaGreatDoor
namespace Go.Proofs.YthaefdlkpljojaaGreatDoor
open Go.RowKit Rm
variable {tL:TypeId} {YS:List Value}
section
variable {w w':World} {d S M n:Nat} {safe:Nat→List UInt8} {wn:Int→Option (List UInt8)} {well:Int}
end
end Go.Proofs.YthaefdlkpljojaaGreatDoor
namespace Go.Proofs.YthaefdlkpljojaaGreatDoor
open Go.RowKit Go.Maps
attribute [local go_sem] Oper.semAt_some
theorem enter_keysP:∀ args w,(callFunc 247 args).run Tryz.prog w= .ok (.enter 247 args) w:=enters_of Tryz.func247 (by kernel_rfl) rfl
set_option maxRecDepth 100000 in
theorem keysP_stops (m:Nat) (Bm b n:Nat) (f:Pk→Option Value) (w:World) (hm:w.cell? ⟨Bm,0,none⟩=some (.map (some b))) (hM:Mk pkE w b n f):
  SeqStopsK Fence.wide m Tryz.prog 247 #[.pointer (some ⟨Bm,0,none⟩)] (fun x:Pk=>#[.agg #[.int .u32 x.a,.int .i64 x.n]]) KeepsWalks (fun xs=>xs.Nodup∧∀ x,x∈xs↔x.ok∧(f x).isSome=true) (fun _=>True) n w:=fun l J Jx W hW hJ _ hY h0=>by
 have hm':=held hW hm
 have hM':=hM.held hW
 clear hm hM hW
 obtain ⟨w0,hr,hrg0,hg0,hs0⟩:=hM'.range (t:=136) (e:=180) (by kernel_rfl)
 have h00:=hJ [] W w0 none h0 hg0 (fun r e=>by cases e)
 refine callsIn_of_wp Tryz.func247 rfl trivial ?_ rfl
 simp only [Tryz.ntmps247,List.size_toArray,List.length_cons,List.length_nil,Nat.reduceAdd,Nat.reduceSub,Array.replicate_succ,Array.replicate_zero,List.push_toArray,List.append_toArray,List.nil_append,List.cons_append]
 gi_wp2
 gi_loopw [6] (fun _ wr=>∃ (left:Pk→Bool) (cnt:Nat) (ss:List Pk),Rg pkE wr b W.heap.size n f left cnt∧ss.length+cnt≤n∧Came pkE f left ss∧J ss wr)
  (fun _ wr=>wr.rangeLeft b W.heap.size)
 case atStart=>
  exact ⟨_,_,[],hrg0,by simp,Came.start _ _,h00⟩
 case round=>
  obtain ⟨left,cnt,ss,hrg,hcs,hC,hJs⟩:=hrel
  rcases hrg.next 0 with ⟨hc0,hl0,hrun⟩|⟨i,v,w2,cnt2,hi,hli,hfi,hrun,hrg2,hlt,hg2,hs2,hen⟩
  ·gi_wp2
   go_end0
   exact ⟨⟨_,rfl⟩,.inl ⟨ss,hC.all hl0,hJs⟩⟩
  ·obtain ⟨xa,xn⟩:=i
   have hJ2:J ss w2:=hJ ss wr w2 (some W.heap.size) hJs hg2 (fun r e=>by cases e; exact ⟨Nat.le_refl _,hrg.iter_walk⟩)
   have hJ3:J ss (w2.alloc (.cells #[.int .u32 xa,.int .i64 xn] 33)):=hJ ss w2 _ none hJ2 (World.grownBy_alloc w2 _ none) (fun r e=>by cases e)
   have hrg3:=hrg2.of_walks (KeepsWalks.alloc w2 (.cells #[.int .u32 xa,.int .i64 xn] 33))
   obtain ⟨fn,tmps,assign,body,hy,hR⟩:=hY ss ⟨xa,xn⟩ _ hJ3 (by omega)
   have hC2:=hC.step hi hli hfi
   replace hrun:(Instr.next (.pointer (some ⟨W.heap.size,0,none⟩)) false 0).run Tryz.prog wr= .ok (.tuple #[.bool true,.agg #[.int .u32 xa,.int .i64 xn],v]) w2:=hrun
   replace hen:(Instr.entry (.pointer (some ⟨W.heap.size,0,none⟩))).run Tryz.prog w2= .ok (.tuple #[.agg #[.int .u32 xa,.int .i64 xn],v]) w2:=hen
   clear hs2
   gi_wp2
   refine ⟨fun h=>(by cases h),hR.mono ?_⟩
   rintro e W3 (⟨rfl,hJ4,hk3⟩|⟨rfl,hJx3⟩)
   ·gi_wp2
    have hrg4:=hrg3.of_walks hk3
    go_roundw
    case rel=>exact ⟨_,cnt2,ss++[⟨xa,xn⟩],hrg4,by simp; omega,hC2,hJ4⟩
    case measure=>rw [hrg4.left_eq,hrg.left_eq]; exact hlt
   ·gi_wp2
    refine bodyPost_ret (results_none rfl _ _ _) rfl ?_
    exact ⟨⟨_,rfl⟩,.inr ⟨ss++[⟨xa,xn⟩],trivial,hJx3⟩⟩
set_option maxRecDepth 100000 in
theorem keysP_stops_nil (m:Nat) (Bm:Nat) (w:World) (hm:w.cell? ⟨Bm,0,none⟩=some (.map none)):
  SeqStopsK Fence.wide m Tryz.prog 247 #[.pointer (some ⟨Bm,0,none⟩)] (fun x:Pk=>#[.agg #[.int .u32 x.a,.int .i64 x.n]]) KeepsWalks (fun xs=>xs=[]) (fun _=>True) 0 w:=fun l J Jx W hW hJ _ hY h0=>by
 have hm':=held hW hm
 clear hm hW
 refine callsIn_of_wp Tryz.func247 rfl trivial ?_ rfl
 simp only [Tryz.ntmps247,List.size_toArray,List.length_cons,List.length_nil,Nat.reduceAdd,Nat.reduceSub,Array.replicate_succ,Array.replicate_zero,List.push_toArray,List.append_toArray,List.nil_append,List.cons_append]
 have hrg:=run_range_nilMap (P:=Tryz.prog) W 136 33 180 (by kernel_rfl)
 have hnx:∀ ty,(Instr.next (.pointer (some ⟨W.heap.size,0,none⟩)) false ty).run Tryz.prog (W.alloc (.mapIter none 0 #[] 0))=_:=fun ty=>run_next_nilMap _ ty 0 0 #[]
 gi_wp2
 refine wpIn_loop_rounds 1 ?_
 rw [roundsIn_succ]
 gi_wp2
 go_end0
 exact ⟨⟨_,rfl⟩,.inl ⟨[],rfl,hJ [] W _ none h0 (World.grownBy_alloc W _ none) (fun r e=>by cases e)⟩⟩
theorem keysP_fn (o:Option Nat) (w:World):Calls Tryz.prog 225 #[.map o] w fun e w'=>
  e= .returned (.func (.func 247) #[] #[.pointer (some ⟨w.heap.size,0,none⟩)])∧w'=w.alloc (.cells #[.map o] 136):=by
 go_enter Tryz.func225,Tryz.ntmps225
 go_wp2
 go_ret
 exact ⟨rfl,rfl⟩
def clP (x:Pk):List Value:=[.int .u32 x.a,.int .i64 x.n]
theorem infoP:(Tryz.prog.info? 33).map (fun i=>(i.zero,i.size,i.bytes))=some (some (.agg #[.int .u32 0,.int .i64 0]),2,16):=by kernel_rfl
def GotP (n₀:Nat) (v:Value) (xs:List Pk) (W:World):Prop:=W.ownsRow n₀ 33 2 v xs.length (xs.flatMap clP)∧(v= .slice none 0 0↔xs=[])
set_option maxRecDepth 100000 in
theorem appendSeqP {g:Nat} {lb:Array Value} (eg:∀ args w,(callFunc g args).run Tryz.prog w= .ok (.enter g args) w) {S Sp:List Pk→Prop} {N:Nat} (hN:N≤100000) {w:World}
  (hseq:SeqStopsK Fence.wide 8 Tryz.prog g lb (fun x:Pk=>#[.agg #[.int .u32 x.a,.int .i64 x.n]]) KeepsWalks S Sp N w):
  Calls Tryz.prog 260 #[.slice none 0 0,.func (.func g) #[] lb] w fun e w'=>∃ v xs,e= .returned v∧S xs∧GotP w.heap.size v xs w'∧Below w.heap.size w w':=by
 obtain ⟨i0,hi,hz0,hz1,hz2⟩:=info_parts infoP
 refine (callsIn_wide (n:=9)).1 ?_
 refine callsIn_of_wp_marks Tryz.func260 rfl trivial ?_ rfl
 simp only [Tryz.ntmps260,List.size_toArray,List.length_cons,List.length_nil,Nat.reduceAdd,Nat.reduceSub,Array.replicate_succ,Array.replicate_zero,List.push_toArray,List.append_toArray,List.nil_append,List.cons_append]
 gi_wp2
 refine wpIn_rangeFunc_ownH rfl (by omega) (gf:=g) (lb:=lb) rfl trivial eg hseq walksK_t walksK_b (below_new _ _) (fun _=>rfl)
  (fun pre W=>(∃ v,Boxed W w.heap.size 264 v∧W.ownsRow w.heap.size 33 2 v pre.length (pre.flatMap clP)∧(v= .slice none 0 0↔pre=[]))∧Below w.heap.size w W)
  (fun _ _ _=>False)
  (OwnFrom.and (Own.from (holdsRow_own w.heap.size w.heap.size 264 33 2 (fun pre=>pre.length) (fun pre=>pre.flatMap clP) (fun pre v=>(v= .slice none 0 0↔pre=[]))) _) (ownFrom_below (Nat.le_refl _) (by simp)))
  (fun _ _ _ _ _ h _ _=>h) ?_
  (fun x a' W=>∃ Bx,Blk 33 W Bx #[.int .u32 x.a,.int .i64 x.n]∧a'={ tmps:=#[.slice none 0 0,.func (.func g) #[] lb,.pointer (some ⟨w.heap.size,0,none⟩),undef,.slice none 0 0,.pointer (some ⟨Bx,0,none⟩),.func (.func g) #[] lb,.agg #[.int .u32 x.a,.int .i64 x.n],undef,undef,undef,undef,undef],defers:=[] })
  ?_ ?assign ?body ?done ?stop
 ·exact ⟨⟨_,Boxed.new _ _ _,World.ownsRow_nil _ _ _ _,by simp⟩,below_new _ _⟩
 ·rintro x a' s W W' row ⟨Bx,hX,rfl⟩ hg hr
  exact ⟨Bx,hX.grown hg hr,rfl⟩
 case assign=>
  rintro l pre x W K ⟨⟨v,hv,hrow,hnil⟩,hB⟩ hK
  gi_wp2
  exact hK _ _ ((KeepsOthers.alloc _ _).from _) (KeepsWalks.alloc _ _) ⟨⟨v,hv.alloc _,hrow.alloc _,hnil⟩,hB.alloc hB.size _⟩ ⟨_,Blk.new _ _ _,rfl⟩
 case body=>
  rintro l pre ⟨xa,xn⟩ a' W hl hr ⟨⟨v,hv,hrow,hnil⟩,hB⟩ ⟨Bx,hX,rfl⟩ hlt
  have cB:=hv.cell
  have x0:=hX.at_ 0
  have x1:=hX.at_ 1
  have hle:=hB.size
  gi_wp2_with (first
   |(gi_at_builtin; refine wpListIn_append_own _ rfl _ _ 264 rfl w.heap.size 33 i0 (.agg #[.int .u32 0,.int .i64 0]) 2 16 Tryz.underlying264 hi hz0 hz1 hz2 rfl (by decide) _ _ _ rfl (hrow.alloc _) ⟨W.heap.size,0,none⟩ 1 1 [.int .u32 xa,.int .i64 xn] rfl rfl (fun j u hj=>(new_at _ _ _ j).trans (by simpa using hj)) (by simp [Value.oneCell']) (by unfold maxLen; omega) (by omega) (by simp; omega) ?_
     intro v' w1 hown' hgrow _
     obtain ⟨g',cap',rfl⟩:=ownsRow_succ hown'
     obtain ⟨hv1,hv2,hr2,hk2,hb2⟩:=hv.appended (by decide) hrow hB.size (Nat.le_refl _) hown' hgrow
     have hc1:=hv1.cell
     have hf1:=hv1.frozen)
   |gi_in)
  refine ⟨hk2.from _,hk2.walks,⟨_,hv2,by simpa [clP] using hr2,by simp⟩,?_⟩
  exact hB.trans hb2
 case done=>
  rintro D xs W hD hS ⟨⟨v,hv,hrow,hnil⟩,hB⟩ hK
  have cB:=hv.cell
  have hD':w.heap.size≤D:=by simp at hD; omega
  gi_wp2
  refine ⟨by simp,.inl ⟨_,_,rfl,run_takeDeferred hK,?_⟩⟩
  exact ⟨_,results_tmp rfl _ _ _,v,xs,rfl,hS,⟨ownsRow_putObj hrow _ hK rfl,hnil⟩,hB.grown (grownBy_putObj' _ _ _) hB.size (fun k e=>by cases e; exact hD')⟩
 case stop=>
  rintro D c pre W _ _ h _
  exact h.elim
end Go.Proofs.YthaefdlkpljojaaGreatDoor
