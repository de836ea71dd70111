import Derived.Test.YtafkfnodcemefaaGreatB28
set_option maxHeartbeats 8000000
set_option maxRecDepth 100000
namespace Go.Proofs.YtafkfnodcemefaaGreat
open _root_.Go.Proofs.Tryz (prog)
section
open Go.RowKit Go.Maps Rm
attribute [local go_sem] Oper.semAt_some
section
variable {w:World} {N MB n:Nat} {ms:Nat->Ma} {v:Value} {xs:List Pe} {os:List (Nat×Nat×List Nat)}
end
theorem Ot.turn {L:List Nat} {B:Nat} {v:Value} {os:List (Nat×List Nat)} {xs:List Oe} {W W':World} (h:Ot B v os xs W) (t:Turn L W W') (hL:∀ x,B<=x->(v.ownBlock=some x\/∃ q,∃ (h:q<xs.length),xs[q].g=x)->x∉L):Ot B v os xs W':=
 ⟨h.own.turn t fun b e=>hL b (h.own.lt e).2 (.inl e),h.len,fun i hi hi'=>by obtain ⟨a,b,c,d,e⟩:=h.row i hi hi'; exact ⟨a,b,c.turn t (hL _ d (.inr ⟨i,hi,rfl⟩)),d,e⟩⟩
def sent1 (frm:Nat) (os:List (Nat×Nat×List Nat)) (d:Nat×List Nat):List (Nat×Nat×List Nat):=if os.length<256 then os++[(frm,d.1,d.2)] else os
def sendAll (frm:Nat) (os:List (Nat×Nat×List Nat)) (ds:List (Nat×List Nat)):List (Nat×Nat×List Nat):=ds.foldl (sent1 frm) os
theorem cd4 {frm:Nat} {os:List (Nat×Nat×List Nat)} (d:Nat×List Nat) (h:os.length<=256):(sent1 frm os d).length<=256:=by
 unfold sent1;split
 ·simp; omega
 ·exact h
theorem am0 {frm:Nat}:∀ (ds:List (Nat×List Nat)) (os:List (Nat×Nat×List Nat)),os.length<=256->(sendAll frm os ds).length<=256
 |[],_,h=>h
 |d::r,os,h=>am0 r (sent1 frm os d) (cd4 d h)
theorem bf0 {frm:Nat} (os:List (Nat×Nat×List Nat)) {ds:List (Nat×List Nat)} {k:Nat} (hk:k<ds.length):sendAll frm os (ds.take (k+1))=sent1 frm (sendAll frm os (ds.take k)) ds[k]:=by
 unfold sendAll;rw [List.take_succ_eq_append_getElem hk,List.foldl_append];rfl
section
variable {w w1:World} {N MB n:Nat} {ms:Nat->Ma} {i:Nat} {v:Value} {F:List Nat} {os:List (Nat×Nat×List Nat)} {B:Nat} {vt:Value} {ds:List (Nat×List Nat)} {xt:List Oe} {k:Nat} {wr:World}
end
section
variable {w:World} {N MB n:Nat} {ms:Nat->Ma} {v:Value} {xs:List Pe} {os:List (Nat×Nat×List Nat)}
end
section
variable {w:World} {N MB n:Nat} {ms:Nat->Ma} {v:Value} {xs:List Pe} {os:List (Nat×Nat×List Nat)}
end
end
section
open Go.RowKit Go.Maps Rm
theorem ba6 {P:Program} (w:World) (t e ty:TypeId) (z:Value) (ht:P.underlying t=some (.slice e)) (hv:∀ w,(zeroValue e).run P w= .ok z w) (h1:∀ v∈z.cells.toList,v.oneCell'=true) (b o c:Nat)
  (hc:∀ j,j<z.cells.size->(w.cell? (Y b (o+j))).isSome=true) (hf:∀ j,j<z.cells.size->w.frozen? (Y b (o+j))=false):
  (Builtin.clear_ #[t] ty #[Mt b o 1 c]).run P w= .ok (.tuple #[]) (w.setCells b o z.cells.toList):=by
 have hzc:(Builtin.zeroCells z.cells 1).toList=z.cells.toList:=by
  apply List.ext_getElem
  ·simp [Builtin.zeroCells]
  ·intro i h1 h2
   have h3:i<z.cells.size:=by simpa using h2
   simp [Builtin.zeroCells,Nat.mod_eq_of_lt h3];exact getElem!_pos z.cells i h3
 have hst:=run_storeCells_cells (P:=P) b o z.cells.toList 0 w (by simpa using hc) (by simpa using hf) h1;simp only [Nat.add_zero] at hst;simp [Builtin.clear_,run_underlying ht,hv,hzc,hst]
theorem bz6 (xs:List Pe) {k:Nat} (hk:k<xs.length) (cur:Array Value) (ht:cur.toList.take (xs.length*3)=xs.flatMap pcl):
  (cur.toList.take (k*3)++(xs.drop (k+1)).flatMap pcl++cur.toList.drop (k*3+((xs.drop (k+1)).flatMap pcl).length)).take ((xs.length - 1)*3)=(xs.eraseIdx k).flatMap pcl:=by
 have hl:∀ x:Pe,(pcl x).length=3:=elemW.len;have e1:cur.toList.take (k*3)=(xs.take k).flatMap pcl:=by
  have:cur.toList.take (k*3)=(cur.toList.take (xs.length*3)).take (k*3):=by rw [List.take_take,Nat.min_eq_left G]
  rw [this,ht]
  conv=>lhs; arg 2; rw [<- List.take_append_drop k xs,List.flatMap_append]
  rw [List.take_left' (by rw [aa9 hl,List.length_take,Nat.min_eq_left G])]
 rw [e1,List.eraseIdx_eq_take_drop_succ,List.flatMap_append,List.take_left'];rw [List.length_append,aa9 hl,aa9 hl,List.length_take,List.length_drop,Nat.min_eq_left G];omega
attribute [local go_sem] Oper.semAt_some
def zpk:Value:= .agg #[I 0,I 0,.slice none 0 0]
theorem df4 {w:World} {g cap:Nat} {xs:List Pe} (h:Ol 53 pcl 3 0 (Lt g xs.length cap) xs w) {k:Nat} (hk:k<xs.length):
  Q 45 #[Lt g xs.length cap,I k,I ((k+1:Nat):Int)] w fun e w'=>e= .returned (Lt g (xs.length - 1) cap)/\Ol 53 pcl 3 0 (Lt g (xs.length - 1) cap) (xs.eraseIdx k) w'/\Turn [g] w w':=by
 have H:=Z h;obtain ⟨hl,h2⟩:=h;rcases h2 with ⟨e,_⟩|⟨g',cap',cur,e,h4,h5,h6,h7,h8,h9⟩
 ·cases e
 cases e;have hi1:(k:Int)<(xs.length:Int):=G
 have hne:((k:Int)==((k+1:Nat):Int))=false:=beq_eq_false_iff_ne.2 G;have hcur:∀ (q:Nat) (u:Value),(xs.flatMap pcl)[q]?=some u->cur[q]?=some u:=fun q u hq=>by
  rw [<- h9,List.getElem?_take] at hq;split at hq
  ·simpa using hq
  ·cases hq
 obtain ⟨news,hnews⟩:∃ news,news=(xs.drop (k+1)).flatMap pcl:=⟨_,rfl⟩;have hnl:news.length=(xs.length - (k+1))*3:=by rw [hnews,aa9 elemW.len,List.length_drop]
 obtain ⟨ad,hA,hsrc⟩:∃ ad:Addr,(if cap=k+1 then some (Y g 0:Addr) else some (Y g ((k+1)*3)))=some ad/\∀ j u,news[j]?=some u->w.drew.cell? (ad.add j)=some u:=by
  by_cases e:cap=k+1
  ·refine ⟨_,if_pos e,fun j u hu=>?_⟩
   have:news=[]:=List.eq_nil_of_length_eq_zero (by rw [hnl]; omega);rw [this] at hu;simp at hu
  ·refine ⟨_,if_neg e,fun j u hu=>?_⟩
   rw [Addr.add_lit];have hb:Blk 53 w.drew g cur:=h5;rw [hb.at_];refine hcur _ _ ?_;rw [<- List.take_append_drop (k+1) xs,List.flatMap_append,List.getElem?_append_right (by rw [aa9 elemW.len,List.length_take]; omega),aa9 elemW.len,List.length_take,Nat.min_eq_left G,Nat.add_sub_cancel_left,<- hnews];exact hu
 obtain ⟨i0,z0,hi0,hz0,hz1,hz2,hz3⟩:=elemW.info;have hone:∀ u∈news,u.oneCell'=true:=fun u hu=>by
  rw [hnews] at hu;obtain ⟨x,_,hx⟩:=List.mem_flatMap.1 hu;exact elemW.one x u hx
 have hrun:=run_append_room (P:=prog) w.drew 82 82 53 i0 X hi0 g k cap cur h5 ad (xs.length - (k+1)) (cap - (k+1)) news (by rw [hz1]; exact hnl) hsrc hone G (by rw [hz1,hnl,h8]; omega);obtain ⟨m1,hm1⟩:=eX (xs.length - 1);rw [show k+(xs.length - (k+1))=m1 by omega,hz1] at hrun;obtain ⟨W1,hW1⟩:=eX (w.drew.setRow g (cur.toList.take (k*3)++news++cur.toList.drop (k*3+news.length)).toArray);rw [<- hW1] at hrun;have hB1:Blk 53 W1 g (cur.toList.take (k*3)++news++cur.toList.drop (k*3+news.length)).toArray:=by
  rw [hW1];exact setRow_heap w.drew g cur _ 53 (0,0) h5
 have hsz1:(cur.toList.take (k*3)++news++cur.toList.drop (k*3+news.length)).length=cap*3:=by
  simp only [List.length_append,List.length_take,List.length_drop,Array.length_toList,hnl,h8];omega
 have hd:=bz6 xs hk cur h9;rw [<- hnews] at hd;have hT1:Turn [g] w W1:=by
  rw [hW1];exact ⟨rfl,rfl,rfl,by rw [setRow_size]; exact Nat.le_refl _,fun q _ hq=>(setRow_other w.drew g q _ (fun e=>hq (by simp [e])))⟩
 generalize cur.toList.take (k*3)++news++cur.toList.drop (k*3+news.length)=L1 at*;have hcl:(Builtin.clear_ #[82] 0 #[Mt g ((xs.length - 1)*3) (xs.length - (xs.length - 1)) (cap - (xs.length - 1))]).run prog W1= .ok (.tuple #[]) (W1.setCells g ((xs.length - 1)*3) [Value.int .i64 0,Value.int .i64 0,Value.slice none 0 0]):=by
  rw [show xs.length - (xs.length - 1)=1 by omega];refine ba6 W1 82 53 0 zpk X (fun w=>by kernel_rfl) (fun v hv=>?_) g _ _ (fun j hj=>?_) (fun j _=>hB1.free _)
  ·simp only [zpk,Value.cells,List.mem_cons,List.not_mem_nil,or_false] at hv
   rcases hv with rfl|rfl|rfl<;>rfl
  ·rw [hB1.at_]
   have h3:j<3:=hj;rw [List.getElem?_toArray,List.getElem?_eq_getElem (by rw [hsz1]; omega)];rfl
 have hB2:=hB1.setCells [Value.int .i64 0,Value.int .i64 0,Value.slice none 0 0] ((xs.length - 1)*3);have hO2:Ol 53 pcl 3 0 (Lt g (xs.length - 1) cap) (xs.eraseIdx k) (W1.setCells g ((xs.length - 1)*3) [Value.int .i64 0,Value.int .i64 0,Value.slice none 0 0]):=by
  have hel:(xs.eraseIdx k).length=xs.length - 1:=by rw [List.length_eraseIdx,if_pos hk]
  have hz3:[Value.int .i64 0,Value.int .i64 0,Value.slice none 0 0].length=3:=rfl;refine ⟨by rw [aa9 elemW.len],.inr ⟨g,cap,_,by rw [hel],Nat.zero_le _,hB2,G,h7,by rw [av0]; simpa using hsz1,?_⟩⟩;rw [hel,<- hd];apply List.ext_getElem?;intro q;rw [List.getElem?_take,List.getElem?_take];split
  ·rw [Array.getElem?_toList,ah7 _ _ _ (by rw [hz3]; simp only [List.size_toArray,hsz1]; omega),if_neg G,List.getElem?_toArray]
  ·rfl
 have hT2:Turn [g] w (W1.setCells g ((xs.length - 1)*3) [Value.int .i64 0,Value.int .i64 0,Value.slice none 0 0]):=hT1.trans (Turn.setCells W1 sn _ _);have M:=H2 hO2 hT2;have hm:cap<=9223372036854775807:=by unfold maxLen at h7; omega
 clear hl h4 h5 h8 h9 H h7 hcur hsrc hone hi0 hz0 hz1 hz2 hz3 hW1 hnews hnl hB1 hsz1 hd hT1 hB2 hO2 hT2;go_enter Tryz.func45,Tryz.ntmps45;go_wp2_with fail;refine wp_region_held_drew (S:=fun u=>True) X trivial (fun hHeld=>?_);refine tk 0 (Lt g xs.length cap) rfl hHeld ?_;go_frame;refine tk 1 (I k) rfl hHeld ?_;go_frame;refine aa6 (i:=2) (v:= Lt g k cap) rfl X X X (fun _ _ _ h=>h) (.inl ⟨rfl,?_⟩) hHeld ?_
 ·(intro w hSw; go_simp; try (intro e0; omega))
 go_frame;refine tk 3 (Lt g xs.length cap) rfl hHeld ?_;go_frame;refine tk 4 (I ((k+1:Nat):Int)) rfl hHeld ?_;go_frame;refine aa6 (i:=5) (v:= .slice (some ad) (xs.length - (k+1)) (cap - (k+1))) rfl X X X (fun _ _ _ h=>h) (.inl ⟨rfl,?_⟩) hHeld ?_
 ·(intro w hSw; go_simp; try (intro e0; have:=e0 G; omega))
 go_frame;refine rl 6 rfl fun K hK=>?_
 refine ac6 rfl _ _ _ rfl _ _ _ _ _ ?_ ?_ ?_ hrun ?_<;>first|rfl|skip
 refine hK.out _ _ trivial (fun hHeld=>?_);clear hK K hrun;try go_frame
 refine tk 7 (Lt g m1 cap) rfl hHeld ?_;go_frame;refine wpAnyH_done X ?_ _;try go_frame
 clear hHeld;go_wp2_with fail;go_ret;subst hm1;exact ⟨rfl,M.out⟩
end
section
open Go.RowKit Go.Maps Rm
attribute [local go_sem] Oper.semAt_some
section
variable {w w':World} {N MB n:Nat} {ms:Nat->Ma} {v:Value} {xs:List Pe} {os:List (Nat×Nat×List Nat)}
theorem Wy.erase {W W':World} (h:Wy v os xs W) {k:Nat} (hk:k<xs.length) {v':Value} (hv:v'.ownBlock=v.ownBlock) (hO:Ol 53 pcl 3 0 v' (xs.eraseIdx k) W') (hT:Turn v.ownBlock.toList W W'):Wy v' (os.eraseIdx k) (xs.eraseIdx k) W':=by
 have hko:k<os.length:=by rw [<- h.len]; exact hk
 refine ⟨hO,by rw [List.length_eraseIdx,List.length_eraseIdx,if_pos hk,if_pos hko,h.len],fun i hi hi'=>?_⟩;have hi2:i<xs.length - 1:=by rw [List.length_eraseIdx,if_pos hk] at hi; exact hi
 have away:∀ x,v.ownBlock≠some x->x∉v.ownBlock.toList:=fun x hx hm=>hx (by simpa using hm)
 rw [List.getElem_eraseIdx,List.getElem_eraseIdx];by_cases e:i<k
 ·rw [dif_pos e,dif_pos e]
  obtain ⟨a,b,c,d,f⟩:=h.row i G (by rw [<- h.len]; omega);exact ⟨a,b,c,d.turn hT (away _ f),by rw [hv]; exact f⟩
 ·rw [dif_neg e,dif_neg e]
  obtain ⟨a,b,c,d,f⟩:=h.row (i+1) G (by rw [<- h.len]; omega);exact ⟨a,b,c,d.turn hT (away _ f),by rw [hv]; exact f⟩
end
section
variable {w:World} {N MB n:Nat} {ms:Nat->Ma} {v:Value} {xs:List Pe} {os:List (Nat×Nat×List Nat)}
end
section
variable {w:World} {N MB n:Nat}
theorem ch4 {P:Nat->World->Prop} {Q:Nat->World->Prop} (hn8:n<=8) (h0:P 0 w)
  (hn:w.cell? (Y N 0)=Xp MB n n)
  (ht:∀ k wr,k<n->P k wr->Kc 27 #[K N,I k] wr fun e w'=>∃ z:Int,e= .returned (I z)/\P (k+1) w')
  (hs:∀ wr,P n wr->∃ J,Q J wr)
  (hw:∀ j wr,Q j wr->Kc 9 #[K N] wr (Rw wr (I (j:Int))))
  (hd:∀ j wr,Q (j+1) wr->Kc 16 #[K N,I 0,I 1024] wr fun e w'=>∃ z:Int,e= .returned (I z)/\Q j w'):
  Kc 23 #[K N] w fun e w'=>e= .returned (.tuple #[])/\Q 0 w':=by
 have c0:=hn;have H:=H5 hn ht hs hw hd;have HP:=Z h0;clear hn ht hs hw hd h0;go_enter Tryz.func23,Tryz.ntmps23;go_wp2_with fail;clear c0;go_loopw [8] (fun ix wr=>∃ k:Nat,ix= I k/\k<=n/\Hid (P k wr)) (fun ix _=>n - (intOf ix).toNat)
 case atStart=>exact ⟨0,rfl,G,HP⟩
 case round=>
  clear HP;obtain ⟨k,rfl,hk,hB⟩:=hrel;by_cases hkn:k<n
  ·have hin:(k:Int)<(n:Int):=G
   have HT:=H.out.2.1 k wr hkn hB.out;clear hB;go_wp2_with fail;refine HT.mono ?_;rintro e w2 ⟨z,rfl,hP⟩;have R:=Z hP;clear hP HT;go_wp2_with fail;go_roundw
   case rel=>exact ⟨k+1,by go_num,G,R⟩
   case measure=>simp [intOf]; omega
  ·obtain rfl:k=n:=G
   obtain ⟨J,hQ0⟩:=H.out.2.2.1 wr hB.out;have hQ:=Z hQ0;clear hQ0;clear hB;go_wp2_with fail;go_loopg [] J (fun g wr2=>Hid (Q g wr2))
   case atStart=>exact hQ
   case round=>
    clear hQ;have HWt:=H.out.2.2.2.1 gk _ hrel.out;by_cases hg:gk=0
    ·subst hg
     go_wp2_with fail;refine HWt.mono ?_;rintro e w5 ⟨rfl,rfl⟩;go_wp2_with fail;refine bodyPost_end (v:= .tuple #[]) (results_none rfl _ _ _) rfl ⟨rfl,hrel.out⟩
    ·obtain ⟨g,rfl⟩:∃ g,gk=g+1:=⟨gk - 1,G⟩
     have HD:=H.out.2.2.2.2 g _ hrel.out;have d0:(0:Int)<((g+1:Nat):Int):=G
     go_wp2_with fail;refine HWt.mono ?_;rintro e w5 ⟨rfl,rfl⟩;clear hrel;go_wp2_with fail;refine HD.mono ?_;rintro e w6 ⟨z,rfl,hQ6⟩;have R:=Z hQ6;clear hQ6 HD HWt;go_wp2_with fail;go_roundg g
     case measure=>omega
     case rel=>exact R
end
section
variable {w:World} {N MB n:Nat} {ms:Nat->Ma} {v:Value}
end
end
end Go.Proofs.YtafkfnodcemefaaGreat
