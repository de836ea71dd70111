import Derived.Test.YthaefdlkpljojaaGreatDoorM29
import Derived.Test.YthaefdlkpljojaaGreatDoorM26
import Derived.Test.YthaefdlkpljojaaGreatDoorM03
import Derived.Test.YthaefdlkpljojaaGreatDoorM27
import Derived.Deep.DeepCutAuto
import Derived.Deep.CutRange
set_option maxHeartbeats 8000000
namespace Go.Proofs.YthaefdlkpljojaaGreatDoor
open Go.RowKit Go.Maps Rm Fm Sb
attribute [local go_sem] Oper.semAt_some
theorem flat_split2:∀ (l L:List Sc.Ev) (s r:List Nat),(∀ x∈l,Sc.right x=true∧x.a<4294967296)→(∀ x∈L,Sc.right x=true∧x.a<4294967296)→Sc.flat l++s=Sc.flat L++r→(∃ L',L=l++L'∧s=Sc.flat L'++r)∨∃ x l',l=L++x::l'∧r=Sc.ebytes x++(Sc.flat l'++s)
 |[],L,s,r,_,_,h=> .inl ⟨L,rfl,by simpa [Sc.flat_nil] using h⟩
 |x::l,[],s,r,_,_,h=> .inr ⟨x,l,rfl,by
  rw [Sc.flat_cons,Sc.flat_nil,List.append_assoc,List.nil_append] at h
  exact h.symm⟩
 |x::l,y::L,s,r,hl,hL,h=>by
  rw [Sc.flat_cons,Sc.flat_cons,List.append_assoc,List.append_assoc] at h
  have hx:=hl x (List.mem_cons_self ..)
  have hy:=hL y (List.mem_cons_self ..)
  have e:x=y:=by
   have h1:=(Sc.parse_back hx.1 hx.2 (Sc.flat l++s)).1
   have h2:=(Sc.parse_back hy.1 hy.2 (Sc.flat L++r)).1
   rw [← h1,h,h2]
  subst e
  rcases flat_split2 l L s r (fun z hz=>hl z (List.mem_cons_of_mem _ hz)) (fun z hz=>hL z (List.mem_cons_of_mem _ hz)) (List.append_cancel_left h) with ⟨L',h1,h2⟩|⟨z,l',h1,h2⟩
  ·exact .inl ⟨L',by rw [h1,List.cons_append],h2⟩
  ·exact .inr ⟨z,l',by rw [h1,List.cons_append],h2⟩
theorem Evs_junk {bs:List Nat} {l L:List Sc.Ev} {k e:Nat} {r:List Nat} (h:Sc.Evs bs l k e) (hL:∀ x∈L,Sc.right x=true∧x.a<4294967296) (hb:bs.drop 3=Sc.flat L++r) (hr:0<r.length) (hr2:r.length<16) (hf:L.length≤1000):l=L∧e=6∧k=3+(Sc.flat L).length:=by
 have hp:=h.parts
 rw [hb] at hp
 rcases flat_split2 l L (bs.drop k) r h.right hL hp.symm with ⟨L',h1,h2⟩|⟨z,l',h1,h2⟩
 ·have hne:bs.drop k≠[]:=fun e=>by
   rw [e] at h2
   have:=congrArg List.length h2
   simp at this
   omega
  have hk:¬ k=bs.length:=fun e=>hne (by rw [e]; simp)
  have key:L'=[]:=by
   cases L' with
   |nil=>rfl
   |cons y q=>
    exfalso
    have hy:=hL y (by rw [h1]; simp)
    have hfb:Sc.first (bs.drop k)=true:=by
     rw [h2,Sc.flat_cons,List.append_assoc]
     exact Sc.first_back hy.1 hy.2 _
    rcases h.how with ⟨_,h5⟩|⟨_,h5,h6⟩|⟨_,h5,h6,_⟩
    ·exact hk h5
    ·rw [hfb] at h6; cases h6
    ·have:=congrArg List.length h1
     simp at this
     omega
  subst key
  rw [List.append_nil] at h1
  refine ⟨h1.symm,?_,by rw [h1]; exact h.at_⟩
  rcases h.how with ⟨_,h5⟩|⟨h5,_,_⟩|⟨_,h5,h6,_⟩
  ·exact absurd h5 hk
  ·exact h5
  ·rw [← h1] at h6
   omega
 ·have:=congrArg List.length h2
  rw [List.length_append,Sc.ebytes_length] at this
  omega
def mev (k:Nat):List Sc.Ev:=List.replicate k (bev 0)
theorem mev_len (k:Nat):(mev k).length=k:=by simp [mev]
theorem mev_get {k i:Nat} (h:i<(mev k).length):(mev k)[i]=bev 0:=by simp [mev]
theorem mev_mem {k:Nat} {e:Sc.Ev} (h:e∈mev k):e=bev 0:=List.eq_of_mem_replicate h
theorem flat_mev:∀ k,(Sc.flat (mev k)).length=16*k
 |0=>rfl
 |k+1=>by
  unfold mev
  rw [List.replicate_succ,Sc.flat_cons,List.length_append,Sc.ebytes_length]
  have:=flat_mev k
  unfold mev at this
  rw [this]
  show 16+0+16*k=_
  omega
theorem mev_all (k:Nat):Sc.allRight (mev k)=true:=by
 unfold Sc.allRight
 rw [List.all_eq_true]
 intro e he
 rw [mev_mem he]
 exact (bev_right (by omega)).1
def mz:Nat→List Int
 |0=>[]
 |k+1=>0::List.replicate k 3
theorem mz_succ (k:Nat):mz (k+2)=mz (k+1)++[3]:=by
 unfold mz
 rw [List.cons_append,← List.replicate_succ']
def mP (d:Nat→Nat) (k:Nat) (zs:List Int) (st:Nat→Sv) (os:List Dg):Prop:=zs=mz k∧os=[]∧st 0=if k=0 then qD d 64 0 else qU d 64 0
section
variable {O:Nat→Prop} {w0 w:World} {N n:Nat} {st:Nat→Sv} {os:List Dg}
theorem bo_boot_runs (h:Bo O w0 w N n st os) {i:Nat} (hi:i<n) {d:Nat} {x:Rv} {c:Nat→Int} {z:Dz} (hs:st i=⟨d,some x,c,z⟩):Calls Tryz.prog 77 #[.pointer (some ⟨N,0,none⟩),.int .i64 i] w fun e w'=>e= .returned (.int .i64 3)∧w'=w:=by
 obtain ⟨MB,ms,v,xs,hW,hst,b1,b2,b3,b4,hB,hl⟩:=h.ex
 obtain ⟨room,sp,M⟩:=x
 obtain ⟨R,hm⟩:=Ma.sv_some ((hst i hi).trans hs)
 have H1:=net_has_in hW.nt hi
 have H2:=net_runs hW.nt hi
 rw [hm] at H2
 replace H2:Calls Tryz.prog 102 #[.pointer (some ⟨N,0,none⟩),.int .i64 i] w fun e w'=>e= .returned (.bool true)∧w'=w:=H2
 clear hm hW hst b1 b2 b3 b4 hB hl h hs
 go_enter Tryz.func77,Tryz.ntmps77
 go_wp2_with fail
 refine H1.mono ?_
 rintro e w2 ⟨rfl,rfl⟩
 go_wp2_with fail
 refine H2.mono ?_
 rintro e w2 ⟨rfl,rfl⟩
 go_wp2_with fail
 go_ret
 exact ⟨rfl,rfl⟩
end
theorem m_start (d:Nat→Nat):mP d 0 [] (fun i=>⟨d i,none,fun _=>0,⟨i+1,64 / 2 - 1,sm0⟩⟩) []:=⟨rfl,rfl,rfl⟩
theorem m_step {m:Nat} (N:Nat) (d:Nat→Nat) (k:Nat) (zs:List Int) (st:Nat→Sv) (os:List Dg) (O:Nat→Prop) (wx:World) (hk:k<(mev m).length) (hP:mP d k zs st os) (hB:Bo O wx wx N 1 st os):
  Calls Tryz.prog 52 #[.pointer (some ⟨N,0,none⟩),.agg (Sp.ecs (mev m)[k])] wx fun x w'=>∃ z,x= .returned (.int .i64 z)∧∃ st' os',mP d (k+1) (zs++[z]) st' os'∧Bo O wx w' N 1 st' os':=by
 rw [mev_get hk]
 obtain ⟨rfl,rfl,hst⟩:=hP
 refine do_boot (Q:=fun z w'=>∃ st' os',mP d (k+1) (mz k++[z]) st' os'∧Bo O wx w' N 1 st' os') (by decide) (bev_right (i:=0) (by omega)).1 (fun w1 hb=>?_)
 cases k with
 |zero=>
  rw [if_pos rfl] at hst
  refine (q_boot (hB.held hb) (i:=0) (by omega) hst).mono ?_
  rintro e w' ⟨rfl,h2⟩
  exact ⟨0,rfl,_,_,⟨rfl,rfl,by rw [sets_same]; rfl⟩,h2⟩
 |succ k=>
  rw [if_neg (by omega)] at hst
  refine (bo_boot_runs (hB.held hb) (i:=0) (by omega) hst).mono ?_
  rintro e w' ⟨rfl,rfl⟩
  exact ⟨3,rfl,_,_,⟨(mz_succ k).symm,rfl,by rw [hst,if_neg (by omega)]⟩,hB.held hb⟩
theorem m_end {m:Nat} (hm:0<m) (d:Nat→Nat) (zs:List Int) (st:Nat→Sv) (os:List Dg) (h:mP d m zs st os):zs=mz m∧∀ i,i<1→Fibd (st i) []∧Mld (st i) i [] [upL i]:=by
 obtain ⟨rfl,-,hst⟩:=h
 refine ⟨rfl,fun i hi=>?_⟩
 obtain rfl:i=0:=by omega
 rw [hst,if_neg (by omega)]
 exact qU_told d 64 0
def stA:ByteArray:=⟨#[115,116,97,116,101]⟩
theorem st_line:lineS [eW 3]=stA:=by decide+kernel
def mLs (m:Nat):List ByteArray:=okA::List.replicate (m - 1) stA
theorem cameL_mz {m:Nat} (hm:0<m):cameL (mz m)=mLs m:=by
 obtain ⟨k,rfl⟩:∃ k,m=k+1:=⟨m - 1,by omega⟩
 unfold cameL mz mLs
 rw [List.map_cons,List.map_replicate,ok_line,st_line]
 rfl
theorem mz_range (m:Nat):∀ z∈mz m,0≤z∧z≤7:=by
 cases m with
 |zero=>intro z h; cases h
 |succ k=>
  intro z h
  rcases List.mem_cons.1 h with rfl|h
  ·decide
  ·rw [List.eq_of_mem_replicate h]; decide
def up0:ByteArray:=⟨#[114,111,117,116,101,114,32,48,32,115,101,113,32,48,32,108,101,97,115,101,32,48]⟩
theorem up0_eq:upL 0=up0:=by decide+kernel
def erA:ByteArray:=⟨#[101,114,114,111,114,32,102,111,114,109,32,97,116,32]⟩
theorem er_line (z:Int):lineS [errA,eW 6,atA,nS z]=erA++nS z:=by
 apply bytes_ext
 rw [show eW 6=⟨#[102,111,114,109]⟩ from rfl]
 simp [lineS,Lib.join,List.intercalate,ByteArray.data_append,errA,atA,erA]
end Go.Proofs.YthaefdlkpljojaaGreatDoor
namespace Go.Proofs.YthaefdlkpljojaaGreatDoor
open Go.RowKit Go.Maps
attribute [local go_sem] Oper.semAt_some
theorem en_line:enS 167837696 16 2 3=⟨#[49,48,46,49,46,48,46,48,47,49,54,32,118,105,97,32,51]⟩:=by decide+kernel
set_option maxRecDepth 20000 in
theorem tell_head (w:World) (ht:Tab w):Calls Tryz.prog 6 #[] w fun e w'=>e= .returned (.bool true)∧Below w.heap.size w w':=by
 have HR:=run_nil w ht
 rw [err_line] at HR
 have HT:=Lib.hid ht
 clear ht
 go_enter Tryz.func6,Tryz.ntmps6
 go_wp2_with fail
 refine HR.mono ?_
 rintro e w2 ⟨v,rfl,hO,hb2⟩
 obtain ⟨g,cap,rfl,h1,h2,hc⟩:=Ol.at_ elemStr.len (show Ol 9 stc 1 w.heap.size v [_] w2 from hO) (i:=0) (by simp)
 have c0:w2.cell? ⟨g,0,none⟩=some (.string ⟨#[101,114,114,111,114,32,102,111,114,109,32,97,116,32,48]⟩):=hc 0 (by omega)
 have HP:=lprefix_zero 1 (by omega) w2
 have HT2:=Lib.hid (HT.out.held hb2)
 have HB:=Lib.hid hb2
 clear HR hO hb2 h1 h2 hc
 rw [show ([⟨#[101,114,114,111,114,32,102,111,114,109,32,97,116,32,48]⟩]:List ByteArray).length=1 from rfl]
 go_wp2_with fail
 refine HP.mono ?_
 rintro e w3 ⟨rfl,hb3⟩
 clear c0 HP
 have hb4:=below_new w3 (.cells #[.int .u32 ((167772160+1*65536:Nat):Int),.int .i64 16] 33)
 have HE:=entry_any 167837696 16 2 3 (by omega) (by omega) (by omega) _ ((HT2.out.held hb3).held hb4)
 rw [en_line] at HE
 have HB4:=Lib.hid (next (next HB.out hb3) hb4)
 clear hb3 hb4
 go_wp2_with fail
 refine Calls.mono (show Calls Tryz.prog 15 _ _ _ from HE) ?_
 rintro e w5 ⟨rfl,hb5⟩
 have HB5:=Lib.hid (next HB4.out hb5)
 clear hb5 HE
 go_wp2_with fail
 go_ret
 exact ⟨rfl,HB5.out⟩
end Go.Proofs.YthaefdlkpljojaaGreatDoor
namespace Go.Proofs.YthaefdlkpljojaaGreatDoor.Sp
open Go.RowKit Go.Maps Sc
theorem new_bytes (W:World) (bs:List Nat) (hl:bs.length≤100):BytesAt (W.alloc (.cells (cls bs) 5)) (some ⟨W.heap.size,0,none⟩) bs.length bs∨¬ ∀ c∈bs,c<256:=by
 by_cases h:∀ c∈bs,c<256
 ·exact .inl (BytesAt.of_blk (Blk.new W _ _) bs 0 _ (maxLen_small (by omega)) rfl h (fun k hk=>by rw [Nat.zero_add]; exact cls_at bs k hk))
 ·exact .inr h
theorem Ob.lit {B:Nat} {v:Value} {bs:List Nat} {W:World} (h:Ob B v bs W) (hB:B≤W.heap.size) (news:List Nat) (hn:∀ c∈news,c<256) (h0:0<news.length) (hs:news.length≤100) (hbig:bs.length+news.length≤1000000) {C:Array Value} (hC:C=cls news) {m:Nat} (hm:m=news.length):
  ∃ g' cap' W',(Builtin.append_ #[25,25] 25 #[v,.slice (some ⟨W.heap.size,0,none⟩) m m]).run Tryz.prog (W.alloc (.cells C 5))= .ok (.slice (some ⟨g',0,none⟩) (bs.length+m) cap') W'∧Ob B (.slice (some ⟨g',0,none⟩) (bs.length+m) cap') (bs++news) W'∧Below B W W'∧∀ x t D,Blk t W x D→(∀ b,v.ownBlock=some b→x≠b)→Blk t W' x D:=by
 subst hC hm
 have hBy:BytesAt (W.alloc (.cells (cls news) 5)) (some ⟨W.heap.size,0,none⟩) news.length news:=(new_bytes W news hs).resolve_right (fun h=>h hn)
 have hb:=below_new W (.cells (cls news) 5)
 have h5:=Ol.held h hb
 obtain ⟨g',cap',W',hr,hO,hg,-⟩:=Ob.app h5 (Nat.le_trans hB hb.size) (c:=news.length) hBy h0 hbig 25
 exact ⟨g',cap',W',hr,hO,(hb.mono hB).grown hg (Nat.le_trans hB hb.size) (fun kk e=>(Ol.lt h5 e).2),fun x t D hx hne=>(hg.block x (Nat.lt_of_lt_of_le hx.lt hb.size) (fun e=>hne x e.symm rfl)).trans (hx.held hb)⟩
theorem _root_.Go.Proofs.YthaefdlkpljojaaGreatDoor.Ol.blkY {α:Type} {e:TypeId} {cl:α→List Value} {k B:Nat} {v:Value} {xs:List α} {W:World} (h:Ol e cl k B v xs W) {b:Nat} (hb:v.ownBlock=some b):∃ cur,Blk e W b cur:=by
 rcases h.2 with ⟨rfl,_⟩|⟨g,cap,cur,rfl,h4,h5,_⟩
 ·cases hb
 ·cases hb; exact ⟨cur,h5⟩
theorem Ob.fresh {W:World} {C:Array Value} {bs:List Nat} (hC:C=cls bs) (hl:bs.length≤5000) {m:Nat} (hm:m=bs.length):Ob W.heap.size (.slice (some ⟨W.heap.size,0,none⟩) m m) bs (W.alloc (.cells C 5)):=by
 subst hC hm; exact Ob.new W bs hl
theorem cls_three {x y z:Int} {a b c:Nat} (hx:x=a) (hy:y=b) (hz:z=c):(#[.int .u8 x,.int .u8 y,.int .u8 z]:Array Value)=cls [a,b,c]:=by subst hx hy hz; rfl
theorem cls_six {x y z u v t:Int} {a b c d e f:Nat} (hx:x=a) (hy:y=b) (hz:z=c) (hu:u=d) (hv:v=e) (ht:t=f):(#[.int .u8 x,.int .u8 y,.int .u8 z,.int .u8 u,.int .u8 v,.int .u8 t]:Array Value)=cls [a,b,c,d,e,f]:=by subst hx hy hz hu hv ht; rfl
def upto3 (i k n:Nat):Nat→List Nat
 |0=>[]
 |1=>Sc.three i
 |2=>Sc.three i++Sc.three k
 |_=>Sc.three i++(Sc.three k++Sc.three n)
theorem upto3_succ (i k n:Nat) {j:Nat} (hj:j<3):upto3 i k n (j+1)=upto3 i k n j++Sc.three ([i,k,n].getD j 0):=by
 have:j=0∨j=1∨j=2:=by omega
 rcases this with rfl|rfl|rfl<;>simp [upto3]
theorem upto3_length (i k n:Nat) {j:Nat} (hj:j≤3):(upto3 i k n j).length=3*j:=by
 have:j=0∨j=1∨j=2∨j=3:=by omega
 rcases this with rfl|rfl|rfl|rfl<;>rfl
theorem ints_at (i k n:Nat) {j:Nat} (hj:j<3):(#[.int .i64 (i:Int),.int .i64 (k:Int),.int .i64 (n:Int)]:Array Value)[j]?=some (.int .i64 (([i,k,n].getD j 0:Nat):Int)):=by
 have:j=0∨j=1∨j=2:=by omega
 rcases this with rfl|rfl|rfl<;>rfl
theorem ints_le {i k n:Nat} (hi:i≤65536) (hk:k≤65536) (hn:n≤65536) {j:Nat} (hj:j<3):[i,k,n].getD j 0≤65536:=by
 have:j=0∨j=1∨j=2:=by omega
 rcases this with rfl|rfl|rfl<;>assumption
set_option maxRecDepth 100000 in
theorem lbytes_any {A:Option Addr} {n cap:Nat} {es:List Ev} {nn ss:Nat} {w:World} (h:El w A n cap es) (hr:Sc.allRight es=true) (h2:nn<256) (h4:ss<65536) (hbig:(flat es).length≤900000):
  Calls Tryz.prog 7 #[.int .i64 (nn:Nat),.int .i64 (ss:Nat),.slice A n cap] w fun x w'=>∃ g c q,x= .returned (.slice (some ⟨g,0,none⟩) q c)∧q=(script nn ss es).length∧Ob w.heap.size (.slice (some ⟨g,0,none⟩) q c) (script nn ss es) w'∧Below w.heap.size w w':=by
 have hlen:=h.len
 have hmx:=h.max
 have hmx':n≤9223372036854775807:=by unfold maxLen at hmx; omega
 have H:=Lib.hid (And.intro h (And.intro hr (And.intro hbig hlen)))
 clear h hr hbig hlen hmx
 have hO0:Ob w.heap.size (.slice (some ⟨w.heap.size,0,none⟩) 3 3) (script nn ss []) (w.alloc (.cells #[.int .u8 (nn:Int),.int .u8 ((ss:Int) / 256),.int .u8 ((ss:Int) % 256)] 5)):=
  Ob.fresh (bs:=[nn % 256,ss / 256 % 256,ss % 256]) (cls_three (by omega) (by omega) (by omega)) (by simp) rfl
 have hb0:=below_new w (.cells #[.int .u8 (nn:Int),.int .u8 ((ss:Int) / 256),.int .u8 ((ss:Int) % 256)] 5)
 have S:=Lib.hid (And.intro hO0 hb0)
 clear hO0 hb0
 go_enter Tryz.func7,Tryz.ntmps7
 go_wp2_with fail
 generalize w.alloc _=w1 at*
 obtain ⟨G0,hG0⟩:∃ G0,G0=w.heap.size:=⟨_,rfl⟩
 go_loopw [7,24] (fun v i wr=>∃ k g q c:Nat,i= .int .i64 (k:Nat)∧v= .slice (some ⟨g,0,none⟩) q c∧k≤n∧Hid (q=(script nn ss (es.take k)).length∧Ob w.heap.size (.slice (some ⟨g,0,none⟩) q c) (script nn ss (es.take k)) wr∧Below w.heap.size w wr)) (fun _ i _=>n - (intOf i).toNat)
 case atStart=>exact ⟨0,w.heap.size,3,3,rfl,rfl,Nat.zero_le _,Lib.hid ⟨by simp [script,Sc.two,flat_nil],S.out.1,S.out.2⟩⟩
 case round=>
  clear S hG0 G0
  obtain ⟨k,g,q,c,rfl,rfl,hkn,R⟩:=hrel
  by_cases hlt:k<n
  ·have d2:decide ((k:Int)<(n:Int))=true:=decide_eq_true (by omega)
   have hk:k<es.length:=by rw [H.out.2.2.2]; exact hlt
   obtain ⟨e,he⟩:∃ e,es[k]=e:=⟨_,rfl⟩
   obtain ⟨b,off,rfl⟩:=H.out.1.plain (by omega)
   have hfit:=(H.out.1.good e (by rw [← he]; exact List.getElem_mem hk)).fits
   obtain ⟨c0,c1,c2,c3,c4,c5,c6⟩:=(H.out.1.held R.out.2.2).at_ hk he
   have hright:right e=true:=by rw [← he]; exact allRight_at H.out.2.1 hk
   have hsc:script nn ss (es.take (k+1))=script nn ss (es.take k)++ebytes e:=by
    unfold script
    rw [take_snoc_flat hk,he]
    simp
   have hle:=flat_take_le es (k+1)
   have hl2:(script nn ss (es.take (k+1))).length=3+(flat (es.take (k+1))).length:=script_length _ _ _
   have hbg:=H.out.2.2.1
   have hlim:(script nn ss (es.take k)).length+(ebytes e).length≤900003:=by rw [← List.length_append,← hsc]; omega
   obtain ⟨kd,i,kk,n',l,e0,e1,e2,e3,e4,g0,g1,g2,g3,g4,g5⟩:=ok_nats hright
   have hEB:ebytes e=[kd]++(upto3 i kk n' 3++([e.a / 16777216 % 256,e.a / 65536 % 256,e.a / 256 % 256,e.a % 256,l,e.p.length]++Sc.nats e.p)):=by
    unfold ebytes hd
    rw [e0,e1,e2,e3,e4]
    simp only [Int.toNat_natCast]
    rw [Nat.mod_eq_of_lt (show kd<256 by omega),Nat.mod_eq_of_lt (show l<256 by omega),Nat.mod_eq_of_lt (show e.p.length<256 by omega)]
    simp [upto3,four]
   have hal:=hfit.a
   rw [e0] at c0
   rw [e1] at c1
   rw [e2] at c2
   rw [e3] at c3
   rw [e4] at c5
   have i1:(k:Int)<(n:Int):=by omega
   obtain ⟨P,hP⟩:∃ P,P=e.p:=⟨_,rfl⟩
   obtain ⟨s,hs⟩:∃ s:ByteArray,s=⟨e.p.toArray⟩:=⟨_,rfl⟩
   rw [← hs] at c6
   rw [← hP] at hEB g5 hs
   obtain ⟨m,hm⟩:∃ m,m=P.length:=⟨_,rfl⟩
   have hsz:s.size=m:=by rw [hs,hm]; exact str_size _
   rw [← hm] at hEB g5
   obtain ⟨EB,hE⟩:∃ EB,EB=ebytes e:=⟨_,rfl⟩
   rw [← hE] at hEB hsc hlim
   generalize e.a=a at*
   have Q:=Lib.hid (And.intro hsc (And.intro hEB (And.intro hlim (And.intro hs hm))))
   clear hright hfit he hP hsc hEB hlim hs hm hE e0 e1 e2 e3 e4 hle hl2 hbg hk
   have hbx:=below_new wr (.cells #[.int .i64 (kd:Int),.int .i64 (i:Int),.int .i64 (kk:Int),.int .i64 (n':Int),.int .u32 (a:Nat),.int .i64 (l:Int),.string s] 37)
   have BX:=Blk.new wr 37 #[.int .i64 (kd:Int),.int .i64 (i:Int),.int .i64 (kk:Int),.int .i64 (n':Int),.int .u32 (a:Nat),.int .i64 (l:Int),.string s]
   have X:=Lib.hid (And.intro hbx BX)
   clear hbx BX
   go_upto_region 5 with fail
   generalize wr.alloc _=w10 at*
   clear c0 c1 c2 c3 c4 c5 c6
   have x0:w10.cell? ⟨wr.heap.size,0,none⟩=some (.int .i64 (kd:Int)):=X.out.2.at_ 0
   have hb10:=R.out.2.2.trans (X.out.1.mono R.out.2.2.size)
   have hO10:Ob w.heap.size (.slice (some ⟨g,0,none⟩) q c) (script nn ss (es.take k)) w10:=Ol.held R.out.2.1 X.out.1
   obtain ⟨g1',cp1,w11,hrun1,hO11,hb11,hx11⟩:=Ob.lit hO10 hb10.size [kd] (by simp; omega) (by simp) (by simp) (by have:=Q.out.2.2.1; simp; omega) (C:=#[.int .u8 (kd:Int)]) rfl (m:=1) rfl
   rw [← R.out.1] at hrun1 hO11
   have BX11:=hx11 _ _ _ X.out.2 (fun b hb e=>by have:=(Ol.lt R.out.2.1 hb).1; omega)
   have hb11':=hb10.trans hb11
   have V:=Lib.hid (And.intro hO11 (And.intro BX11 hb11'))
   clear hb10 hO10 hO11 hb11 hx11 BX11 hb11'
   go_upto_region 6 with (first|(at_builtin; refine Lib.wpList_append_run _ rfl (.tmp 28) (.tmp 32) 25 25 rfl _ _ rfl rfl _ _ hrun1 ?_)|fail)
   clear x0 hrun1
   have x1:w11.cell? ⟨wr.heap.size,1,none⟩=some (.int .i64 (i:Int)):=V.out.2.1.at_ 1
   have x2:w11.cell? ⟨wr.heap.size,2,none⟩=some (.int .i64 (kk:Int)):=V.out.2.1.at_ 2
   have x3:w11.cell? ⟨wr.heap.size,3,none⟩=some (.int .i64 (n':Int)):=V.out.2.1.at_ 3
   have hIn:=below_new w11 (.cells #[.int .i64 (i:Int),.int .i64 (kk:Int),.int .i64 (n':Int)] 3)
   have BI:=Blk.new w11 3 #[.int .i64 (i:Int),.int .i64 (kk:Int),.int .i64 (n':Int)]
   have V2:=Lib.hid (And.intro (Ol.held V.out.1 hIn) (And.intro (V.out.2.1.held hIn) (And.intro (V.out.2.2.trans (hIn.mono V.out.2.2.size)) (And.intro BI (show wr.heap.size<w11.heap.size from V.out.2.1.lt)))))
   clear hIn BI V
   go_wp2_with fail
   generalize w11.alloc _=w12 at*
   clear x1 x2 x3
   generalize w11.heap.size=Y at*
   generalize wr.heap.size=bx at*
   go_loopw [7,42] (fun v j wi=>∃ jj g q c:Nat,j= .int .i64 (jj:Nat)∧v= .slice (some ⟨g,0,none⟩) q c∧jj≤3∧Hid (q=(script nn ss (es.take k)++[kd]++upto3 i kk n' jj).length∧Ob w.heap.size (.slice (some ⟨g,0,none⟩) q c) (script nn ss (es.take k)++[kd]++upto3 i kk n' jj) wi∧Below w.heap.size w wi∧Blk 37 wi bx #[.int .i64 (kd:Int),.int .i64 (i:Int),.int .i64 (kk:Int),.int .i64 (n':Int),.int .u32 (a:Nat),.int .i64 (l:Int),.string s]∧Blk 3 wi Y #[.int .i64 (i:Int),.int .i64 (kk:Int),.int .i64 (n':Int)])) (fun _ j _=>3 - (intOf j).toNat)
   case atStart=>exact ⟨0,g1',q+1,cp1,rfl,rfl,by omega,Lib.hid ⟨by rw [R.out.1]; simp [upto3],by simpa [upto3] using V2.out.1,V2.out.2.2.1,V2.out.2.1,V2.out.2.2.2.1⟩⟩
   case round=>
    clear V2
    obtain ⟨jj,g2',q2,cp2,rfl,rfl,hj3,T⟩:=hrel
    by_cases hjl:jj<3
    ·have dj:decide ((jj:Int)<3)=true:=decide_eq_true (by omega)
     have cj:wr.cell? ⟨Y,jj,none⟩=some (.int .i64 (([i,kk,n'].getD jj 0:Nat):Int)):=(T.out.2.2.2.2.at_ jj).trans (ints_at i kk n' hjl)
     have hx:=ints_le g1 g2 g3 hjl
     have hup:=upto3_succ i kk n' hjl
     have hul:=upto3_length i kk n' (j:=jj) (by omega)
     generalize [i,kk,n'].getD jj 0=z at*
     obtain ⟨g3',cp3,w13,hrun3,hO13,hb13,hx13⟩:=Ob.lit T.out.2.1 T.out.2.2.1.size (Sc.three z) (three_lt z) (by simp [Sc.three]) (by simp [Sc.three]) (by
      have h1:=Q.out.2.2.1
      have h2:=Q.out.2.1
      have h3:=congrArg List.length h2
      simp [upto3_length] at h3
      simp [Sc.three,hul]
      omega) (C:=#[.int .u8 ((z:Int) / 65536),.int .u8 ((z:Int) / 256 % 256),.int .u8 ((z:Int) % 256)]) (cls_three (by omega) (by omega) (by omega)) (m:=3) rfl
     rw [← T.out.1] at hrun3 hO13
     have BX13:=hx13 _ _ _ T.out.2.2.2.1 (fun b hb e=>by
      obtain ⟨cur,hB⟩:=T.out.2.1.blkY hb
      subst e
      have:=T.out.2.2.2.1.symm.trans hB
      cases this)
     have BI13:=hx13 _ _ _ T.out.2.2.2.2 (fun b hb e=>by
      obtain ⟨cur,hB⟩:=T.out.2.1.blkY hb
      subst e
      have:=T.out.2.2.2.2.symm.trans hB
      cases this)
     have T2:=Lib.hid (And.intro (show q2+3=(script nn ss (es.take k)++[kd]++upto3 i kk n' (jj+1)).length by rw [T.out.1,hup]; simp [Sc.three]; omega) (And.intro (show Ob w.heap.size (.slice (some ⟨g3',0,none⟩) (q2+3) cp3) (script nn ss (es.take k)++[kd]++upto3 i kk n' (jj+1)) w13 by rw [hup,← List.append_assoc]; exact hO13) (And.intro (T.out.2.2.1.trans hb13) (And.intro BX13 BI13))))
     have ij:(jj:Int)<3:=by omega
     clear hO13 hb13 hx13 BX13 BI13 hup hul T
     go_wp2_with (first|(at_builtin; refine Lib.wpList_append_run _ rfl (.tmp 46) (.tmp 57) 25 25 rfl _ _ rfl rfl _ _ hrun3 ?_)|fail)
     go_roundw
     case rel=>exact ⟨jj+1,g3',q2+3,cp3,by go_num,rfl,by omega,T2⟩
     case measure=>simp [intOf]; omega
    ·obtain rfl:jj=3:=by omega
     have x4:wr.cell? ⟨bx,4,none⟩=some (.int .u32 (a:Nat)):=T.out.2.2.2.1.at_ 4
     have x5:wr.cell? ⟨bx,5,none⟩=some (.int .i64 (l:Int)):=T.out.2.2.2.1.at_ 5
     have x6:wr.cell? ⟨bx,6,none⟩=some (.string s):=T.out.2.2.2.1.at_ 6
     obtain ⟨g3',cp3,w13,hrun3,hO13,hb13,hx13⟩:=Ob.lit T.out.2.1 T.out.2.2.1.size [a / 16777216 % 256,a / 65536 % 256,a / 256 % 256,a % 256,l,m] (by simp; omega) (by simp) (by simp) (by
      have h1:=Q.out.2.2.1
      have h2:=Q.out.2.1
      have h3:=congrArg List.length h2
      simp [upto3_length] at h3
      simp [upto3_length]
      omega) (C:=#[.int .u8 ((a:Int) / 16777216),.int .u8 ((a:Int) / 65536 % 256),.int .u8 ((a:Int) / 256 % 256),.int .u8 ((a:Int) % 256),.int .u8 (l:Int),.int .u8 (m:Int)]) (cls_six (by omega) (by omega) (by omega) (by omega) rfl rfl) (m:=6) rfl
     rw [← T.out.1] at hrun3 hO13
     have BX13:=hx13 _ _ _ T.out.2.2.2.1 (fun b hb e=>by
      obtain ⟨cur,hB⟩:=T.out.2.1.blkY hb
      subst e
      have:=T.out.2.2.2.1.symm.trans hB
      cases this)
     have y6:w13.cell? ⟨bx,6,none⟩=some (.string s):=BX13.at_ 6
     have hb13':=T.out.2.2.1.trans hb13
     obtain ⟨g4',cp4,w14,hrun4,hO14,hg14⟩:=Ob.str hO13 hb13'.size (by rw [List.length_append]; simp only [List.length_cons,List.length_nil]; omega) P (by
      have h1:=Q.out.2.2.1
      have h2:=Q.out.2.1
      have h3:=congrArg List.length h2
      simp [upto3_length,Sc.nats_length] at h3
      simp [upto3_length]
      omega) 25
     have hb14:=hb13'.grown hg14 hb13'.size (fun kk e=>(Ol.lt hO13 e).2)
     have hfin:script nn ss (es.take (k+1))=script nn ss (es.take k)++[kd]++upto3 i kk n' 3++[a / 16777216 % 256,a / 65536 % 256,a / 256 % 256,a % 256,l,m]++Sc.nats P:=by
      rw [Q.out.1,Q.out.2.1]; simp
     have hq4:(script nn ss (es.take k)++[kd]++upto3 i kk n' 3++[a / 16777216 % 256,a / 65536 % 256,a / 256 % 256,a % 256,l,m]).length=q2+6:=by rw [T.out.1,List.length_append]; rfl
     rw [← hfin] at hO14
     rw [hq4,← Q.out.2.2.2.2] at hrun4 hO14
     rw [← Q.out.2.2.2.1] at hrun4
     have F:=Lib.hid (And.intro (show q2+6+m=(script nn ss (es.take (k+1))).length by rw [hfin,List.length_append,hq4,Sc.nats_length,Q.out.2.2.2.2]) (And.intro hO14 hb14))
     clear hO13 hb13 hx13 BX13 hb13' hO14 hg14 hb14 hfin hq4 T Q
     go_wp2_with (first|(at_builtin; refine Lib.wpList_append_run _ rfl (.tmp 63) (.tmp 83) 25 25 rfl _ _ rfl rfl _ _ hrun3 ?_)|(at_builtin; refine Lib.wpList_append_run _ rfl (.tmp 85) (.tmp 87) 25 9 rfl _ _ rfl rfl _ _ hrun4 ?_)|fail)
     go_roundw
     case rel=>exact ⟨k+1,g4',q2+6+m,cp4,by go_num,rfl,by omega,F⟩
     case measure=>simp [intOf]; omega
  ·obtain rfl:k=n:=by omega
   have d2:decide ((k:Int)<(k:Int))=false:=decide_eq_false (by omega)
   have e1:es.take k=es:=List.take_of_length_le (by rw [H.out.2.2.2]; exact Nat.le_refl _)
   have R2:=R.out
   rw [e1] at R2
   have R3:=Lib.hid R2
   clear R R2 e1
   go_wp2_with fail
   go_ret
   exact ⟨g,c,q,rfl,R3.out.1,R3.out.2.1,R3.out.2.2⟩
end Go.Proofs.YthaefdlkpljojaaGreatDoor.Sp
namespace Go.Proofs.YthaefdlkpljojaaGreatDoor
open Go.RowKit Go.Maps
attribute [local go_sem] Oper.semAt_some
set_option maxRecDepth 100000 in
theorem lz_len64 (w:World):Calls Tryz.prog 72 #[.int .u64 0] w fun e w'=>(∃ q:Int,e= .returned (.int .i64 q))∧w'=w:=by
 go_enter Tryz.func72,Tryz.ntmps72
 go_wp2
 go_ret
 exact ⟨⟨_,rfl⟩,rfl⟩
theorem lz_len (w:World):Calls Tryz.prog 124 #[.int .u64 0] w fun e w'=>(∃ q:Int,e= .returned (.int .i64 q))∧w'=w:=by
 go_enter Tryz.func124,Tryz.ntmps124
 go_wp2_with (go_at_call 72; refine (lz_len64 w).mono ?_; rintro e w2 ⟨⟨q,rfl⟩,rfl⟩)
 go_ret
 exact ⟨⟨_,rfl⟩,rfl⟩
theorem lz_ins (w:World):Calls Tryz.prog 157 #[.slice none 0 0,.int .i64 0,.int .i64 0] w fun e w'=>e= .returned (.tuple #[])∧w'=w:=by
 go_enter Tryz.func157,Tryz.ntmps157
 go_wp2
 go_loopw [6] (fun vi wr=>vi= .int .i64 1∧wr=w) (fun _ _=>1)
 case atStart=>exact ⟨rfl,rfl⟩
 case round=>
  obtain ⟨rfl,rfl⟩:=hrel
  go_wp2
  go_end0
  exact ⟨rfl,rfl⟩
theorem lz_pdq (w:World) (l:Int):Calls Tryz.prog 123 #[.slice none 0 0,.int .i64 0,.int .i64 0,.int .i64 l] w fun e w'=>e= .returned (.tuple #[])∧w'=w:=by
 have HI:=lz_ins w
 go_enter Tryz.func123,Tryz.ntmps123
 go_wp2_with fail
 go_loopw [1,2] (fun a b wr=>a= .int .i64 0∧b= .int .i64 0∧wr=w) (fun _ _ _=>1)
 case atStart=>exact ⟨rfl,rfl,rfl⟩
 case round=>
  obtain ⟨rfl,rfl,rfl⟩:=hrel
  go_wp2_with (go_at_call 157; refine HI.mono ?_; rintro e w2 ⟨rfl,rfl⟩)
  refine bodyPost_ret (results_none rfl _ _ _) rfl ?_
  exact ⟨rfl,rfl⟩
theorem lz_sort (w:World):Calls Tryz.prog 91 #[.slice none 0 0] w fun e w'=>e= .returned (.tuple #[])∧w'=w:=by
 have HP:=lz_pdq w
 go_enter Tryz.func91,Tryz.ntmps91
 go_wp2_with (first|(go_at_call 124; refine (lz_len w).mono ?_; rintro e w2 ⟨⟨q,rfl⟩,rfl⟩)|(go_at_call 123; refine (HP _).mono ?_; rintro e w3 ⟨rfl,rfl⟩)|fail)
 go_end0
 exact ⟨rfl,rfl⟩
theorem lz_compact (w:World):Calls Tryz.prog 92 #[.slice none 0 0] w fun e w'=>e= .returned (.slice none 0 0)∧w'=w:=by
 go_enter Tryz.func92,Tryz.ntmps92
 go_wp2_with fail
 go_ret
 exact ⟨rfl,rfl⟩
set_option maxRecDepth 100000 in
theorem lz_addresses {w:World} {g T n:Nat} {fe:Nat→List Fe} (h:FbAt w g T n fe) (hn:n≤8) (he:∀ j,j<n→fe j=[]):
  Calls Tryz.prog 57 #[.slice (some ⟨g,0,none⟩) n n] w fun e w'=>e= .returned (.slice none 0 0)∧Below w.heap.size w w':=by
 have H:=Lib.hid (And.intro h he)
 have S0:=Lib.hid (show Blk 122 (w.alloc (.cells #[.slice none 0 0] 122)) w.heap.size #[.slice none 0 0]∧Below w.heap.size w (w.alloc (.cells #[.slice none 0 0] 122)) from ⟨Blk.new w _ _,below_new _ _⟩)
 clear h he
 go_enter Tryz.func57,Tryz.ntmps57
 go_wp2_with fail
 go_loopw [12] (fun i wr=>∃ k:Nat,i= .int .i64 (k:Nat)∧k≤n∧Hid (Blk 122 wr w.heap.size #[.slice none 0 0]∧Below w.heap.size w wr)) (fun i _=>n - (intOf i).toNat)
 case atStart=>exact ⟨0,rfl,Nat.zero_le _,S0⟩
 case round=>
  clear S0
  obtain ⟨k,rfl,hk,S⟩:=hrel
  by_cases hlt:k<n
  ·have hkz:(k:Int)<(n:Int):=by omega
   obtain ⟨p,c,q0,-⟩:=(H.out.1.held S.out.2).row hlt
   rw [H.out.2 k hlt] at q0
   replace q0:wr.cell? ⟨g,k,none⟩=some (.slice p 0 c):=q0
   go_wp2_with fail
   go_loopw [18] (fun i wr2=>i= .int .i64 0∧Hid (Blk 122 wr2 w.heap.size #[.slice none 0 0]∧Below w.heap.size w wr2)) (fun _ _=>1)
   case atStart=>exact ⟨rfl,S⟩
   case round=>
    clear q0 S
    obtain ⟨rfl,S⟩:=hrel
    go_wp2_with fail
    go_roundw
    case rel=>exact ⟨k+1,by go_num,by omega,S⟩
    case measure=>simp [intOf]; omega
  ·obtain rfl:k=n:=by omega
   have b0:=S.out.1.at_ 0
   have Z:=Lib.hid S.out.2
   clear S
   go_wp2_with (first|(go_at_call 91; refine (lz_sort _).mono ?_; rintro e w2 ⟨rfl,rfl⟩)|(go_at_call 92; refine (lz_compact _).mono ?_; rintro e w3 ⟨rfl,rfl⟩)|fail)
   go_ret
   exact ⟨rfl,Z.out⟩
set_option maxRecDepth 100000 in
theorem lz_find {w:World} {g T n:Nat} {fe:Nat→List Fe} (h:FbAt w g T n fe) (hn:n≤8) (he:∀ j,j<n→fe j=[]):
  Calls Tryz.prog 37 #[.slice (some ⟨g,0,none⟩) n n] w fun e w'=>e= .returned (.tuple #[.int .i64 0,.int .u32 0,.bool false])∧Below w.heap.size w w':=by
 have HA:=lz_addresses h hn he
 clear h he
 go_enter Tryz.func37,Tryz.ntmps37
 go_wp2_with (go_at_call 57; refine HA.mono ?_; rintro e w1 ⟨rfl,hb1⟩; clear HA)
 go_loopw [14] (fun i wr=>i= .int .i64 0∧wr=w1) (fun _ _=>1)
 case atStart=>exact ⟨rfl,rfl⟩
 case round=>
  obtain ⟨rfl,rfl⟩:=hrel
  go_wp2_with fail
  go_ret3
  exact ⟨rfl,hb1⟩
end Go.Proofs.YthaefdlkpljojaaGreatDoor
namespace Go.Proofs.YthaefdlkpljojaaGreatDoor
open Go.RowKit Go.Maps Rm Fm Sb
theorem mask_low (z:Int) (m:Nat) (hm:m<65536):∃ c:Nat,c≤m∧bits .and .i64 z (m:Int)=(c:Int):=by
 have e0:(BitVec.ofInt 64 (m:Int)).toNat=m:=by simp; omega
 have h1:(BitVec.ofInt 64 z &&& BitVec.ofInt 64 (m:Int)).toNat≤m:=by
  rw [BitVec.toNat_and,e0]
  exact Nat.and_le_right
 refine ⟨(BitVec.ofInt 64 z &&& BitVec.ofInt 64 (m:Int)).toNat,h1,?_⟩
 have e:bits .and .i64 z (m:Int)=IntKind.i64.wrap ((BitVec.ofInt 64 z &&& BitVec.ofInt 64 (m:Int)).toNat:Int):=rfl
 rw [e]
 generalize (BitVec.ofInt 64 z &&& BitVec.ofInt 64 (m:Int)).toNat=n at*
 simp only [IntKind.wrap,IntKind.bits,IntKind.signed]
 simp
 omega
section
variable {w0 w:World} {N:Nat} {d:Nat→Nat} {z:Int}
end
section
variable {w0 w:World} {N:Nat} {d:Nat→Nat} {z:Int}
end
end Go.Proofs.YthaefdlkpljojaaGreatDoor
namespace Go.Proofs.YthaefdlkpljojaaGreatDoor
open Go.RowKit Go.Maps Rm Fm Sb
attribute [local go_sem] Oper.semAt_some
def mBs (n:Nat) (odd:Bool):List Nat:=Sc.script 1 64 (mev n)++(if odd=true then [99] else [])
theorem mBs_lt (n:Nat) (odd:Bool):∀ c∈mBs n odd,c<256:=by
 intro c hc
 unfold mBs at hc
 rcases List.mem_append.1 hc with h|h
 ·exact Sc.script_lt _ _ _ _ h
 ·cases odd
  ·simp at h
  ·simp at h; omega
def mTold (n:Nat) (odd:Bool):List ByteArray:=cutL ((mLs n++[up0])++errL (if odd=true then 6 else 0) (3+16*n:Nat))
theorem mLs_len {n:Nat} (h:0<n):(mLs n).length=n:=by
 unfold mLs
 simp
 omega
theorem many_run {n:Nat} (hn1:0<n) (hn2:n≤501) (odd:Bool) {w:World} {A:Option Addr} {len cap:Nat} (h:Sp.Sl w A len cap (mBs n odd)) (hlen:len≤262144) (ht:Tab w):
  Calls Tryz.prog 10 #[.slice A len cap] w fun e w'=>∃ p m c,e= .returned (.slice p m c)∧Lns w.heap.size (.slice p m c) (mTold n odd) w'∧Below w.heap.size w w':=by
 have s0:mBs n odd=1::0::64::(Sc.flat (mev n)++(if odd=true then [99] else [])):=by
  unfold mBs Sc.script Sc.two
  simp
 have s1:(mBs n odd).getD 0 0=1:=by rw [s0]; rfl
 have s2:(mBs n odd).getD 1 0*256+(mBs n odd).getD 2 0=64:=by rw [s0]; simp
 have s3:(mBs n odd).drop 3=Sc.flat (mev n)++(if odd=true then [99] else []):=by rw [s0]; rfl
 have s4:(mBs n odd).length=3+16*n+(if odd=true then 1 else 0):=by
  unfold mBs
  rw [List.length_append,Sc.script_length,flat_mev]
  split<;>rfl
 have hh:Sc.headed (mBs n odd)=true:=by
  unfold Sc.headed
  rw [s1,s2,s4]
  simp
  exact ⟨by omega,by decide⟩
 have hr:∀ x∈mev n,Sc.right x=true∧x.a<4294967296:=fun x hx=>by rw [mev_mem hx]; exact bev_right (by omega)
 have HD0:=Sp.decode_good h hlen hh
 rw [s1,s2] at HD0
 have HD:Calls Tryz.prog 17 #[.slice A len cap] w fun x w'=>∃ (A':Option Addr) (c':Nat),x= .returned (.tuple #[.int .i64 (1:Nat),.int .i64 (64:Nat),.slice A' n c',.int .i64 (3+16*n:Nat),.int .i64 (if odd=true then 6 else 0)])∧Hid (Sp.El w' A' n c' (mev n)∧Below w.heap.size w w'):=by
  refine HD0.mono ?_
  rintro x w' ⟨v,l,k,e,rfl,hO,hE,hB⟩
  have key:l=mev n∧e=(if odd=true then 6 else 0)∧k=3+16*n:=by
   cases odd with
   |false=>
    obtain ⟨h1,h2,h3⟩:=hE.back hr (by rw [s3]; simp) (by rw [mev_len]; omega)
    exact ⟨h1,h2,by rw [h3,s4]; rfl⟩
   |true=>
    obtain ⟨h1,h2,h3⟩:=Evs_junk (r:=[99]) hE hr s3 (by simp) (by simp) (by rw [mev_len]; omega)
    exact ⟨h1,h2,by rw [h3,flat_mev]⟩
  obtain ⟨rfl,rfl,rfl⟩:=key
  obtain ⟨A',c',rfl,hEl⟩:=hO.el (fun x hx=>by rw [mev_mem hx]; exact bev_good (by omega))
  rw [mev_len] at hEl
  refine ⟨A',c',?_,Lib.hid ⟨hEl,hB⟩⟩
  rw [mev_len]
  cases odd<;>rfl
 have:=run_any (m:=n) (nn:=1) (sec:=64) (at_:=(3+16*n:Nat)) (ez:=if odd=true then 6 else 0) (es:=mev n) (pl:=cameL (mz n)++machL (fun i=>[upL i]) 1) (by omega) HD (fun w' A' c' hb hEl=>played_any hEl hn2 (nn:=1) (sec:=64) (by omega) (by omega) (by omega) (by omega) (ht.held hb) (P:=mP) m_start (fun N d k zs st os O wx hk hP hB=>m_step N d k zs st os O wx hk hP hB) (zs:=mz n) (fe:=fun _=>[]) (ls:=fun i=>[upL i])
  (mz_range n) (fun d zs' st os hP=>m_end hn1 d zs' st os hP) (fun w' g T hF=>lz_find hF (by omega) (fun _ _=>rfl))) ht (by cases odd<;>decide) (by omega) (by
   rw [List.length_append,cameL_mz hn1,mLs_len hn1]
   simp [machL]
   omega)
 have e:cutL ((cameL (mz n)++machL (fun i=>[upL i]) 1)++errL (if odd=true then 6 else 0) (3+16*n:Nat))=mTold n odd:=by
  unfold mTold
  rw [cameL_mz hn1]
  show cutL ((mLs n++([]++[upL 0]))++_)=_
  rw [up0_eq]
  rfl
 rw [e] at this
 exact this
structure TmR (w:World) (vb vl:Value) (bs:List Nat) (ls:List ByteArray) (wr:World):Prop where
 by_:Sp.Ob w.heap.size vb bs wr
 ls:Lns w.heap.size vl ls wr
 below:Below w.heap.size w wr
section
variable {w wr w1:World} {vb vl:Value} {bs:List Nat} {ls:List ByteArray}
theorem TmR.held (h:TmR w vb vl bs ls wr) (hb:Below wr.heap.size wr w1):TmR w vb vl bs ls w1:=⟨Ol.held h.by_ hb,h.ls.held hb,h.below.trans (hb.mono h.below.size)⟩
theorem TmR.line {p:Option Addr} {n c:Nat} (h:TmR w vb (.slice p n c) bs ls wr) (s:ByteArray) (hn:n≤1000):
  ∃ g' cap' W',(Builtin.append_ #[24,24] 24 #[.slice p n c,.slice (some ⟨wr.heap.size,0,none⟩) 1 1]).run Tryz.prog (wr.alloc (.cells #[.string s] 9))= .ok (.slice (some ⟨g',0,none⟩) (n+1) cap') W'∧TmR w vb (.slice (some ⟨g',0,none⟩) (n+1) cap') bs (ls++[s]) W':=by
 obtain ⟨p',c',e1,-⟩:=Ol.form h.ls
 injection e1 with e1 e2 e3
 subst e2
 obtain ⟨g',cap',W',hrun,hO,hT,hat⟩:=Ol.push1 elemStr h.ls h.below.size s (by omega) 24
 exact ⟨g',cap',W',hrun,Ol.turn h.by_ hT (fun b hb hm=>Ol.ne h.by_ h.ls (by decide) hb (by simpa using hm)),hO,own_below h.ls h.below h.below.size hT⟩
theorem TmR.byte {p:Option Addr} {n c:Nat} (h:TmR w (.slice p n c) vl bs ls wr) (x:Nat) (hn:n≤100000):
  ∃ g' cap' W',(Builtin.append_ #[25,25] 25 #[.slice p n c,.slice (some ⟨wr.heap.size,0,none⟩) 1 1]).run Tryz.prog (wr.alloc (.cells (Sp.bcl x).toArray 5))= .ok (.slice (some ⟨g',0,none⟩) (n+1) cap') W'∧TmR w (.slice (some ⟨g',0,none⟩) (n+1) cap') vl (bs++[x]) ls W':=by
 obtain ⟨p',c',e1,-⟩:=Ol.form h.by_
 injection e1 with e1 e2 e3
 subst e2
 obtain ⟨g',cap',W',hrun,hO,hT,hat⟩:=Ol.push1 Sp.elemB h.by_ h.below.size x (by omega) 25
 exact ⟨g',cap',W',hrun,hO,Ol.turn h.ls hT (fun b hb hm=>Ol.ne h.ls h.by_ (by decide) hb (by simpa using hm)),own_below h.by_ h.below h.below.size hT⟩
theorem TmR.cut {p:Option Addr} {n c:Nat} (h:TmR w vb (.slice p n c) bs ls wr) (hn:500<n) (s:ByteArray):ls.length=n∧500≤c∧
  ∃ g' cap' W',(Builtin.append_ #[24,24] 24 #[.slice p 500 c,.slice (some ⟨wr.heap.size,0,none⟩) 1 1]).run Tryz.prog (wr.alloc (.cells #[.string s] 9))= .ok (.slice (some ⟨g',0,none⟩) 501 cap') W'∧TmR w vb (.slice (some ⟨g',0,none⟩) 501 cap') bs (ls.take 500++[s]) W':=by
 obtain ⟨p',c',e1,-⟩:=Ol.form h.ls
 injection e1 with e1 e2 e3
 obtain ⟨g,cp,e4,hc,hcut⟩:=Ol.cut elemStr.len h.ls (m:=500) (by omega) (by omega)
 injection e4 with e4 e5 e6
 subst e4 e6
 have h2:TmR w vb (.slice (some ⟨g,0,none⟩) 500 c) bs (ls.take 500) wr:=⟨h.by_,hcut,h.below⟩
 obtain ⟨g',cap',W',hrun,h3⟩:=h2.line s (by omega)
 exact ⟨e2.symm,hc,g',cap',W',hrun,h3⟩
end
theorem ev_parts:∃ i,Tryz.prog.info? 37=some i∧i.zero=some (Value.agg #[.int .i64 0,.int .i64 0,.int .i64 0,.int .i64 0,.int .u32 0,.int .i64 0,.string ⟨#[]⟩])∧i.size=7∧i.bytes=64:=by
 have h:(Tryz.prog.info? 37).map (fun i=>(i.zero,i.size,i.bytes))=some (some (Value.agg #[.int .i64 0,.int .i64 0,.int .i64 0,.int .i64 0,.int .u32 0,.int .i64 0,.string ⟨#[]⟩]),7,64):=by kernel_rfl
 exact info_parts h
theorem made_mev (n:Nat):madeCells (Value.agg #[.int .i64 0,.int .i64 0,.int .i64 0,.int .i64 0,.int .u32 0,.int .i64 0,.string ⟨#[]⟩]).cells (n*7)=((mev n).flatMap Sp.ecl).toArray:=by
 apply Array.ext
 ·rw [size_madeCells,List.size_toArray,cl_flat_len (cl:=Sp.ecl) (k:=7) (fun _=>rfl),mev_len]
 ·intro j h1 h2
  have hj:j<n*7:=by rw [size_madeCells] at h1; exact h1
  have hd:j=(j / 7)*7+j % 7:=by omega
  have hq:j / 7<(mev n).length:=by rw [mev_len]; omega
  have e2:=cl_flat_get (cl:=Sp.ecl) (k:=7) (fun _=>rfl) (mev n) (j / 7) hq (j % 7) (by omega)
  rw [← hd,mev_get hq] at e2
  have e3:((mev n).flatMap Sp.ecl).toArray[j]?=(Sp.ecl (bev 0))[j % 7]?:=by rw [← e2]; simp
  rw [Array.getElem?_eq_getElem h2] at e3
  have e4:(madeCells (Value.agg #[.int .i64 0,.int .i64 0,.int .i64 0,.int .i64 0,.int .u32 0,.int .i64 0,.string ⟨#[]⟩]).cells (n*7))[j]?=(Sp.ecl (bev 0))[j % 7]?:=by
   have:j % 7=0∨j % 7=1∨j % 7=2∨j % 7=3∨j % 7=4∨j % 7=5∨j % 7=6:=by omega
   have e5:(madeCells (Value.agg #[.int .i64 0,.int .i64 0,.int .i64 0,.int .i64 0,.int .u32 0,.int .i64 0,.string ⟨#[]⟩]).cells (n*7))[j]?=some ((#[Value.int .i64 0,.int .i64 0,.int .i64 0,.int .i64 0,.int .u32 0,.int .i64 0,.string ⟨#[]⟩]:Array Value)[j % 7]!):=by
    unfold madeCells
    rw [Array.getElem?_map,Array.getElem?_range,if_pos hj]
    rfl
   rw [e5]
   rcases this with e|e|e|e|e|e|e<;>rw [e]<;>rfl
  rw [Array.getElem?_eq_getElem h1] at e4
  exact Option.some.inj (e4.trans e3.symm)
theorem run_make_mev (n:Nat) (hn:n≤1000) (w:World):(Instr.makeSlice 23 (.int .i64 (n:Int)) (.int .i64 (n:Int))).run Tryz.prog w= .ok (.slice (some ⟨w.heap.size,0,none⟩) n n) (w.alloc (.cells ((mev n).flatMap Sp.ecl).toArray 37)):=by
 obtain ⟨i,h1,h2,h3,h4⟩:=ev_parts
 have h:=run_make (P:=Tryz.prog) w 23 37 i _ (by kernel_rfl) h1 h2 .i64 .i64 (n:Int) (n:Int) (by omega) (by omega) (by rw [h4]; omega) (by omega)
 rw [h3] at h
 rw [← made_mev]
 simpa using h
theorem mLs_succ {q:Nat} (h:1≤q):mLs (q+1)=mLs q++[stA]:=by
 obtain ⟨k,rfl⟩:∃ k,q=k+1:=⟨q - 1,by omega⟩
 unfold mLs
 show okA::List.replicate (k+1) stA=(okA::List.replicate k stA)++[stA]
 rw [List.cons_append,← List.replicate_succ']
set_option maxRecDepth 100000 in
theorem many_walk (a:Int) (odd:Bool) (w:World) (ht:Tab w):Calls Tryz.prog 3 #[.int .i64 a,.bool odd] w fun e w'=>e= .returned (.bool true)∧Below w.heap.size w w':=by
 obtain ⟨x,hx,m1⟩:=mask_low a 7 (by omega)
 replace m1:bits .and .i64 a 7=(x:Int):=m1
 obtain ⟨nn,hnn⟩:∃ nn:Nat,494+(x:Int)=(nn:Int):=⟨494+x,by omega⟩
 have hn1:494≤nn:=by omega
 have hn2:nn≤501:=by omega
 have k1:wrap64 (494+(x:Int))=494+(x:Int):=IntWalk.wrap64_in _ (by omega)
 have HH:=tell_head w ht
 have HT:=Lib.hid ht
 have mk:=fun u=>run_make_mev nn (by omega) u
 clear ht
 go_enter Tryz.func3,Tryz.ntmps3
 go_upto_region 4 with (go_at_call 6; refine HH.mono ?_; rintro e w1 ⟨rfl,hb1⟩)
 have mk1:=mk w1
 clear mk m1 hnn k1 hx HH
 go_upto_region 5 with fail
 have B1:=Lib.hid hb1
 have LB:=Blk.new w1 37 ((mev nn).flatMap Sp.ecl).toArray
 have hb2:=below_new w1 (.cells ((mev nn).flatMap Sp.ecl).toArray 37)
 have B2:=Lib.hid (next hb1 hb2)
 generalize w1.alloc _=w2 at*
 generalize w1.heap.size=lb at*
 have E2:=Lib.hid LB
 clear mk1 hb1 hb2 LB
 have R0:Hid (PdR w2 (mLs 1) (.slice (some ⟨w2.heap.size,0,none⟩) 1 1) (w2.alloc (.cells #[.string okA] 9))):=Lib.hid ⟨Lns.one w2 okA,below_new _ _⟩
 unfold okA at R0
 go_upto_region 6 with fail
 generalize w2.alloc _=w3 at*
 generalize w2.heap.size=g6 at R0 ⊢
 go_wp2_with fail
 go_loopw [6,7] (fun v i wr=>∃ (q:Nat) (p:Option Addr) (c:Nat),i= .int .i64 (q:Nat)∧v= .slice p q c∧1≤q∧q≤nn∧Hid (PdR w2 (mLs q) (.slice p q c) wr)) (fun _ i _=>nn - (intOf i).toNat)
 case atStart=>exact ⟨1,_,_,rfl,rfl,Nat.le_refl _,by omega,R0⟩
 case round=>
  clear R0
  obtain ⟨q,p,c,rfl,rfl,hq1,hq,Y⟩:=hrel
  by_cases hlt:q<nn
  ·have hqz:(q:Int)<(nn:Int):=by omega
   obtain ⟨g',cap',W',hrun,h1⟩:=Y.out.push stA (by omega)
   rw [← mLs_succ hq1] at h1
   have Z:=Lib.hid h1
   clear h1 Y
   unfold stA at hrun
   go_wp2_with (first|(at_builtin; refine Lib.wpList_append_run _ rfl (.tmp 22) (.tmp 23) 24 24 rfl _ _ rfl rfl _ _ hrun ?_)|fail)
   go_roundw
   case rel=>exact ⟨q+1,_,_,by go_num,rfl,by omega,by omega,Z⟩
   case measure=>simp [intOf]; omega
  ·obtain rfl:q=nn:=by omega
   have hqz:¬ ((q:Int)<(q:Int)):=by omega
   have hEl:=el_blk (E2.out.held Y.out.below) (by rw [mev_len]; omega) (fun e he=>by rw [mev_mem he]; exact bev_good (by omega))
   rw [mev_len] at hEl
   have HB:=Sp.lbytes_any (nn:=1) (ss:=64) hEl (mev_all q) (by omega) (by omega) (by rw [flat_mev]; omega)
   replace HB:Calls Tryz.prog 7 #[.int .i64 1,.int .i64 64,.slice (some ⟨lb,0,none⟩) q q] wr fun x w'=>∃ g c ql,x= .returned (.slice (some ⟨g,0,none⟩) ql c)∧ql=(Sc.script 1 64 (mev q)).length∧Sp.Ob wr.heap.size (.slice (some ⟨g,0,none⟩) ql c) (Sc.script 1 64 (mev q)) w'∧Below wr.heap.size wr w':=HB
   clear hEl hlt
   go_wp2_with fail
   refine HB.mono ?_
   rintro e w4 ⟨g,cc,ql,rfl,hql,hO,hb4⟩
   have hql2:ql=3+16*q:=by rw [hql,Sc.script_length,flat_mev]
   have Y4:TmR w2 (.slice (some ⟨g,0,none⟩) ql cc) (.slice p q c) (Sc.script 1 64 (mev q)) (mLs q) w4:=⟨Ol.mono hO Y.out.below.size,Y.out.ls.held hb4,Y.out.below.trans (hb4.mono Y.out.below.size)⟩
   obtain ⟨g5,cap5,W5,hrun5,h5⟩:=Y4.line up0 (by omega)
   have HI:∀ W,Below w2.heap.size w2 W→Calls Tryz.prog 8 #[.int .i64 (ql:Nat)] W fun e w'=>e= .returned (.string (nS ql))∧Below W.heap.size W w':=fun W hb=>(Tryz.strconv_Itoa ql (by omega) (by omega) W ((HT.out.held B2.out).held hb)).mono fun _ _ ⟨he,k,os,hw⟩=>⟨he,hw ▸ grow_below W k os⟩
   have HI5:=HI _ h5.below
   have hnl:(nS ql).size≤100:=by
    rw [← size_of]
    have:=nS_len ql (by omega) (by omega)
    simp only [nS,List.toList_toArray]
    omega
   have Y5:=Lib.hid h5
   have QL:=Lib.hid hql2
   have hqm:ql≤100000:=by omega
   obtain ⟨m5,hm5⟩:∃ m5,q+1=m5:=⟨_,rfl⟩
   rw [hm5] at Y5
   replace hrun5:(Builtin.append_ #[24,24] 24 #[.slice p q c,.slice (some ⟨w4.heap.size,0,none⟩) 1 1]).run Tryz.prog (w4.alloc (.cells #[.string up0] 9))= .ok (.slice (some ⟨g5,0,none⟩) m5 cap5) W5:=by rw [← hm5]; exact hrun5
   unfold up0 at hrun5
   have M5:=Lib.hid hm5
   have hm5b:m5≤502:=by omega
   clear HB hO hb4 hql Y4 h5 Y HI hql2 hm5
   cases odd with
   |false=>
    have EL:=Lib.hid (show (mLs q++[up0])++errL (if false=true then 6 else 0) (3+16*q:Nat)=mLs q++[up0] by
     unfold errL
     simp)
    have EB:mBs q false=Sc.script 1 64 (mev q):=by unfold mBs; simp
    clear HI5 hnl
    by_cases hbig:500<m5
    ·have d5:decide ((500:Int)<(m5:Int))=true:=decide_eq_true (by omega)
     obtain ⟨hlm,hc5,g9,cap9,W9,hrun9,h9⟩:=Y5.out.cut hbig manyA
     have F:mTold q false=(mLs q++[up0]).take 500++[manyA]:=by
      unfold mTold
      rw [show (mLs q++[up0])++errL (if false=true then 6 else 0) (3+16*q:Nat)=mLs q++[up0] from EL.out]
      unfold cutL
      rw [if_pos (by rw [hlm]; exact hbig)]
     rw [← F] at h9
     have hz5:(500:Int)≤(cap5:Int):=by omega
     have h5q:500≤m5:=by omega
     have Y9:=Lib.hid h9
     unfold manyA at hrun9
     have HR:=many_run (n:=q) (by omega) (by omega) false (sl_ob (show Sp.Ob w2.heap.size _ (mBs q false) W9 from by rw [EB]; exact h9.by_) (mBs_lt q false)) (by omega) ((HT.out.held B2.out).held h9.below)
     clear h9 hlm F
     go_wp2_with (first|(at_builtin; refine Lib.wpList_append_run _ rfl (.tmp 27) (.tmp 28) 24 24 rfl _ _ rfl rfl _ _ hrun5 ?_)|(at_builtin; refine Lib.wpList_append_run _ rfl (.tmp 45) (.tmp 46) 24 24 rfl _ _ rfl rfl _ _ hrun9 ?_)|fail)
     refine HR.mono ?_
     rintro e w10 ⟨p10,n10,c10,rfl,hL,hb10⟩
     have hls:=Y9.out.ls.held hb10
     obtain ⟨px,cx,ex,-⟩:=Ol.form hL
     injection ex with ex1 ex2 ex3
     obtain ⟨py,cy,ey,-⟩:=Ol.form hls
     injection ey with ey1 ey2 ey3
     have hn10:n10=501:=ex2.trans ey2.symm
     subst hn10
     have HLs:=same_lines hL hls ey2.symm (by omega)
     have Z:=Lib.hid (next B2.out (Y9.out.held hb10).below)
     clear HR hL hls hb10 ex1 ex2 ex3 ey1 ey2 ey3
     go_wp2_with fail
     refine HLs.mono ?_
     rintro e w11 ⟨rfl,hb11⟩
     have Z2:=Lib.hid (next Z.out hb11)
     clear HLs hb11
     go_wp2_with fail
     go_ret
     exact ⟨rfl,Z2.out⟩
    ·have d5:decide ((500:Int)<(m5:Int))=false:=decide_eq_false (by omega)
     have F:mTold q false=mLs q++[up0]:=by
      have hlm:(mLs q++[up0]).length=m5:=by
       obtain ⟨p',c',e1,-⟩:=Ol.form Y5.out.ls
       injection e1 with e1 e2 e3
       exact e2.symm
      unfold mTold
      rw [show (mLs q++[up0])++errL (if false=true then 6 else 0) (3+16*q:Nat)=mLs q++[up0] from EL.out]
      unfold cutL
      rw [if_neg (by rw [hlm]; exact hbig)]
     have h9:=Y5.out
     rw [← F] at h9
     have Y9:=Lib.hid h9
     have HR:=many_run (n:=q) (by omega) (by omega) false (sl_ob (show Sp.Ob w2.heap.size _ (mBs q false) _ from by rw [EB]; exact h9.by_) (mBs_lt q false)) (by omega) ((HT.out.held B2.out).held h9.below)
     clear h9 F
     go_wp2_with (first|(at_builtin; refine Lib.wpList_append_run _ rfl (.tmp 27) (.tmp 28) 24 24 rfl _ _ rfl rfl _ _ hrun5 ?_)|fail)
     refine HR.mono ?_
     rintro e w10 ⟨p10,n10,c10,rfl,hL,hb10⟩
     have hls:=Y9.out.ls.held hb10
     obtain ⟨px,cx,ex,-⟩:=Ol.form hL
     injection ex with ex1 ex2 ex3
     obtain ⟨py,cy,ey,-⟩:=Ol.form hls
     injection ey with ey1 ey2 ey3
     obtain rfl:n10=m5:=ex2.trans ey2.symm
     have HLs:=same_lines hL hls ey2.symm (by omega)
     have Z:=Lib.hid (next B2.out (Y9.out.held hb10).below)
     clear HR hL hls hb10 ex1 ex2 ex3 ey1 ey2 ey3
     go_wp2_with fail
     refine HLs.mono ?_
     rintro e w11 ⟨rfl,hb11⟩
     have Z2:=Lib.hid (next Z.out hb11)
     clear HLs hb11
     go_wp2_with fail
     go_ret
     exact ⟨rfl,Z2.out⟩
   |true=>
    obtain ⟨N,hN⟩:∃ N,nS ql=N:=⟨_,rfl⟩
    have EL:=Lib.hid (show (mLs q++[up0])++errL (if true=true then 6 else 0) (3+16*q:Nat)=(mLs q++[up0])++[erA++N] by
     unfold errL
     rw [if_pos rfl,if_neg (by decide),er_line,← hN,QL.out])
    have EB:mBs q true=Sc.script 1 64 (mev q)++[99]:=by unfold mBs; simp
    rw [hN] at HI5 hnl
    clear hN
    go_wp2_with (first|(at_builtin; refine Lib.wpList_append_run _ rfl (.tmp 27) (.tmp 28) 24 24 rfl _ _ rfl rfl _ _ hrun5 ?_)|fail)
    refine HI5.mono ?_
    rintro e w6 ⟨rfl,hb6⟩
    obtain ⟨g7,cap7,W7,hrun7,h7⟩:=(Y5.out.held hb6).line (erA++N) (by omega)
    obtain ⟨g8,cap8,W8,hrun8,h8⟩:=h7.byte 99 (by omega)
    obtain ⟨m7,hm7⟩:∃ m7,m5+1=m7:=⟨_,rfl⟩
    obtain ⟨q8,hq8⟩:∃ q8,ql+1=q8:=⟨_,rfl⟩
    rw [hm7,hq8] at h8
    have Y7:=Lib.hid h8
    replace hrun7:(Builtin.append_ #[24,24] 24 #[.slice (some ⟨g5,0,none⟩) m5 cap5,.slice (some ⟨w6.heap.size,0,none⟩) 1 1]).run Tryz.prog (w6.alloc (.cells #[.string (erA++N)] 9))= .ok (.slice (some ⟨g7,0,none⟩) m7 cap7) W7:=by rw [← hm7]; exact hrun7
    replace hrun8:(Builtin.append_ #[25,25] 25 #[.slice (some ⟨g,0,none⟩) ql cc,.slice (some ⟨W7.heap.size,0,none⟩) 1 1]).run Tryz.prog (W7.alloc (.cells #[.int .u8 99] 5))= .ok (.slice (some ⟨g8,0,none⟩) q8 cap8) W8:=by rw [← hq8]; exact hrun8
    unfold erA at hrun7
    have hm7b:m7≤503:=by omega
    have hq8b:q8≤100001:=by omega
    clear HI5 hb6 h7 h8 Y5 hrun5 hm7 hq8
    go_upto_region 15 with (first|(at_builtin; refine Lib.wpList_append_run _ rfl (.tmp 31) (.tmp 36) 24 24 rfl _ _ rfl rfl _ _ hrun7 ?_)|(at_builtin; refine Lib.wpList_append_run _ rfl (.tmp 38) (.tmp 39) 25 25 rfl _ _ rfl rfl _ _ hrun8 ?_)|fail)
    clear hrun7 hrun8
    by_cases hbig:500<m7
    ·have d5:decide ((500:Int)<(m7:Int))=true:=decide_eq_true (by omega)
     obtain ⟨hlm,hc5,g9,cap9,W9,hrun9,h9⟩:=Y7.out.cut hbig manyA
     have F:mTold q true=((mLs q++[up0])++[erA++N]).take 500++[manyA]:=by
      unfold mTold
      rw [show (mLs q++[up0])++errL (if true=true then 6 else 0) (3+16*q:Nat)=(mLs q++[up0])++[erA++N] from EL.out]
      unfold cutL
      rw [if_pos (by rw [hlm]; exact hbig)]
     rw [← F] at h9
     have hz5:(500:Int)≤(cap7:Int):=by omega
     have h5q:500≤m7:=by omega
     have Y9:=Lib.hid h9
     unfold manyA at hrun9
     have HR:=many_run (n:=q) (by omega) (by omega) true (sl_ob (show Sp.Ob w2.heap.size _ (mBs q true) W9 from by rw [EB]; exact h9.by_) (mBs_lt q true)) (by omega) ((HT.out.held B2.out).held h9.below)
     clear h9 hlm F
     go_wp2_with (first|(at_builtin; refine Lib.wpList_append_run _ rfl (.tmp 45) (.tmp 46) 24 24 rfl _ _ rfl rfl _ _ hrun9 ?_)|fail)
     refine HR.mono ?_
     rintro e w10 ⟨p10,n10,c10,rfl,hL,hb10⟩
     have hls:=Y9.out.ls.held hb10
     obtain ⟨px,cx,ex,-⟩:=Ol.form hL
     injection ex with ex1 ex2 ex3
     obtain ⟨py,cy,ey,-⟩:=Ol.form hls
     injection ey with ey1 ey2 ey3
     have hn10:n10=501:=ex2.trans ey2.symm
     subst hn10
     have HLs:=same_lines hL hls ey2.symm (by omega)
     have Z:=Lib.hid (next B2.out (Y9.out.held hb10).below)
     clear HR hL hls hb10 ex1 ex2 ex3 ey1 ey2 ey3
     go_wp2_with fail
     refine HLs.mono ?_
     rintro e w11 ⟨rfl,hb11⟩
     have Z2:=Lib.hid (next Z.out hb11)
     clear HLs hb11
     go_wp2_with fail
     go_ret
     exact ⟨rfl,Z2.out⟩
    ·have d5:decide ((500:Int)<(m7:Int))=false:=decide_eq_false (by omega)
     have F:mTold q true=(mLs q++[up0])++[erA++N]:=by
      have hlm:((mLs q++[up0])++[erA++N]).length=m7:=by
       obtain ⟨p',c',e1,-⟩:=Ol.form Y7.out.ls
       injection e1 with e1 e2 e3
       exact e2.symm
      unfold mTold
      rw [show (mLs q++[up0])++errL (if true=true then 6 else 0) (3+16*q:Nat)=(mLs q++[up0])++[erA++N] from EL.out]
      unfold cutL
      rw [if_neg (by rw [hlm]; exact hbig)]
     have h9:=Y7.out
     rw [← F] at h9
     have Y9:=Lib.hid h9
     have HR:=many_run (n:=q) (by omega) (by omega) true (sl_ob (show Sp.Ob w2.heap.size _ (mBs q true) _ from by rw [EB]; exact h9.by_) (mBs_lt q true)) (by omega) ((HT.out.held B2.out).held h9.below)
     clear h9 F
     go_wp2_with (first|fail)
     refine HR.mono ?_
     rintro e w10 ⟨p10,n10,c10,rfl,hL,hb10⟩
     have hls:=Y9.out.ls.held hb10
     obtain ⟨px,cx,ex,-⟩:=Ol.form hL
     injection ex with ex1 ex2 ex3
     obtain ⟨py,cy,ey,-⟩:=Ol.form hls
     injection ey with ey1 ey2 ey3
     obtain rfl:n10=m7:=ex2.trans ey2.symm
     have HLs:=same_lines hL hls ey2.symm (by omega)
     have Z:=Lib.hid (next B2.out (Y9.out.held hb10).below)
     clear HR hL hls hb10 ex1 ex2 ex3 ey1 ey2 ey3
     go_wp2_with fail
     refine HLs.mono ?_
     rintro e w11 ⟨rfl,hb11⟩
     have Z2:=Lib.hid (next Z.out hb11)
     clear HLs hb11
     go_wp2_with fail
     go_ret
     exact ⟨rfl,Z2.out⟩
end Go.Proofs.YthaefdlkpljojaaGreatDoor
