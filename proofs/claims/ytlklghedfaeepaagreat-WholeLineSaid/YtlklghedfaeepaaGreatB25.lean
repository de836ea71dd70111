import Derived.Test.YtlklghedfaeepaaGreatB19
import Derived.Test.YtlklghedfaeepaaGreatB20
set_option maxHeartbeats 8000000
set_option maxRecDepth 100000
namespace Go.Proofs.YtlklghedfaeepaaGreat
open _root_.Go.Proofs.Tryz (prog)
section
open Go.RowKit Go.Maps Rm Fm Sb
variable {M:Mr}{e:En}{r:Rt}
def Mr.Good (M:Mr):Prop:=∀ k r,M.f k=some r->r.fr=k.fr/\Am.right k.a k.n=true/\r.id≠0/\r.seq<=1073741824
def Mr.farN (M:Mr) (r:Rt):Nat:=(far r.met (cAt M.c r.fr)).toNat
theorem Mr.farN_eq (M:Mr) (r:Rt):far r.met (cAt M.c r.fr)=(M.farN r:Int):=by
 have:=ao2 (m:=r.met) (c:=cAt M.c r.fr) (by omega);unfold Mr.farN;omega
theorem Mr.farN_lt (M:Mr) (r:Rt):M.farN r<65536:=by
 have:=ao2 (m:=r.met) (c:=cAt M.c r.fr) (by omega);unfold Mr.farN;omega
def Mr.tell1 (M:Mr) (e:En):List T.Tm.Up×Mr:=
 if M.owns ⟨e.a,e.n⟩=true then (if M.seq=0 then [] else [⟨e.a,e.n,M.id,M.seq,0⟩],M)
 else match M.pick e.a e.n with
  |some r=>([⟨e.a,e.n,r.id,r.seq,M.farN r⟩],M.covered e.a e.n r.id r.seq (M.farN r))
  |none=>(if e.on=true then [⟨e.a,e.n,0,0,65535⟩] else [],M)
def Mr.need (M:Mr) (e:En):Nat:=if M.owns ⟨e.a,e.n⟩=true then 0 else if (M.pick e.a e.n).isSome=true then 1 else 0
theorem Mr.need_own (h:M.owns ⟨e.a,e.n⟩=true):M.need e=0:=by unfold Mr.need; rw [if_pos h]
theorem Mr.need_way (h:M.owns ⟨e.a,e.n⟩=false) (hp:M.pick e.a e.n=some r):M.need e=1:=by unfold Mr.need; rw [if_neg (by rw [h]; decide),hp]; rfl
theorem Mr.need_none (h:M.owns ⟨e.a,e.n⟩=false) (hp:M.pick e.a e.n=none):M.need e=0:=by unfold Mr.need; rw [if_neg (by rw [h]; decide),hp]; rfl
theorem Mr.need_le (M:Mr) (e:En):M.need e<=1:=by unfold Mr.need; (repeat' split)<;>omega
def Mr.needS (M:Mr):List En->Nat
 |[]=>0
 |e::r=>M.need e+(M.tell1 e).2.needS r
theorem Mr.needS_le (l:List En):∀ M:Mr,M.needS l<=l.length:=by
 induction l with
 |nil=>intro M; exact Nat.le_refl _
 |cons e r ih=>intro M; have h1:=M.need_le e; have h2:=ih (M.tell1 e).2; simp only [Mr.needS,List.length_cons]; omega
def Mr.tellS (M:Mr):List En->List T.Tm.Up×Mr
 |[]=>([],M)
 |e::r=>((M.tell1 e).1++((M.tell1 e).2.tellS r).1,((M.tell1 e).2.tellS r).2)
theorem Mr.tellS_snoc (M:Mr) (l:List En) (e:En):M.tellS (l++[e])=((M.tellS l).1++((M.tellS l).2.tell1 e).1,((M.tellS l).2.tell1 e).2):=by
 induction l generalizing M with
 |nil=>simp [Mr.tellS]
 |cons x r ih=>simp [Mr.tellS,ih,List.append_assoc]
theorem Mr.tell1_own (h:M.owns ⟨e.a,e.n⟩=true):M.tell1 e=(if M.seq=0 then [] else [⟨e.a,e.n,M.id,M.seq,0⟩],M):=by unfold Mr.tell1; rw [if_pos h]
theorem Mr.tell1_way (h:M.owns ⟨e.a,e.n⟩=false) (hp:M.pick e.a e.n=some r):M.tell1 e=([⟨e.a,e.n,r.id,r.seq,M.farN r⟩],M.covered e.a e.n r.id r.seq (M.farN r)):=by unfold Mr.tell1; rw [if_neg (by rw [h]; decide),hp]
theorem Mr.tell1_none (h:M.owns ⟨e.a,e.n⟩=false) (hp:M.pick e.a e.n=none):M.tell1 e=(if e.on=true then [⟨e.a,e.n,0,0,65535⟩] else [],M):=by unfold Mr.tell1; rw [if_neg (by rw [h]; decide),hp]
theorem Mr.covered_same (M:Mr) (a:Nat) (n:Int) (i s m:Nat):(M.covered a n i s m).id=M.id/\(M.covered a n i s m).f=M.f/\(M.covered a n i s m).c=M.c/\(M.covered a n i s m).now=M.now/\(M.covered a n i s m).seq=M.seq/\(M.covered a n i s m).since=M.since:=by unfold Mr.covered; split<;>exact ⟨rfl,rfl,rfl,rfl,rfl,rfl⟩
theorem Mr.tell1_f (M:Mr) (e:En):(M.tell1 e).2.f=M.f:=by
 unfold Mr.tell1;split
 ·rfl
 ·split
  ·exact (M.covered_same _ _ _ _ _).2.1
  ·rfl
theorem Mr.tellS_f (l:List En):∀ M:Mr,(M.tellS l).2.f=M.f:=by
 induction l with
 |nil=>intro M; rfl
 |cons e r ih=>intro M; show ((M.tell1 e).2.tellS r).2.f=M.f; rw [ih,Mr.tell1_f]
theorem Mr.Good.of_f {M':Mr} (h:M.Good) (e:M'.f=M.f):M'.Good:=fun k r hk=>h k r (by rw [<- e]; exact hk)
theorem Mr.tell1_len (M:Mr) (e:En):(M.tell1 e).1.length<=1:=by
 unfold Mr.tell1;split
 ·split<;>simp
 ·split
  ·simp
  ·split<;>simp
theorem Mr.tellS_len (l:List En):∀ M:Mr,(M.tellS l).1.length<=l.length:=by
 induction l with
 |nil=>intro M; simp [Mr.tellS]
 |cons e r ih=>
  intro M;have h1:=M.tell1_len e;have h2:=ih (M.tell1 e).2;simp only [Mr.tellS,List.length_append,List.length_cons];omega
theorem Mr.Good.right (h:M.Good) {a:Nat} {n:Int} {r:Rt} (hp:M.pick a n=some r):Rm.right ⟨4,0,0,r.id,a,n,false,r.seq,M.farN r⟩=true/\M.farN r≠65535:=by
 obtain ⟨k,hk,hf,hc,hfe,hfar⟩:=Mr.pick_some hp;obtain ⟨h0,h1,h2,h3⟩:=h _ _ hf;have h1':Am.right a n=true:=h1;have h0':r.fr=(k:Int):=h0;have hne:M.farN r≠65535:=fun e=>hfar (by
  have:=M.farN_eq r;rw [h0',e] at this;exact this)
 refine ⟨?_,hne⟩;rw [<- ai8];unfold right2;simp only [h1',Bool.not_true,Bool.false_or,Bool.or_eq_true,decide_eq_true_eq,beq_iff_eq];rw [if_neg (by omega),if_neg (by decide),if_neg (by decide),if_neg (by decide)];simp;omega
end
section
open Go.RowKit Go.Maps Rm Fm Sb
attribute [local go_sem] Oper.semAt_some
variable {w:World}{F:List Nat}{R s:Nat}
def Upd (M:Mr) (e:En) (x:T.Tm.Up) (ok:Bool):Prop:=(if ok=true then [x] else [])=(M.tell1 e).1
theorem ah1 {g:Nat} {t:TypeId} {v0 v1 v2 v3 v4:Value} (h:Blk t w g #[v0,v1,v2,v3,v4]) (a b c d e:Value):Blk t (((((w.setCell ⟨g,0,none⟩ a).setCell ⟨g,1,none⟩ b).setCell ⟨g,2,none⟩ c).setCell ⟨g,3,none⟩ d).setCell ⟨g,4,none⟩ e) g #[a,b,c,d,e]:=
 ((((h.store 0 a).store 1 b).store 2 c).store 3 d).store 4 e
theorem aj5 (w:World) (g:Nat) (a b c d e:Value):Turn [g] w (((((w.setCell ⟨g,0,none⟩ a).setCell ⟨g,1,none⟩ b).setCell ⟨g,2,none⟩ c).setCell ⟨g,3,none⟩ d).setCell ⟨g,4,none⟩ e):=
 ((((Turn.setCell _ (by simp) _).trans (Turn.setCell _ (by simp) _)).trans (Turn.setCell _ (by simp) _)).trans (Turn.setCell _ (by simp) _)).trans (Turn.setCell _ (by simp) _)
theorem Goes.put {v w1 w2:World} {r:Nat} {M':Mr} (hb:Below w.heap.size w v) (hF:∀ y,y∈F->y<w.heap.size) (k:Goes F v R r s M' w1) {L:List Nat} (t:Turn L w1 w2) (hL:∀ y,y∈L->w.heap.size<=y/\y<v.heap.size):Goes F w R r s M' w2:=by
 obtain ⟨F2,h2,t2,n2⟩:=k;refine ⟨F2,h2.turn t (fun x hx hm=>?_),((Turn.of_below F hb).beyond t2 (fun _ h=> .inl h)).beyond t (fun y hy=> .inr (hL y hy).1),fun y hy=>?_⟩
 ·have:=hL x hm
  rcases n2 x hx with h|h
  ·have:=hF x h; omega
  ·omega
 ·rcases n2 y hy with h|h
  ·exact .inl h
  ·exact .inr (Nat.le_trans hb.size h)
theorem dc4 {q:Bool} (h:((s:Int) !=0)=q):q=false↔s=0:=by
 rw [<- h];simp
theorem cd9 {room sp:Nat} {M:Mr} {a:Nat} {n:Int} {on:Bool} (h:Rz F w R (room+M.need ⟨a,n,on⟩) sp M) (hG:M.Good) (hp:Pk.ok ⟨a,n⟩):
  Calls prog 110 #[.pointer (some ⟨R,0,none⟩),.agg #[.int .u32 a,.int .i64 n,.bool on]] w fun e w'=>∃ x ok,e= .returned (.tuple #[.agg #[.int .u32 x.a,.int .i64 x.len,.int .u32 x.id,.int .u32 x.seq,.int .u16 x.met],.bool ok])/\Upd M ⟨a,n,on⟩ x ok/\Goes F w R room sp (M.tell1 ⟨a,n,on⟩).2 w':=by
 have hb:=next (aa0 w (.cells #[.int .u32 a,.int .i64 n,.bool on] 158)) (aa0 _ (.cells #[.int .u32 0,.int .i64 0,.int .u32 0,.int .u32 0,.int .u16 0] 61));have SB:=(Blk.new w 158 #[.int .u32 a,.int .i64 n,.bool on]).more (.cells #[.int .u32 0,.int .i64 0,.int .u32 0,.int .u32 0,.int .u16 0] 61);have UB:=Blk.new (w.alloc (.cells #[.int .u32 a,.int .i64 n,.bool on] 158)) 61 #[.int .u32 0,.int .i64 0,.int .u32 0,.int .u32 0,.int .u16 0];rw [aa1] at UB;have h1:=h.held hb;go_enter Tryz.func110,Tryz.ntmps110;go_upto_region 1 with fail;generalize (w.alloc (.cells #[.int .u32 a,.int .i64 n,.bool on] 158)).alloc (.cells #[.int .u32 0,.int .i64 0,.int .u32 0,.int .u32 0,.int .u16 0] 61)=W at*;obtain ⟨q,hq⟩:∃ q,M.owns ⟨a,n⟩=q:=⟨_,rfl⟩;obtain ⟨o,fl,tb,j,N,nn,hR⟩:=h1.rr;have HO:=ba7 hR hp;rw [hq] at HO;have s0:W.cell? ⟨w.heap.size,0,none⟩=some (.int .u32 a):=SB.at_ 0;have s1:W.cell? ⟨w.heap.size,1,none⟩=some (.int .i64 n):=SB.at_ 1;have hle0:=hb.size;have hRw:R<w.heap.size:=by
  obtain ⟨o,fl,tb,j,N,nn,hR0⟩:=h.rr;exact hR0.head.lt
 have hFw:∀ y,y∈F->y<w.heap.size:=fun y hy=>h.lt hy
 have HFw:=Lib.hid hFw;have hbw1:w.heap.size+1<W.heap.size:=UB.lt;clear hFw;have X:=H8 h hb SB UB h1 hq hG hp;clear h hb SB UB h1 hq hG hp hR;generalize hbw:w.heap.size=b at*;have HBW:=Lib.hid hbw;clear hbw
 cases q with
 |true=>
  go_upto_region 2 with (go_at_call 33; refine HO.mono ?_; rintro e w2 ⟨rfl,hb2⟩);have SB2:=X.out.2.2.1.held hb2;have UB2:=X.out.2.2.2.1.held hb2;have hz2:=X.out.2.2.2.2.1.held hb2;have hbz:=X.out.2.1.trans (hb2.mono hle0);have hbl:b+1<w2.heap.size:=UB2.lt;clear HO s0 s1 hb2;obtain ⟨o2,fl2,tb2,j2,N2,nn2,hR2⟩:=(hz2.held (Below.refl _ _).drew).rr;have hSt:∀ W',Below w2.drew.heap.size w2.drew W'->Calls prog 16 #[.pointer (some ⟨R,0,none⟩)] W' fun e w'=>e= .returned (.pointer (some ⟨R,0,none⟩))/\Below W'.heap.size W' w':=fun W' hb'=>ac4 (hR2.held hb')
  have hId:∀ W',Below w2.drew.heap.size w2.drew W'->Calls prog 135 #[.pointer (some ⟨R,0,none⟩)] W' fun e w'=>e= .returned (.int .u32 M.id)/\Below W'.heap.size W' w':=fun W' hb'=>by
   obtain ⟨cn,cm,hnm,hS⟩:=(hR2.held hb').nt;exact (ci8 hS).mono fun e w' ⟨h1,h2⟩=>⟨h1,h2 ▸ .refl _ _⟩
  have B0:Below w2.drew.heap.size w2.drew w2.drew:=Below.refl _ _;replace SB2:=SB2.drew;replace UB2:=UB2.drew;replace hz2:=hz2.held (Below.refl _ _).drew;replace hbz:=hbz.drew;replace hbl:b+1<w2.drew.heap.size:=hbl;have t0:w2.drew.cell? ⟨b,0,none⟩=some (.int .u32 a):=SB2.at_ 0;have t1:w2.drew.cell? ⟨b,1,none⟩=some (.int .i64 n):=SB2.at_ 1;have t2:w2.drew.cell? ⟨R,20,none⟩=some (.int .u32 M.seq):=hR2.head.at_ 20;have Y:=H7 SB2 UB2 hz2 hbz hSt hId B0;clear SB2 UB2 hz2 hbz hSt hId B0 hR2;refine wp_region_held_drew (S:=fun u=>u.cell? ⟨b,0,none⟩=some (.int .u32 a)/\u.cell? ⟨b,1,none⟩=some (.int .i64 n)/\u.cell? ⟨R,20,none⟩=some (.int .u32 M.seq)) (by kernel_rfl) ⟨t0,t1,t2⟩ (fun hHeld=>?_);generalize w2.drew=v2 at*;refine tk 0 (.pointer (some ⟨b,0,none⟩)) rfl hHeld ?_;go_frame;refine tk 1 (.agg #[.int .u32 a,.int .i64 n]) rfl hHeld ?_;go_frame;refine tk 2 (.pointer (some ⟨R,0,none⟩)) rfl hHeld ?_;go_frame;refine tk 5 (.pointer (some ⟨R,0,none⟩)) rfl hHeld ?_;go_frame;refine tk 6 (.pointer (some ⟨R,0,none⟩)) rfl hHeld ?_;go_frame;refine tk 7 (.pointer (some ⟨R,20,none⟩)) rfl hHeld ?_;go_frame;refine tk 8 (.int .u32 M.seq) rfl hHeld ?_;go_frame;refine tk 9 (.agg #[.int .u32 M.seq,.int .u16 0]) rfl hHeld ?_;go_frame;refine ad8 (i:=3) (i':=11) rfl rfl (by kernel_rfl) (fun K hK=>?br1) (fun K hK=>?br2)
  case' br1=>
   go_simp;refine (Y.out.2.2.2.2.1 _ Y.out.2.2.2.2.2.2).mono ?_;rintro e w3 ⟨rfl,hb3⟩;have B3:=Y.out.2.2.2.2.2.2.trans (hb3.mono Y.out.2.2.2.2.2.2.size);have e0:=held hb3 t0;have e1:=held hb3 t1;have e2:=held hb3 t2;refine hK.out _ _ ⟨e0,e1,e2⟩ (fun hHeld=>?_);clear hK K hb3 t0 t1 t2;have HB3:=Lib.hid B3;clear B3;refine ad8 (i:=4) (i':=11) rfl rfl (by kernel_rfl) (fun K hK=>?br3) (fun K hK=>?br4)
   case' br3=>
    go_simp;refine (Y.out.2.2.2.2.2.1 _ HB3.out).mono ?_;rintro e w4 ⟨rfl,hb4⟩;refine hK.out _ _ ⟨held hb4 e0,held hb4 e1,held hb4 e2⟩ (fun hHeld=>?_);clear hK K;refine tk 10 (.agg #[.int .u32 a,.int .i64 n,.int .u32 M.id,.int .u32 M.seq,.int .u16 0]) rfl hHeld ?_;go_frame;refine rl 11 rfl fun K hK=>?_
    go_simp;have hb7:=next hb4 (aa0 w4 (.cells #[.int .u32 0,.int .i64 0,.int .u32 0,.int .u32 0,.int .u16 0] 61));refine hK.out _ _ ⟨held hb7 e0,held hb7 e1,held hb7 e2⟩ (fun hHeld=>?_);clear hK K;have BZ:=Blk.new w4 61 #[.int .u32 0,.int .i64 0,.int .u32 0,.int .u32 0,.int .u16 0];have hg7:v2.heap.size<=w4.heap.size:=Nat.le_trans HB3.out.size hb4.size;have B7:=HB3.out.trans (hb7.mono HB3.out.size);have c0:=held hb7 e0;have c1:=held hb7 e1;have c2:=held hb7 e2;generalize w4.alloc _=w7 at*;generalize w4.heap.size=g7 at*;clear hb4 hb7 e0 e1 e2 HB3
   case' br4=>
    go_simp;have hbn:=aa0 w3 (.cells #[.int .u32 0,.int .i64 0,.int .u32 0,.int .u32 0,.int .u16 0] 61);refine hK.out _ _ ⟨held hbn e0,held hbn e1,held hbn e2⟩ (fun hHeld=>?_);clear hK K;refine rl 4 rfl fun K hK=>?_
    go_simp;have B4:=HB3.out.trans (hbn.mono HB3.out.size);refine (Y.out.2.2.2.2.2.1 _ B4).mono ?_;rintro e w7 ⟨rfl,hb4⟩;have hb7:=next hbn hb4;refine hK.out _ _ ⟨held hb7 e0,held hb7 e1,held hb7 e2⟩ (fun hHeld=>?_);clear hK K;have BZ:=(Blk.new w3 61 #[.int .u32 0,.int .i64 0,.int .u32 0,.int .u32 0,.int .u16 0]).held hb4;have hg7:v2.heap.size<=w3.heap.size:=HB3.out.size;have B7:=HB3.out.trans (hb7.mono HB3.out.size);have c0:=held hb7 e0;have c1:=held hb7 e1;have c2:=held hb7 e2;clear hb4 hb7 hbn B4 e0 e1 e2 HB3;generalize w3.heap.size=g7 at*;refine tk 10 (.agg #[.int .u32 a,.int .i64 n,.int .u32 M.id,.int .u32 M.seq,.int .u16 0]) rfl hHeld ?_;go_frame
  case' br2=>
   go_simp;have hbn:=aa0 v2 (.cells #[.int .u32 0,.int .i64 0,.int .u32 0,.int .u32 0,.int .u16 0] 61);have e0:=held hbn t0;have e1:=held hbn t1;have e2:=held hbn t2;refine hK.out _ _ ⟨e0,e1,e2⟩ (fun hHeld=>?_);clear hK K t0 t1 t2;refine rl 3 rfl fun K hK=>?_
   go_simp;have B3:=Y.out.2.2.2.2.2.2.trans (hbn.mono Y.out.2.2.2.2.2.2.size);refine (Y.out.2.2.2.2.1 _ B3).mono ?_;rintro e w4 ⟨rfl,hb4⟩;refine hK.out _ _ ⟨held hb4 e0,held hb4 e1,held hb4 e2⟩ (fun hHeld=>?_);clear hK K;refine rl 4 rfl fun K hK=>?_
   go_simp;have B4:=B3.trans (hb4.mono B3.size);refine (Y.out.2.2.2.2.2.1 _ B4).mono ?_;rintro e w7 ⟨rfl,hb5⟩;have hb7:=next hb4 hb5;refine hK.out _ _ ⟨held hb7 e0,held hb7 e1,held hb7 e2⟩ (fun hHeld=>?_);clear hK K;have BZ:=(Blk.new v2 61 #[.int .u32 0,.int .i64 0,.int .u32 0,.int .u32 0,.int .u16 0]).held hb7;have hg7:v2.heap.size<=v2.heap.size:=Nat.le_refl _;have B7:=B3.trans (hb7.mono B3.size);have c0:=held hb7 e0;have c1:=held hb7 e1;have c2:=held hb7 e2;clear hb4 hb5 hb7 hbn B3 B4 e0 e1 e2;obtain ⟨g7,hqe⟩:∃ g7,v2.heap.size=g7:=⟨_,rfl⟩;rw [hqe] at BZ;rw [hqe];replace hg7:v2.heap.size<=g7:=by omega
   clear hqe;refine tk 10 (.agg #[.int .u32 a,.int .i64 n,.int .u32 M.id,.int .u32 M.seq,.int .u16 0]) rfl hHeld ?_;go_frame
  all_goals
   have z0:=BZ.at_ 0;have z1:=BZ.at_ 1;have z2:=BZ.at_ 2;have z3:=BZ.at_ 3;have z4:=BZ.at_ 4;have y0:=BZ.free 0;have y1:=BZ.free 1;have y2:=BZ.free 2;have y3:=BZ.free 3;have y4:=BZ.free 4;refine rl 12 rfl fun K hK=>?_
   go_simp;have T8:=aj5 w7 g7 (.int .u32 a) (.int .i64 n) (.int .u32 M.id) (.int .u32 M.seq) (.int .u16 0);have d0:=T8.cell c0 (by simp; omega);have d1:=T8.cell c1 (by simp; omega);have d2:=T8.cell c2 (by simp; omega);refine hK.out _ _ ⟨d0,d1,d2⟩ (fun hHeld=>?_);have B8:=B7.trans (T8.below (B:=v2.heap.size) (fun i hi=>by simp at hi; omega) B7.size);have D8:=ah1 BZ (.int .u32 a) (.int .i64 n) (.int .u32 M.id) (.int .u32 M.seq) (.int .u16 0);clear hK K z0 z1 z2 z3 z4 y0 y1 y2 y3 y4 c0 c1 c2 BZ d0 d1 d2 B7 T8;generalize ((((w7.setCell ⟨g7,0,none⟩ (.int .u32 a)).setCell ⟨g7,1,none⟩ (.int .i64 n)).setCell ⟨g7,2,none⟩ (.int .u32 M.id)).setCell ⟨g7,3,none⟩ (.int .u32 M.seq)).setCell ⟨g7,4,none⟩ (.int .u16 0)=w8 at*;refine wpAnyH_done (by kernel_rfl) ?_ _;try go_frame
   have hz8:=Y.out.2.2.1.held B8;have UB8:=(Y.out.2.1.held B8).drew;have bz8:=Y.out.2.2.2.1.trans (B8.mono (by omega));obtain ⟨o8,fl8,tb8,j8,N8,nn8,hR8⟩:=hz8.rr;obtain ⟨q0,hq0⟩:∃ q,((M.seq:Int) !=0)=q:=⟨_,rfl⟩;have k0:w8.drew.cell? ⟨g7,0,none⟩=some (.int .u32 a):=D8.at_ 0;have k1:w8.drew.cell? ⟨g7,1,none⟩=some (.int .i64 n):=D8.at_ 1;have k2:w8.drew.cell? ⟨g7,2,none⟩=some (.int .u32 M.id):=D8.at_ 2;have k3:w8.drew.cell? ⟨g7,3,none⟩=some (.int .u32 M.seq):=D8.at_ 3;have k4:w8.drew.cell? ⟨g7,4,none⟩=some (.int .u16 0):=D8.at_ 4;have k5:w8.drew.cell? ⟨R,20,none⟩=some (.int .u32 M.seq):=hR8.head.at_ 20;replace bz8:=bz8.drew;have Z:=H3 UB8 bz8 D8.drew;clear hz8 UB8 bz8 hR8 B8 D8;go_upto_region 3 with fail;refine wp_region_held_drew (S:=fun u=>u.cell? ⟨g7,0,none⟩=some (.int .u32 a)/\u.cell? ⟨g7,1,none⟩=some (.int .i64 n)/\u.cell? ⟨g7,2,none⟩=some (.int .u32 M.id)/\u.cell? ⟨g7,3,none⟩=some (.int .u32 M.seq)/\u.cell? ⟨g7,4,none⟩=some (.int .u16 0)/\u.cell? ⟨R,20,none⟩=some (.int .u32 M.seq)) (by kernel_rfl) ⟨k0,k1,k2,k3,k4,k5⟩ (fun hHeld=>?_);generalize w8.drew=v8 at*;refine tk 0 (.agg #[.int .u32 a,.int .i64 n,.int .u32 M.id,.int .u32 M.seq,.int .u16 0]) rfl hHeld ?_;go_frame;refine tk 1 (.pointer (some ⟨R,0,none⟩)) rfl hHeld ?_;go_frame;refine tk 2 (.pointer (some ⟨R,0,none⟩)) rfl hHeld ?_;go_frame;refine tk 3 (.pointer (some ⟨R,20,none⟩)) rfl hHeld ?_;go_frame;refine tk 4 (.int .u32 M.seq) rfl hHeld ?_;go_frame;refine tk 5 (.bool q0) rfl hHeld ?_;go_frame;have z0:=Z.out.1.at_ 0;have z1:=Z.out.1.at_ 1;have z2:=Z.out.1.at_ 2;have z3:=Z.out.1.at_ 3;have z4:=Z.out.1.at_ 4;have y0:=Z.out.1.free 0;have y1:=Z.out.1.free 1;have y2:=Z.out.1.free 2;have y3:=Z.out.1.free 3;have y4:=Z.out.1.free 4;refine rl 6 rfl fun K hK=>?_
   go_simp;have T9:=aj5 v8 (b+1) (.int .u32 a) (.int .i64 n) (.int .u32 M.id) (.int .u32 M.seq) (.int .u16 0);have m0:=T9.cell k0 (by simp; omega);have m1:=T9.cell k1 (by simp; omega);have m2:=T9.cell k2 (by simp; omega);have m3:=T9.cell k3 (by simp; omega);have m4:=T9.cell k4 (by simp; omega);have m5:=T9.cell k5 (by simp; omega);refine hK.out _ _ ⟨m0,m1,m2,m3,m4,m5⟩ (fun hHeld=>?_);have D9:=ah1 Z.out.1 (.int .u32 a) (.int .i64 n) (.int .u32 M.id) (.int .u32 M.seq) (.int .u16 0);have b9:=Z.out.2.1.trans (T9.below (B:=b) (fun i hi=>by simp at hi; omega) (Nat.le_trans (by omega) Z.out.1.lt));clear hK K z0 z1 z2 z3 z4 y0 y1 y2 y3 y4 k0 k1 k2 k3 k4 k5 T9;generalize ((((v8.setCell ⟨b+1,0,none⟩ (.int .u32 a)).setCell ⟨b+1,1,none⟩ (.int .i64 n)).setCell ⟨b+1,2,none⟩ (.int .u32 M.id)).setCell ⟨b+1,3,none⟩ (.int .u32 M.seq)).setCell ⟨b+1,4,none⟩ (.int .u16 0)=w9 at*;refine rl 7 rfl fun K hK=>?_
   go_simp;refine hK.out _ _ ⟨m0,m1,m2,m3,m4,m5⟩ (fun hHeld=>?_);clear hK K m0 m1 m2 m3 m4 m5;refine wpAnyH_done (by kernel_rfl) ?_ _;try go_frame
   have q1:=D9.at_ 0;have q2:=D9.at_ 1;have q3:=D9.at_ 2;have q4:=D9.at_ 3;have q5:=D9.at_ 4;clear hHeld;go_wp2_with fail;have hz0:Rz F w R room sp M:=by have:=X.out.1; rw [Mr.need_own X.out.2.2.2.2.2.1] at this; exact this
   refine bodyPost_ret (v:= .tuple #[.agg #[.int .u32 a,.int .i64 n,.int .u32 M.id,.int .u32 M.seq,.int .u16 0],.bool q0]) ?_ rfl ⟨⟨a,n,M.id,M.seq,0⟩,q0,rfl,?_,?_⟩
   ·simp [results,Tryz.results110,go_sem,q1,q2,q3,q4,q5]
   ·unfold Upd
    rw [Mr.tell1_own X.out.2.2.2.2.2.1];have e0:=dc4 hq0
    cases q0 with
    |true=>rw [if_pos rfl,if_neg (fun e=>by have:=e0.2 e; cases this)]
    |false=>rw [if_neg (by decide),if_pos (e0.1 rfl)]
   ·rw [Mr.tell1_own X.out.2.2.2.2.2.1]
    refine Goes.stay hz0 ?_;rw [HBW.out];exact b9
 |false=>
  go_upto_region 4 with (go_at_call 33; refine HO.mono ?_; rintro e w2 ⟨rfl,hb2⟩);have SB2:=X.out.2.2.1.held hb2;have UB2:=X.out.2.2.2.1.held hb2;have hz2:=X.out.2.2.2.2.1.held hb2;have hbz:=X.out.2.1.trans (hb2.mono hle0);obtain ⟨o2,fl2,tb2,j2,N2,nn2,hR2⟩:=hz2.rr;obtain ⟨⟨fr,id,sq,mt,ex⟩,hr⟩:∃ r,(M.pick a n).getD Rt.zero=r:=⟨_,rfl⟩;obtain ⟨ok,hok⟩:∃ ok,(M.pick a n).isSome=ok:=⟨_,rfl⟩;have HW:=ce6 hR2 X.out.2.2.2.2.2.2.2 hr hok;have hfi:=Mr.pick_fits X.out.1.fits hr;have t0:w2.cell? ⟨b,0,none⟩=some (.int .u32 a):=SB2.at_ 0;have t1:w2.cell? ⟨b,1,none⟩=some (.int .i64 n):=SB2.at_ 1;have hbl:b+1<w2.heap.size:=UB2.lt;have Y:=H7 SB2 UB2 hz2 hbz hr hok hfi;clear HO s0 s1 hb2 SB2 UB2 hz2 hbz hr hok hfi hR2;go_upto_region 5 with (go_at_call 34; refine HW.mono ?_; rintro e w3 ⟨rfl,hb3⟩);have hb4:=next hb3 (aa0 w3 (.cells #[.int .i64 fr,.int .u32 id,.int .u32 sq,.int .u16 mt,.int .i64 ex] 88));have RB:=Blk.new w3 88 #[.int .i64 fr,.int .u32 id,.int .u32 sq,.int .u16 mt,.int .i64 ex];have hg4:w2.heap.size<=w3.heap.size:=hb3.size;clear HW t0 t1 hb3;generalize w3.alloc _=w4 at*;generalize w3.heap.size=g4 at*;have SB4:=Y.out.1.held hb4;have UB4:=Y.out.2.1.held hb4;have hz4:=Y.out.2.2.1.held hb4;have bz4:=Y.out.2.2.2.1.trans (hb4.mono (by omega));have hbl4:b+1<w4.heap.size:=UB4.lt
  cases ok with
  |false=>
   go_upto_region 6 with fail;have hpn:M.pick a n=none:=Option.not_isSome_iff_eq_none.1 (by rw [Y.out.2.2.2.2.2.1]; decide);have k0:w4.drew.cell? ⟨b,0,none⟩=some (.int .u32 a):=SB4.at_ 0;have k1:w4.drew.cell? ⟨b,1,none⟩=some (.int .i64 n):=SB4.at_ 1;have k2:w4.drew.cell? ⟨b,2,none⟩=some (.bool on):=SB4.at_ 2;have UBd:=UB4.drew;replace bz4:=bz4.drew;have Z:=H3 UBd bz4 hpn;clear SB4 UB4 UBd hz4 bz4 hb4 RB hpn;refine wp_region_held_drew (S:=fun u=>u.cell? ⟨b,0,none⟩=some (.int .u32 a)/\u.cell? ⟨b,1,none⟩=some (.int .i64 n)/\u.cell? ⟨b,2,none⟩=some (.bool on)) (by kernel_rfl) ⟨k0,k1,k2⟩ (fun hHeld=>?_);generalize w4.drew=v4 at*;refine tk 0 (.pointer (some ⟨b,0,none⟩)) rfl hHeld ?_;go_frame;refine tk 1 (.agg #[.int .u32 a,.int .i64 n]) rfl hHeld ?_;go_frame;refine tk 2 (.agg #[.int .u32 0,.int .u16 65535]) rfl hHeld ?_;go_frame;refine tk 3 (.agg #[.int .u32 a,.int .i64 n,.int .u32 0,.int .u32 0,.int .u16 65535]) rfl hHeld ?_;go_frame;refine tk 4 (.pointer (some ⟨b,2,none⟩)) rfl hHeld ?_;go_frame;refine tk 5 (.bool on) rfl hHeld ?_;go_frame;have z0:=Z.out.1.at_ 0;have z1:=Z.out.1.at_ 1;have z2:=Z.out.1.at_ 2;have z3:=Z.out.1.at_ 3;have z4:=Z.out.1.at_ 4;have y0:=Z.out.1.free 0;have y1:=Z.out.1.free 1;have y2:=Z.out.1.free 2;have y3:=Z.out.1.free 3;have y4:=Z.out.1.free 4;refine rl 6 rfl fun K hK=>?_
   go_simp;have T9:=aj5 v4 (b+1) (.int .u32 a) (.int .i64 n) (.int .u32 0) (.int .u32 0) (.int .u16 65535);have m0:=T9.cell k0 (by simp);have m1:=T9.cell k1 (by simp);have m2:=T9.cell k2 (by simp);refine hK.out _ _ ⟨m0,m1,m2⟩ (fun hHeld=>?_);have D9:=ah1 Z.out.1 (.int .u32 a) (.int .i64 n) (.int .u32 0) (.int .u32 0) (.int .u16 65535);have b9:=Z.out.2.1.trans (T9.below (B:=b) (fun i hi=>by simp at hi; omega) (Nat.le_trans (by omega) Z.out.1.lt));clear hK K z0 z1 z2 z3 z4 y0 y1 y2 y3 y4 k0 k1 k2 T9;generalize ((((v4.setCell ⟨b+1,0,none⟩ (.int .u32 a)).setCell ⟨b+1,1,none⟩ (.int .i64 n)).setCell ⟨b+1,2,none⟩ (.int .u32 0)).setCell ⟨b+1,3,none⟩ (.int .u32 0)).setCell ⟨b+1,4,none⟩ (.int .u16 65535)=w9 at*;refine rl 7 rfl fun K hK=>?_
   go_simp;refine hK.out _ _ ⟨m0,m1,m2⟩ (fun hHeld=>?_);clear hK K m0 m1 m2;refine wpAnyH_done (by kernel_rfl) ?_ _;try go_frame
   have q1:=D9.at_ 0;have q2:=D9.at_ 1;have q3:=D9.at_ 2;have q4:=D9.at_ 3;have q5:=D9.at_ 4;clear hHeld;go_wp2_with fail;have hz0:Rz F w R room sp M:=by have:=X.out.1; rw [Mr.need_none X.out.2.2.2.2.2.1 Z.out.2.2] at this; exact this
   refine bodyPost_ret (v:= .tuple #[.agg #[.int .u32 a,.int .i64 n,.int .u32 0,.int .u32 0,.int .u16 65535],.bool on]) ?_ rfl ⟨⟨a,n,0,0,65535⟩,on,rfl,?_,?_⟩
   ·simp [results,Tryz.results110,go_sem,q1,q2,q3,q4,q5]
   ·unfold Upd
    rw [Mr.tell1_none X.out.2.2.2.2.2.1 Z.out.2.2]
   ·rw [Mr.tell1_none X.out.2.2.2.2.2.1 Z.out.2.2]
    refine Goes.stay hz0 ?_;rw [HBW.out];exact b9
  |true=>
   go_upto_region 7 with fail;have hpk:M.pick a n=some ⟨fr,id,sq,mt,ex⟩:=by
    have h1:=Y.out.2.2.2.2.1;obtain ⟨r,h2⟩:=Option.isSome_iff_exists.1 Y.out.2.2.2.2.2.1;rw [h2] at h1 ⊢;exact congrArg some h1
   have hgr:=X.out.2.2.2.2.2.2.1.right hpk;have hfar:=M.farN_eq ⟨fr,id,sq,mt,ex⟩;have hflt:=M.farN_lt ⟨fr,id,sq,mt,ex⟩;obtain ⟨fm,hfm⟩:∃ fm,M.farN ⟨fr,id,sq,mt,ex⟩=fm:=⟨_,rfl⟩;dsimp only at hgr hfar;rw [hfm] at hgr hfar hflt;replace hz4:=hz4.held (Below.refl _ _).drew;obtain ⟨o4,fl4,tb4,j4,N4,nn4,hR4⟩:=hz4.rr;have hRe:∀ W',Below w4.drew.heap.size w4.drew W'->Calls prog 35 #[.pointer (some ⟨R,0,none⟩),.agg #[.int .i64 fr,.int .u32 id,.int .u32 sq,.int .u16 mt,.int .i64 ex]] W' fun e w'=>e= .returned (.agg #[.int .u32 sq,.int .u16 fm])/\Below W'.heap.size W' w':=fun W' hb'=>by
    have:=bq5 (hR4.held hb') (fr:=fr) (exp:=ex) (id:=id) (seq:=sq) (met:=mt) Y.out.2.2.2.2.2.2.met;rw [hfar] at this;exact this
   have B0:Below w4.drew.heap.size w4.drew w4.drew:=Below.refl _ _;replace UB4:=UB4.drew;replace bz4:=bz4.drew;replace hbl4:b+1<w4.drew.heap.size:=hbl4;have k0:w4.drew.cell? ⟨b,0,none⟩=some (.int .u32 a):=SB4.at_ 0;have k1:w4.drew.cell? ⟨b,1,none⟩=some (.int .i64 n):=SB4.at_ 1;have r0:w4.drew.cell? ⟨g4,0,none⟩=some (.int .i64 fr):=RB.at_ 0;have r1:w4.drew.cell? ⟨g4,1,none⟩=some (.int .u32 id):=RB.at_ 1;have r2:w4.drew.cell? ⟨g4,2,none⟩=some (.int .u32 sq):=RB.at_ 2;have r3:w4.drew.cell? ⟨g4,3,none⟩=some (.int .u16 mt):=RB.at_ 3;have r4:w4.drew.cell? ⟨g4,4,none⟩=some (.int .i64 ex):=RB.at_ 4;have hg4l:g4<w4.drew.heap.size:=RB.lt;have Z:=H9 UB4 bz4 hz4 hpk hgr hfm hRe B0 hflt;clear SB4 UB4 hz4 bz4 hb4 RB hpk hgr hfm hRe B0 hR4 hfar hflt;refine wp_region_held_drew (S:=fun u=>u.cell? ⟨b,0,none⟩=some (.int .u32 a)/\u.cell? ⟨b,1,none⟩=some (.int .i64 n)/\u.cell? ⟨g4,0,none⟩=some (.int .i64 fr)/\u.cell? ⟨g4,1,none⟩=some (.int .u32 id)/\u.cell? ⟨g4,2,none⟩=some (.int .u32 sq)/\u.cell? ⟨g4,3,none⟩=some (.int .u16 mt)/\u.cell? ⟨g4,4,none⟩=some (.int .i64 ex)) (by kernel_rfl) ⟨k0,k1,r0,r1,r2,r3,r4⟩ (fun hHeld=>?_);generalize w4.drew=v4 at*;refine tk 0 (.pointer (some ⟨b,0,none⟩)) rfl hHeld ?_;go_frame;refine tk 1 (.agg #[.int .u32 a,.int .i64 n]) rfl hHeld ?_;go_frame;refine tk 2 (.pointer (some ⟨g4,1,none⟩)) rfl hHeld ?_;go_frame;refine tk 3 (.int .u32 id) rfl hHeld ?_;go_frame;refine tk 4 (.pointer (some ⟨R,0,none⟩)) rfl hHeld ?_;go_frame;refine tk 5 (.agg #[.int .i64 fr,.int .u32 id,.int .u32 sq,.int .u16 mt,.int .i64 ex]) rfl hHeld ?_;go_frame;refine ad8 (i:=6) (i':=8) rfl rfl (by kernel_rfl) (fun K hK=>?br5) (fun K hK=>?br6)
   case' br5=>
    go_simp;refine (Z.out.2.2.2.2.2.2.1 _ Z.out.2.2.2.2.2.2.2.1).mono ?_;rintro e w5 ⟨rfl,hb5⟩;refine hK.out _ _ ⟨held hb5 k0,held hb5 k1,held hb5 r0,held hb5 r1,held hb5 r2,held hb5 r3,held hb5 r4⟩ (fun hHeld=>?_);clear hK K;refine tk 7 (.agg #[.int .u32 a,.int .i64 n,.int .u32 id,.int .u32 sq,.int .u16 fm]) rfl hHeld ?_;go_frame;refine rl 8 rfl fun K hK=>?_
    go_simp;have hb7:=next hb5 (aa0 w5 (.cells #[.int .u32 0,.int .i64 0,.int .u32 0,.int .u32 0,.int .u16 0] 61));have c0:=held hb7 k0;have c1:=held hb7 k1;have c2:=held hb7 r0;have c3:=held hb7 r1;have c4:=held hb7 r2;have c5:=held hb7 r3;have c6:=held hb7 r4;refine hK.out _ _ ⟨c0,c1,c2,c3,c4,c5,c6⟩ (fun hHeld=>?_);clear hK K;have BZ:=Blk.new w5 61 #[.int .u32 0,.int .i64 0,.int .u32 0,.int .u32 0,.int .u16 0];have hg7:v4.heap.size<=w5.heap.size:=hb5.size;have B7:=Z.out.2.2.2.2.2.2.2.1.trans (hb7.mono Z.out.2.2.2.2.2.2.2.1.size);generalize w5.alloc _=w7 at*;generalize w5.heap.size=g7 at*;clear hb5 hb7 k0 k1 r0 r1 r2 r3 r4
   case' br6=>
    go_simp;have hbn:=aa0 v4 (.cells #[.int .u32 0,.int .i64 0,.int .u32 0,.int .u32 0,.int .u16 0] 61);refine hK.out _ _ ⟨held hbn k0,held hbn k1,held hbn r0,held hbn r1,held hbn r2,held hbn r3,held hbn r4⟩ (fun hHeld=>?_);clear hK K;refine rl 6 rfl fun K hK=>?_
    go_simp;have B3:=Z.out.2.2.2.2.2.2.2.1.trans (hbn.mono Z.out.2.2.2.2.2.2.2.1.size);refine (Z.out.2.2.2.2.2.2.1 _ B3).mono ?_;rintro e w7 ⟨rfl,hb5⟩;have hb7:=next hbn hb5;have c0:=held hb7 k0;have c1:=held hb7 k1;have c2:=held hb7 r0;have c3:=held hb7 r1;have c4:=held hb7 r2;have c5:=held hb7 r3;have c6:=held hb7 r4;refine hK.out _ _ ⟨c0,c1,c2,c3,c4,c5,c6⟩ (fun hHeld=>?_);clear hK K;have BZ:=(Blk.new v4 61 #[.int .u32 0,.int .i64 0,.int .u32 0,.int .u32 0,.int .u16 0]).held hb5;have hg7:v4.heap.size<=v4.heap.size:=Nat.le_refl _;have B7:=Z.out.2.2.2.2.2.2.2.1.trans (hb7.mono Z.out.2.2.2.2.2.2.2.1.size);clear hb5 hb7 hbn B3 k0 k1 r0 r1 r2 r3 r4;obtain ⟨g7,hqe⟩:∃ g7,v4.heap.size=g7:=⟨_,rfl⟩;rw [hqe] at BZ;rw [hqe];replace hg7:v4.heap.size<=g7:=by omega
    clear hqe;refine tk 7 (.agg #[.int .u32 a,.int .i64 n,.int .u32 id,.int .u32 sq,.int .u16 fm]) rfl hHeld ?_;go_frame
   all_goals
    have z0:=BZ.at_ 0;have z1:=BZ.at_ 1;have z2:=BZ.at_ 2;have z3:=BZ.at_ 3;have z4:=BZ.at_ 4;have y0:=BZ.free 0;have y1:=BZ.free 1;have y2:=BZ.free 2;have y3:=BZ.free 3;have y4:=BZ.free 4;refine rl 9 rfl fun K hK=>?_
    go_simp;have T8:=aj5 w7 g7 (.int .u32 a) (.int .i64 n) (.int .u32 id) (.int .u32 sq) (.int .u16 fm);refine hK.out _ _ ⟨T8.cell c0 (by simp; omega),T8.cell c1 (by simp; omega),T8.cell c2 (by simp; omega),T8.cell c3 (by simp; omega),T8.cell c4 (by simp; omega),T8.cell c5 (by simp; omega),T8.cell c6 (by simp; omega)⟩ (fun hHeld=>?_);have B8:=B7.trans (T8.below (B:=v4.heap.size) (fun i hi=>by simp at hi; omega) B7.size);have D8:=ah1 BZ (.int .u32 a) (.int .i64 n) (.int .u32 id) (.int .u32 sq) (.int .u16 fm);clear hK K z0 z1 z2 z3 z4 y0 y1 y2 y3 y4 c0 c1 c2 c3 c4 c5 c6 BZ B7 T8;generalize ((((w7.setCell ⟨g7,0,none⟩ (.int .u32 a)).setCell ⟨g7,1,none⟩ (.int .i64 n)).setCell ⟨g7,2,none⟩ (.int .u32 id)).setCell ⟨g7,3,none⟩ (.int .u32 sq)).setCell ⟨g7,4,none⟩ (.int .u16 fm)=w8 at*;refine wpAnyH_done (by kernel_rfl) ?_ _;try go_frame
    have hz8:=(Z.out.2.2.1.held B8).held (Below.refl _ _).drew;have UB8:=(Z.out.1.held B8).drew;have bz8:=(Z.out.2.1.trans (B8.mono (by omega))).drew;have hfi:=Y.out.2.2.2.2.2.2;rw [Mr.need_way X.out.2.2.2.2.2.1 Z.out.2.2.2.1] at hz8;have HC:=bv9 hz8 X.out.2.2.2.2.2.2.2 (id:=id) (seq:=sq) (met:=fm) hfi.id hfi.seq Z.out.2.2.2.2.2.2.2.2 (fun _=>Z.out.2.2.2.2.1.1);have k0:w8.drew.cell? ⟨g7,0,none⟩=some (.int .u32 a):=D8.at_ 0;have k1:w8.drew.cell? ⟨g7,1,none⟩=some (.int .i64 n):=D8.at_ 1;have k2:w8.drew.cell? ⟨g7,2,none⟩=some (.int .u32 id):=D8.at_ 2;have k3:w8.drew.cell? ⟨g7,3,none⟩=some (.int .u32 sq):=D8.at_ 3;have k4:w8.drew.cell? ⟨g7,4,none⟩=some (.int .u16 fm):=D8.at_ 4;have hg8:g7<w8.drew.heap.size:=D8.lt;have hb8:b+1<w8.drew.heap.size:=UB8.lt;have hbw8:b<=g7:=by omega
    have hgF:g7∉F:=fun hx=>by have:=HFw.out _ hx; omega
    have hbF:b+1∉F:=fun hx=>by have:=HFw.out _ hx; omega
    have V:=H5 UB8 bz8 HC hgF hbF;clear hz8 UB8 bz8 hfi B8 D8 HC hgF hbF;go_upto_region 8 with fail;refine wp_region_held_drew (S:=fun u=>u.cell? ⟨g7,0,none⟩=some (.int .u32 a)/\u.cell? ⟨g7,1,none⟩=some (.int .i64 n)/\u.cell? ⟨g7,2,none⟩=some (.int .u32 id)/\u.cell? ⟨g7,3,none⟩=some (.int .u32 sq)/\u.cell? ⟨g7,4,none⟩=some (.int .u16 fm)) (by kernel_rfl) ⟨k0,k1,k2,k3,k4⟩ (fun hHeld=>?_);generalize w8.drew=v8 at*;refine tk 0 (.agg #[.int .u32 a,.int .i64 n,.int .u32 id,.int .u32 sq,.int .u16 fm]) rfl hHeld ?_;go_frame;refine tk 1 (.pointer (some ⟨R,0,none⟩)) rfl hHeld ?_;go_frame;refine tk 2 (.agg #[.int .u32 a,.int .i64 n,.int .u32 id,.int .u32 sq,.int .u16 fm]) rfl hHeld ?_;go_frame;refine rl 3 rfl fun K hK=>?_
    go_simp;refine V.out.2.2.1.mono ?_;rintro e w9 ⟨rfl,hG9⟩;obtain ⟨F9,hz9,t9,n9⟩:=hG9;have m0:=t9.cell k0 V.out.2.2.2.1;have m1:=t9.cell k1 V.out.2.2.2.1;have m2:=t9.cell k2 V.out.2.2.2.1;have m3:=t9.cell k3 V.out.2.2.2.1;have m4:=t9.cell k4 V.out.2.2.2.1;refine hK.out _ _ ⟨m0,m1,m2,m3,m4⟩ (fun hHeld=>?_);clear hK K k0 k1 k2 k3 k4;have UB9:=V.out.1.turn t9 V.out.2.2.2.2;have G9:=Lib.hid (show Goes F v8 R room sp _ w9 from ⟨F9,hz9,t9,n9⟩);clear hz9 t9 n9;have z0:=UB9.at_ 0;have z1:=UB9.at_ 1;have z2:=UB9.at_ 2;have z3:=UB9.at_ 3;have z4:=UB9.at_ 4;have y0:=UB9.free 0;have y1:=UB9.free 1;have y2:=UB9.free 2;have y3:=UB9.free 3;have y4:=UB9.free 4;refine rl 4 rfl fun K hK=>?_
    go_simp;have T9:=aj5 w9 (b+1) (.int .u32 a) (.int .i64 n) (.int .u32 id) (.int .u32 sq) (.int .u16 fm);have l0:=T9.cell m0 (by simp; omega);have l1:=T9.cell m1 (by simp; omega);have l2:=T9.cell m2 (by simp; omega);have l3:=T9.cell m3 (by simp; omega);have l4:=T9.cell m4 (by simp; omega);refine hK.out _ _ ⟨l0,l1,l2,l3,l4⟩ (fun hHeld=>?_);have D9:=ah1 UB9 (.int .u32 a) (.int .i64 n) (.int .u32 id) (.int .u32 sq) (.int .u16 fm);have G10:=Goes.put (w:=w) (by rw [HBW.out]; exact V.out.2.1) (fun y hy=>by rw [HBW.out]; exact HFw.out y hy) G9.out T9 (fun y hy=>by
     simp at hy;rw [HBW.out];omega)
    have GG:=Lib.hid G10;clear hK K z0 z1 z2 z3 z4 y0 y1 y2 y3 y4 m0 m1 m2 m3 m4 T9 G10 G9 UB9;generalize ((((w9.setCell ⟨b+1,0,none⟩ (.int .u32 a)).setCell ⟨b+1,1,none⟩ (.int .i64 n)).setCell ⟨b+1,2,none⟩ (.int .u32 id)).setCell ⟨b+1,3,none⟩ (.int .u32 sq)).setCell ⟨b+1,4,none⟩ (.int .u16 fm)=w10 at*;refine rl 5 rfl fun K hK=>?_
    go_simp;refine hK.out _ _ ⟨l0,l1,l2,l3,l4⟩ (fun hHeld=>?_);clear hK K l0 l1 l2 l3 l4;refine wpAnyH_done (by kernel_rfl) ?_ _;try go_frame
    have q1:=D9.at_ 0;have q2:=D9.at_ 1;have q3:=D9.at_ 2;have q4:=D9.at_ 3;have q5:=D9.at_ 4;clear hHeld;go_wp2_with fail;refine bodyPost_ret (v:= .tuple #[.agg #[.int .u32 a,.int .i64 n,.int .u32 id,.int .u32 sq,.int .u16 fm],.bool true]) ?_ rfl ⟨⟨a,n,id,sq,fm⟩,true,rfl,?_,?_⟩
    ·simp [results,Tryz.results110,go_sem,q1,q2,q3,q4,q5]
    ·unfold Upd
     rw [Mr.tell1_way X.out.2.2.2.2.2.1 Z.out.2.2.2.1,Z.out.2.2.2.2.2.1,if_pos rfl]
    ·rw [Mr.tell1_way X.out.2.2.2.2.2.1 Z.out.2.2.2.1,Z.out.2.2.2.2.2.1]
     exact GG.out
end
section
open Go.RowKit Go.Maps Rm Fm Sb
variable {M:Mr}{e:En}{es rs:List En}{W W1 w:World}{v:Value}{B k n:Nat}
structure Fe where
 a:Nat
 n:Int
 how:Int
 nx:Int
deriving DecidableEq
def fcl (e:Fe):List Value:=[.int .u32 e.a,.int .i64 e.n,.int .i64 e.how,.int .i64 e.nx]
theorem al3 (u:Fe):(fcl u).length=4:=rfl
theorem df1 (us:List Fe):∀ v∈us.flatMap fcl,v.oneCell'=true:=by
 intro v hv;obtain ⟨u,-,h⟩:=List.mem_flatMap.1 hv;simp only [fcl,List.mem_cons,List.not_mem_nil,or_false] at h;rcases h with rfl|rfl|rfl|rfl<;>rfl
theorem bi0 (us:List Fe):(us.flatMap fcl).length=us.length*4:=by
 induction us with
 |nil=>rfl
 |cons u r ih=>rw [List.flatMap_cons,List.length_append,ih,al3,List.length_cons]; omega
theorem infoFe:(prog.info? 95).map (fun i=>(i.zero,i.size,i.bytes))=some (some (.agg #[.int .u32 0,.int .i64 0,.int .i64 0,.int .i64 0]),4,32):=by kernel_rfl
def Lf (B:Nat) (v:Value) (us:List Fe) (W:World):Prop:=W.ownsRow B 95 4 v us.length (us.flatMap fcl)/\(v= .slice none 0 0↔us=[])
section
variable {B:Nat} {v:Value} {us:List Fe} {W W':World}
theorem Lf.nil (B:Nat) (W:World):Lf B (.slice none 0 0) [] W:=⟨⟨rfl,.inl ⟨rfl,rfl⟩⟩,by simp⟩
theorem Lf.of_block (h:Lf B v us W) (hb:∀ b,v.ownBlock=some b->W'.heap[b]?=W.heap[b]?):Lf B v us W':=by
 obtain ⟨⟨h1,h2⟩,h3⟩:=h;refine ⟨⟨h1,?_⟩,h3⟩;rcases h2 with h2|⟨g,cap,cur,rfl,h4,h5,h6⟩
 ·exact .inl h2
 ·exact .inr ⟨g,cap,cur,rfl,h4,(hb g rfl).trans h5,h6⟩
theorem Lf.lt (h:Lf B v us W) {b:Nat} (hb:v.ownBlock=some b):b<W.heap.size/\B<=b:=by
 rcases h.1.2 with ⟨rfl,_⟩|⟨g,cap,cur,rfl,h4,h5,_⟩
 ·cases hb
 ·cases hb
  exact ⟨(Array.getElem?_eq_some_iff.1 h5).1,h4⟩
theorem Lf.held (h:Lf B v us W) (hb:Below W.heap.size W W'):Lf B v us W':=h.of_block fun b e=>hb.block b (h.lt e).1
theorem Lf.drew (h:Lf B v us W):Lf B v us W.drew:=h
theorem Lf.turn {L:List Nat} (h:Lf B v us W) (t:Turn L W W') (hL:∀ b,v.ownBlock=some b->b∉L):Lf B v us W':=h.of_block fun b e=>t.block b (h.lt e).1 (hL b e)
theorem Lf.form (h:Lf B v us W):∃ p cap,v= .slice p us.length cap/\us.length<=cap:=by
 rcases h.1.2 with ⟨rfl,h0⟩|⟨g,cap,cur,rfl,_,_,h6,_⟩
 ·exact ⟨none,0,by rw [h0],by omega⟩
 ·exact ⟨_,cap,rfl,h6⟩
theorem run_fs (h:Lf B v us W) (hB:B<=W.heap.size) {ad:Addr} {m c:Nat} {news:List Fe} (hm:news.length=m) (hnews:∀ j u,(news.flatMap fcl)[j]?=some u->W.cell? (ad.add j)=some u) (h0:0<m) (hbig:us.length+m<=100000) (ty:TypeId):
  ∃ g' cap' W',(Builtin.append_ #[97,97] ty #[v,.slice (some ad) m c]).run prog W= .ok (.slice (some ⟨g',0,none⟩) (us.length+m) cap') W'/\Lf B (.slice (some ⟨g',0,none⟩) (us.length+m) cap') (us++news) W'/\W.grownBy W' v.ownBlock/\(v.ownBlock=some g'\/g'=W.heap.size):=by
 obtain ⟨i0,hi,hz0,hz1,hz2⟩:=info_parts infoFe;obtain ⟨v',W',hr,hown,hgr,hnil,hat⟩:=run_append_own_at (P:=prog) W B 97 ty 95 i0 _ 4 32 (by kernel_rfl) hi hz0 hz1 hz2 rfl (by decide) v us.length (us.flatMap fcl) h.1 ad m c (news.flatMap fcl) (by rw [bi0,hm]) hnews (df1 _)
  (by unfold maxLen; omega) (by omega) hB
 have hne:¬ v'= .slice none 0 0:=fun e=>by have:=(hnil.1 e).2; omega
 rcases hown.2 with ⟨rfl,_⟩|⟨g',cap',cur,rfl,h4,h5,h6,h7,h8,h9⟩
 ·exact absurd rfl hne
 ·refine ⟨g',cap',W',hr,⟨⟨by rw [List.length_append,hm,List.flatMap_append]; exact hown.1,.inr ⟨g',cap',cur,by rw [List.length_append,hm],h4,h5,by rw [List.length_append,hm]; exact h6,h7,h8,by rw [List.length_append,hm,List.flatMap_append]; exact h9⟩⟩,?_⟩,hgr,?_⟩
  ·constructor
   ·intro e; cases e
   ·intro e
    have:(us++news).length=0:=by rw [e]; rfl
    rw [List.length_append] at this; omega
  ·rcases hat with h|h
   ·exact .inl (h.symm.trans rfl)
   ·exact .inr (by simpa [Value.ownBlock] using h)
end
def Mr.entry (M:Mr) (e:En):List Fe:=
 if M.owns ⟨e.a,e.n⟩=true then [⟨e.a,e.n,1,0⟩]
 else match M.pick e.a e.n with
  |some r=>[⟨e.a,e.n,2,r.fr⟩]
  |none=>if e.on=true then [⟨e.a,e.n,3,0⟩] else []
theorem Mr.entry_own (h:M.owns ⟨e.a,e.n⟩=true):M.entry e=[⟨e.a,e.n,1,0⟩]:=by unfold Mr.entry; rw [if_pos h]
theorem Mr.entry_way {r:Rt} (h:M.owns ⟨e.a,e.n⟩=false) (hp:M.pick e.a e.n=some r):M.entry e=[⟨e.a,e.n,2,r.fr⟩]:=by unfold Mr.entry; rw [if_neg (by rw [h]; decide),hp]
theorem Mr.entry_hole (h:M.owns ⟨e.a,e.n⟩=false) (hp:M.pick e.a e.n=none) (ho:e.on=true):M.entry e=[⟨e.a,e.n,3,0⟩]:=by unfold Mr.entry; rw [if_neg (by rw [h]; decide),hp]; simp [ho]
theorem Mr.entry_none (h:M.owns ⟨e.a,e.n⟩=false) (hp:M.pick e.a e.n=none) (ho:e.on=false):M.entry e=[]:=by unfold Mr.entry; rw [if_neg (by rw [h]; decide),hp]; simp [ho]
theorem Subj.ok (h:Subj M rs) {e:En} (he:e∈rs):Pk.ok ⟨e.a,e.n⟩:=by
 rcases (h.mem e).1 he with ⟨h1|⟨id,h1⟩,-⟩|⟨-,⟨fr,h1⟩,-⟩
 ·exact h1.1
 ·exact ⟨h1.1.1,h1.1.2.1⟩
 ·exact ⟨h1.1.1,h1.1.2.1⟩
theorem SjAt.held {W':World} (h:SjAt W v es) (hb:Below W.heap.size W W'):SjAt W' v es:=by
 rcases h with h|⟨g,cap,rfl,hg,hc,F,hS,hF⟩
 ·exact .inl h
 ·exact .inr ⟨g,cap,rfl,Nat.lt_of_lt_of_le hg hb.size,hc,F,hS.held hg hb,hF⟩
theorem SjAt.form (h:SjAt W v es):∃ p cap,v= .slice p es.length cap:=by
 rcases h with ⟨rfl,rfl⟩|⟨g,cap,rfl,-⟩
 ·exact ⟨none,0,rfl⟩
 ·exact ⟨_,cap,rfl⟩
structure FbR (W1:World) (M:Mr) (rs:List En) (k:Nat) (v:Value) (w:World):Prop where
 f:Lf W1.heap.size v ((rs.take k).flatMap M.entry) w
 b:Below W1.heap.size W1 w
theorem FbR.len (_:FbR W1 M rs k v w):((rs.take k).flatMap M.entry).length<=k:=by
 have key:∀ l:List En,(l.flatMap M.entry).length<=l.length:=fun l=>by
  induction l with
  |nil=>simp
  |cons e r ih=>
   have:(M.entry e).length<=1:=by
    unfold Mr.entry;split
    ·simp
    ·split
     ·simp
     ·split<;>simp
   rw [List.flatMap_cons,List.length_append,List.length_cons];omega
 have:=key (rs.take k);rw [List.length_take] at this;omega
theorem bm7 {p:Option Addr} {c:Nat} {es:List Fe} (h:Lf B (.slice p n c) es w) (hle:B<=w.heap.size) (hbig:es.length<=1000) (e:Fe):
  ∃ g' cap' W6,(Builtin.append_ #[97,97] 97 #[.slice p n c,.slice (some ⟨w.heap.size,0,none⟩) 1 1]).run prog (w.alloc (.cells #[.int .u32 e.a,.int .i64 e.n,.int .i64 e.how,.int .i64 e.nx] 95))= .ok (.slice (some ⟨g',0,none⟩) (es.length+1) cap') W6/\Lf B (.slice (some ⟨g',0,none⟩) (es.length+1) cap') (es++[e]) W6/\∀ w0,Below B w0 w->Below B w0 W6:=by
 obtain ⟨hb,hX⟩:=nw w 95 #[.int .u32 e.a,.int .i64 e.n,.int .i64 e.how,.int .i64 e.nx];have h5:=h.held hb;have hle5:=Nat.le_trans hle hb.size;obtain ⟨g',cap',W6,hrun,h6,hg6,-⟩:=run_fs h5 hle5 (ad:=⟨w.heap.size,0,none⟩) (m:=1) (c:=1) (news:=[e]) rfl (fun jj vv hv=>by
  rw [Addr.add_mid,Nat.zero_add,hX.at_ jj];simpa [fcl] using hv) (by omega) (by omega) 97
 exact ⟨g',cap',W6,hrun,h6,fun w0 h0=>(h0.trans (hb.mono hle)).grown hg6 hle5 (fun kk e=>(h5.lt e).2)⟩
theorem Lf.mono {B':Nat} {es:List Fe} (h:Lf B v es w) (hB:B'<=B):Lf B' v es w:=by
 obtain ⟨⟨h1,h2⟩,h3⟩:=h;refine ⟨⟨h1,?_⟩,h3⟩;rcases h2 with h2|⟨g,cap,cur,rfl,h4,h5⟩
 ·exact .inl h2
 ·exact .inr ⟨g,cap,cur,rfl,Nat.le_trans hB h4,h5⟩
theorem an1 (hk:k<rs.length):(rs.take (k+1)).flatMap M.entry=(rs.take k).flatMap M.entry++M.entry rs[k]:=by
 rw [List.take_add_one,List.flatMap_append];simp [hk]
theorem FbR.skip {w':World} (h:FbR W1 M rs k v w) (hk:k<rs.length) (he:M.entry rs[k]=[]) (hb:Below w.heap.size w w'):FbR W1 M rs (k+1) v w':=by
 refine ⟨?_,h.b.trans (hb.mono h.b.size)⟩;rw [an1 hk,he,List.append_nil];exact h.f.held hb
theorem rr_fib {R:Nat} {o fl tb:Option Nat} {j:Jr} {N:Nat} (h:Rr w R o fl tb j N n M) (hnn:2*N+n<20):
  Calls prog 40 #[.pointer (some ⟨R,0,none⟩)] w fun e w'=>∃ v rs,e= .returned v/\Subj M rs/\Lf w.heap.size v (rs.flatMap M.entry) w'/\Below w.heap.size w w':=by
 have HS:=ce7 h hnn;have X:=Lib.hid h;clear h;go_enter Tryz.func40,Tryz.ntmps40;go_wp2_with fail;refine HS.mono ?_;rintro e w1 ⟨v,rs,rfl,hS,hl20,hat,hown,hb⟩;obtain ⟨p,cap,rfl⟩:=hat.form;have h1:=X.out.held hb;have hrl:rs.length<=100:=by omega
 have R0:FbR w1 M rs 0 (.slice none 0 0) w1:=⟨by rw [List.take_zero]; exact Lf.nil _ _,.refl _ _⟩;have HR:=Lib.hid R0;have Y:=H4 hS hat hb h1;clear HS R0 hS hat hown hb h1;go_wp2_with fail;go_loopw [3,11] (fun l i wr=>∃ k:Nat,k<=rs.length/\i= .int .i64 k/\FbR w1 M rs k l wr) (fun _ i _=>rs.length - (intOf i).toNat)
 case atStart=>exact ⟨0,by omega,rfl,HR.out⟩
 case round=>
  clear HR;obtain ⟨k,hk,rfl,hR⟩:=hrel;by_cases hkl:k<rs.length
  ·rcases Y.out.2.1 with ⟨e,hnil⟩|⟨g,cap',e,hg,hc,F,hS,hF⟩
   ·rw [hnil] at hkl
    simp at hkl
   ·cases e
    have hS2:=hS.held hg hR.b;have hFk:=hF k hkl;obtain ⟨⟨ea,en,on⟩,he⟩:∃ e,rs[k]=e:=⟨_,rfl⟩;rw [he] at hFk;have c0:=hS2.c0 k hkl;have c1:=hS2.c1 k hkl;have c2:=hS2.c2 k hkl;rw [hFk] at c0 c1 c2;dsimp only at c0 c1 c2;have hp:=Y.out.1.ok (List.getElem_mem hkl);rw [he] at hp;dsimp only at hp;obtain ⟨b1,E1⟩:=nw wr 158 #[.int .u32 ea,.int .i64 en,.bool on];have hw1:=((Y.out.2.2.2).held hR.b).held b1;obtain ⟨⟨fr,id,sq,mt,ex⟩,hr⟩:∃ r,(M.pick ea en).getD Rt.zero=r:=⟨_,rfl⟩;obtain ⟨ok,hok⟩:∃ ok,(M.pick ea en).isSome=ok:=⟨_,rfl⟩;obtain ⟨q,hq⟩:∃ q,M.owns ⟨ea,en⟩=q:=⟨_,rfl⟩;have HW:=ce6 hw1 hp hr hok;obtain ⟨Ln,hLn⟩:∃ Ln,((rs.take k).flatMap M.entry).length=Ln:=⟨_,rfl⟩;have hform:=hR.f.form;rw [hLn] at hform;obtain ⟨p0,cc,rfl,-⟩:=hform;have Z:=H7 hR he hr hok hq hp hLn;clear hLn hR hS hS2 hF hFk he hr hok hc;go_upto_region 5 with fail;generalize hw2:wr.alloc (.cells #[.int .u32 ea,.int .i64 en,.bool on] 158)=w2 at*;generalize hEe:wr.heap.size=Ee at*;have HE:=Lib.hid hEe;clear hw2 hEe c0 c1 c2;have e0:w2.cell? ⟨Ee,0,none⟩=some (.int .u32 ea):=E1.at_ 0;have e1:w2.cell? ⟨Ee,1,none⟩=some (.int .i64 en):=E1.at_ 1;go_upto_region 6 with (go_at_call 34; refine HW.mono ?_; rintro e w3 ⟨rfl,hb3⟩);have hb4:=next hb3 (aa0 w3 (.cells #[.int .i64 fr,.int .u32 id,.int .u32 sq,.int .u16 mt,.int .i64 ex] 88));have R4:=Blk.new w3 88 #[.int .i64 fr,.int .u32 id,.int .u32 sq,.int .u16 mt,.int .i64 ex];have E4:=E1.held hb4;have HO:=ba7 (hw1.held hb4) hp;have B4:=Lib.hid (b1.trans (hb4.mono (Nat.le_of_lt E1.lt)));rw [Z.out.2.2.2.2.1] at HO;clear HW hw1 hb3 hb4 b1 E1 e0 e1;generalize hw4:w3.alloc (.cells #[.int .i64 fr,.int .u32 id,.int .u32 sq,.int .u16 mt,.int .i64 ex] 88)=w4 at*;generalize hGg:w3.heap.size=Gg at*;clear hw4 hGg;have f0:w4.cell? ⟨Ee,0,none⟩=some (.int .u32 ea):=E4.at_ 0;have f1:w4.cell? ⟨Ee,1,none⟩=some (.int .i64 en):=E4.at_ 1;have f2:w4.cell? ⟨Ee,2,none⟩=some (.bool on):=E4.at_ 2;have r0:w4.cell? ⟨Gg,0,none⟩=some (.int .i64 fr):=R4.at_ 0;have hlt4:=Nat.le_of_lt E4.lt;clear E4 R4
    cases q with
    |true=>
     go_upto_region 7 with (go_at_call 33; refine HO.mono ?_; rintro e w5 ⟨rfl,hb5⟩);have B5:Hid (Below wr.heap.size wr w5):=Lib.hid (by rw [HE.out]; exact B4.out.trans (hb5.mono hlt4));have g0:=held hb5 f0;have g1:=held hb5 f1;clear HO f0 f1 f2 r0 hb5 B4;obtain ⟨g',cap2,W6,hrun,hL6,hB6⟩:=bm7 (Z.out.1.f.held B5.out) (Nat.le_trans Z.out.1.b.size B5.out.size) (by have:=Z.out.1.len; omega) ⟨ea,en,1,0⟩;rw [Z.out.2.2.2.2.2.2] at hrun hL6; obtain ⟨L1,hL1⟩:∃ L1,Ln+1=L1:=⟨_,rfl⟩; rw [hL1] at hrun hL6; clear hL1;have G:=Lib.hid (show FbR w1 M rs (k+1) (.slice (some ⟨g',0,none⟩) L1 cap2) W6 from ⟨by rw [an1 hkl,Z.out.2.1,Mr.entry_own Z.out.2.2.2.2.1]; exact hL6,hB6 _ (Z.out.1.b.trans (B5.out.mono Z.out.1.b.size))⟩);clear hL6 hB6;go_wp2_with (first|(at_builtin; refine Lib.wpList_append_run _ rfl (.tmp 27) (.tmp 31) 97 97 rfl _ _ rfl rfl _ _ hrun ?_)|fail);go_roundw
     case rel=>exact ⟨k+1,by omega,by go_num,G.out⟩
     case measure=>simp [intOf]; omega
    |false=>
     go_upto_region 8 with (go_at_call 33; refine HO.mono ?_; rintro e w5 ⟨rfl,hb5⟩);have B5:Hid (Below wr.heap.size wr w5):=Lib.hid (by rw [HE.out]; exact B4.out.trans (hb5.mono hlt4));have g0:=held hb5 f0;have g1:=held hb5 f1;have g2:=held hb5 f2;have s0:=held hb5 r0;clear HO f0 f1 f2 r0 hb5 B4
     cases ok with
     |true=>
      go_upto_region 9 with fail;have hpk:M.pick ea en=some ⟨fr,id,sq,mt,ex⟩:=by
       have h1:=Z.out.2.2.1;obtain ⟨r,h2⟩:=Option.isSome_iff_exists.1 Z.out.2.2.2.1;rw [h2] at h1 ⊢;exact congrArg some h1
      have P:=Lib.hid hpk;clear hpk;obtain ⟨g',cap2,W6,hrun,hL6,hB6⟩:=bm7 (Z.out.1.f.held B5.out) (Nat.le_trans Z.out.1.b.size B5.out.size) (by have:=Z.out.1.len; omega) ⟨ea,en,2,fr⟩;rw [Z.out.2.2.2.2.2.2] at hrun hL6; obtain ⟨L1,hL1⟩:∃ L1,Ln+1=L1:=⟨_,rfl⟩; rw [hL1] at hrun hL6; clear hL1;have G:=Lib.hid (show FbR w1 M rs (k+1) (.slice (some ⟨g',0,none⟩) L1 cap2) W6 from ⟨by rw [an1 hkl,Z.out.2.1,Mr.entry_way Z.out.2.2.2.2.1 P.out]; exact hL6,hB6 _ (Z.out.1.b.trans (B5.out.mono Z.out.1.b.size))⟩);clear hL6 hB6;go_wp2_with (first|(at_builtin; refine Lib.wpList_append_run _ rfl (.tmp 35) (.tmp 41) 97 97 rfl _ _ rfl rfl _ _ hrun ?_)|fail);go_roundw
      case rel=>exact ⟨k+1,by omega,by go_num,G.out⟩
      case measure=>simp [intOf]; omega
     |false=>
      have P:=Lib.hid (Option.not_isSome_iff_eq_none.1 (by rw [Z.out.2.2.2.1]; decide):M.pick ea en=none)
      cases on with
      |true=>
       go_upto_region 11 with fail;obtain ⟨g',cap2,W6,hrun,hL6,hB6⟩:=bm7 (Z.out.1.f.held B5.out) (Nat.le_trans Z.out.1.b.size B5.out.size) (by have:=Z.out.1.len; omega) ⟨ea,en,3,0⟩;rw [Z.out.2.2.2.2.2.2] at hrun hL6; obtain ⟨L1,hL1⟩:∃ L1,Ln+1=L1:=⟨_,rfl⟩; rw [hL1] at hrun hL6; clear hL1;have G:=Lib.hid (show FbR w1 M rs (k+1) (.slice (some ⟨g',0,none⟩) L1 cap2) W6 from ⟨by rw [an1 hkl,Z.out.2.1,Mr.entry_hole Z.out.2.2.2.2.1 P.out rfl]; exact hL6,hB6 _ (Z.out.1.b.trans (B5.out.mono Z.out.1.b.size))⟩);clear hL6 hB6;go_wp2_with (first|(at_builtin; refine Lib.wpList_append_run _ rfl (.tmp 46) (.tmp 50) 97 97 rfl _ _ rfl rfl _ _ hrun ?_)|fail);go_roundw
       case rel=>exact ⟨k+1,by omega,by go_num,G.out⟩
       case measure=>simp [intOf]; omega
      |false=>
       go_wp2_with fail;go_roundw
       case rel=>exact ⟨k+1,by omega,by go_num,Z.out.1.skip hkl (by rw [Z.out.2.1]; exact Mr.entry_none Z.out.2.2.2.2.1 P.out rfl) B5.out⟩
       case measure=>simp [intOf]; omega
  ·have hk2:k=rs.length:=by omega
   subst hk2;obtain ⟨hf,hbb⟩:=hR;rw [List.take_length] at hf;have H:=H2 hf hbb;clear hf hbb;go_wp2_with fail;go_ret;exact ⟨_,rs,rfl,Y.out.1,H.out.1.mono Y.out.2.2.1.size,Y.out.2.2.1.trans (H.out.2.mono Y.out.2.2.1.size)⟩
end
end Go.Proofs.YtlklghedfaeepaaGreat
