import Derived.Test.YtafkfnodcemefaaGreatB19
import Derived.Test.YtafkfnodcemefaaGreatB20
set_option maxHeartbeats 8000000
namespace Go.Proofs.YtafkfnodcemefaaGreat
open _root_.Go.Proofs.Tryz (prog)
section
open Go.RowKit Go.Maps Rm Fm Sb
def Mr.Good (M:Mr):Prop:=∀ k r,M.f k=some r->r.fr=k.fr/\Am.right k.a k.n=true/\r.id≠0/\r.seq<=1073741824
def Mr.farN (M:Mr) (r:Rt):Nat:=(far r.met (cAt M.c r.fr)).toNat
theorem Mr.farN_eq (M:Mr) (r:Rt):far r.met (cAt M.c r.fr)=(M.farN r:Int):=by
 have:=ao2 (m:=r.met) (c:=cAt M.c r.fr) G;unfold Mr.farN;omega
theorem Mr.farN_lt (M:Mr) (r:Rt):M.farN r<65536:=by
 have:=ao2 (m:=r.met) (c:=cAt M.c r.fr) G;unfold Mr.farN;omega
def Mr.tell1 (M:Mr) (e:En):List T.Tm.Up×Mr:=
 if M.owns ⟨e.a,e.n⟩=true then (if M.seq=0 then [] else [⟨e.a,e.n,M.id,M.seq,0⟩],M)
 else match M.pick e.a e.n with
  |some r=>([⟨e.a,e.n,r.id,r.seq,M.farN r⟩],M.covered e.a e.n r.id r.seq (M.farN r))
  |none=>(if e.on=true then [⟨e.a,e.n,0,0,65535⟩] else [],M)
def Mr.tellS (M:Mr):List En->List T.Tm.Up×Mr
 |[]=>([],M)
 |e::r=>((M.tell1 e).1++((M.tell1 e).2.tellS r).1,((M.tell1 e).2.tellS r).2)
theorem Mr.tell1_own {M:Mr} {e:En} (h:M.owns ⟨e.a,e.n⟩=true):M.tell1 e=(if M.seq=0 then [] else [⟨e.a,e.n,M.id,M.seq,0⟩],M):=by unfold Mr.tell1; rw [if_pos h]
theorem Mr.tell1_way {M:Mr} {e:En} {r:Rt} (h:M.owns ⟨e.a,e.n⟩=false) (hp:M.pick e.a e.n=some r):M.tell1 e=([⟨e.a,e.n,r.id,r.seq,M.farN r⟩],M.covered e.a e.n r.id r.seq (M.farN r)):=by unfold Mr.tell1; rw [if_neg (by rw [h]; decide),hp]
theorem Mr.Good.of_f {M M':Mr} (h:M.Good) (e:M'.f=M.f):M'.Good:=fun k r hk=>h k r (by rw [<- e]; exact hk)
theorem Mr.Good.right {M:Mr} (h:M.Good) {a:Nat} {n:Int} {r:Rt} (hp:M.pick a n=some r):Rm.right ⟨4,0,0,r.id,a,n,false,r.seq,M.farN r⟩=true/\M.farN r≠65535:=by
 obtain ⟨k,hk,hf,hc,hfe,hfar⟩:=Mr.pick_some hp;obtain ⟨h0,h1,h2,h3⟩:=h _ _ hf;have h1':Am.right a n=true:=h1;have h0':r.fr=(k:Int):=h0;have hne:M.farN r≠65535:=fun e=>hfar (by
  have:=M.farN_eq r;rw [h0',e] at this;exact this)
 refine ⟨?_,hne⟩;rw [<- ai8];unfold right2;simp only [h1',Bool.not_true,Bool.false_or,Bool.or_eq_true,decide_eq_true_eq,beq_iff_eq];rw [if_neg G,if_neg (by decide),if_neg (by decide),if_neg (by decide)];simp;omega
end
section
open Go.RowKit Go.Maps Rm Fm Sb
attribute [local go_sem] Oper.semAt_some
theorem ah1 {w:World} {g:Nat} {t:TypeId} {v0 v1 v2 v3 v4:Value} (h:Blk t w g #[v0,v1,v2,v3,v4]) (a b c d e:Value):Blk t (((((w.setCell (Y g 0) a).setCell (Y g 1) b).setCell (Y g 2) c).setCell (Y g 3) d).setCell (Y g 4) e) g #[a,b,c,d,e]:=
 ((((h.store 0 a).store 1 b).store 2 c).store 3 d).store 4 e
theorem aj5 (w:World) (g:Nat) (a b c d e:Value):Turn [g] w (((((w.setCell (Y g 0) a).setCell (Y g 1) b).setCell (Y g 2) c).setCell (Y g 3) d).setCell (Y g 4) e):=
 ((((Turn.setCell _ sn _).trans (Turn.setCell _ sn _)).trans (Turn.setCell _ sn _)).trans (Turn.setCell _ sn _)).trans (Turn.setCell _ sn _)
theorem dc4 {s:Nat} {q:Bool} (h:((s:Int) !=0)=q):q=false↔s=0:=by
 rw [<- h];simp
end
section
open Go.RowKit Go.Maps Rm Fm Sb
structure Fe where
 a:Nat
 n:Int
 how:Int
 nx:Int
deriving DecidableEq
def fcl (e:Fe):List Value:=[U e.a,I e.n,I e.how,I e.nx]
theorem cb2 (u:Fe):(fcl u).length=4:=rfl
theorem cv7 (us:List Fe):∀ v∈us.flatMap fcl,v.oneCell'=true:=by
 intro v hv;obtain ⟨u,-,h⟩:=List.mem_flatMap.1 hv;simp only [fcl,List.mem_cons,List.not_mem_nil,or_false] at h;rcases h with rfl|rfl|rfl|rfl<;>rfl
theorem bs0 (us:List Fe):(us.flatMap fcl).length=us.length*4:=by
 induction us with
 |nil=>rfl
 |cons u r ih=>rw [List.flatMap_cons,List.length_append,ih,cb2,List.length_cons]; omega
theorem infoFe:(prog.info? 43).map (fun i=>(i.zero,i.size,i.bytes))=some (some (.agg #[U 0,I 0,I 0,I 0]),4,32):=X
def Lf (B:Nat) (v:Value) (us:List Fe) (W:World):Prop:=W.ownsRow B 43 4 v us.length (us.flatMap fcl)/\(v= .slice none 0 0↔us=[])
section
variable {B:Nat} {v:Value} {us:List Fe} {W W':World}
theorem Lf.nil (B:Nat) (W:World):Lf B (.slice none 0 0) [] W:=⟨⟨rfl,.inl ⟨rfl,rfl⟩⟩,sn⟩
theorem Lf.of_block (h:Lf B v us W) (hb:∀ b,v.ownBlock=some b->W'.heap[b]?=W.heap[b]?):Lf B v us W':=by
 obtain ⟨⟨h1,h2⟩,h3⟩:=h;refine ⟨⟨h1,?_⟩,h3⟩;rcases h2 with h2|⟨g,cap,cur,rfl,h4,h5,h6⟩
 ·exact .inl h2
 ·exact .inr ⟨g,cap,cur,rfl,h4,(hb g rfl).trans h5,h6⟩
theorem Lf.lt (h:Lf B v us W) {b:Nat} (hb:v.ownBlock=some b):b<W.heap.size/\B<=b:=by
 rcases h.1.2 with ⟨rfl,_⟩|⟨g,cap,cur,rfl,h4,h5,_⟩
 ·cases hb
 ·cases hb
  exact ⟨(Array.getElem?_eq_some_iff.1 h5).1,h4⟩
theorem Lf.held (h:Lf B v us W) (hb:Below W.heap.size W W'):Lf B v us W':=h.of_block fun b e=>hb.block b (h.lt e).1
theorem Lf.form (h:Lf B v us W):∃ p cap,v= .slice p us.length cap/\us.length<=cap:=by
 rcases h.1.2 with ⟨rfl,h0⟩|⟨g,cap,cur,rfl,_,_,h6,_⟩
 ·exact ⟨none,0,by rw [h0],G⟩
 ·exact ⟨_,cap,rfl,h6⟩
theorem run_fs (h:Lf B v us W) (hB:B<=W.heap.size) {ad:Addr} {m c:Nat} {news:List Fe} (hm:news.length=m) (hnews:∀ j u,(news.flatMap fcl)[j]?=some u->W.cell? (ad.add j)=some u) (h0:0<m) (hbig:us.length+m<=1000000000) (ty:TypeId):
  ∃ g' cap' W',(Builtin.append_ #[40,40] ty #[v,.slice (some ad) m c]).run prog W= .ok (Lt g' (us.length+m) cap') W'/\Lf B (Lt g' (us.length+m) cap') (us++news) W'/\W.grownBy W' v.ownBlock/\(v.ownBlock=some g'\/g'=W.heap.size):=by
 obtain ⟨i0,hi,hz0,hz1,hz2⟩:=info_parts infoFe;obtain ⟨v',W',hr,hown,hgr,hnil,hat⟩:=run_append_own_at (P:=prog) W B 40 ty 43 i0 _ 4 32 X hi hz0 hz1 hz2 rfl (by decide) v us.length (us.flatMap fcl) h.1 ad m c (news.flatMap fcl) (by rw [bs0,hm]) hnews (cv7 _)
  (by unfold maxLen; omega) G hB
 have hne:¬ v'= .slice none 0 0:=fun e=>by have:=(hnil.1 e).2; omega
 rcases hown.2 with ⟨rfl,_⟩|⟨g',cap',cur,rfl,h4,h5,h6,h7,h8,h9⟩
 ·exact absurd rfl hne
 ·refine ⟨g',cap',W',hr,⟨⟨by rw [List.length_append,hm,List.flatMap_append]; exact hown.1,.inr ⟨g',cap',cur,by rw [List.length_append,hm],h4,h5,by rw [List.length_append,hm]; exact h6,h7,h8,by rw [List.length_append,hm,List.flatMap_append]; exact h9⟩⟩,?_⟩,hgr,?_⟩
  ·constructor
   ·intro e; cases e
   ·intro e
    have:(us++news).length=0:=by rw [e]; rfl
    rw [List.length_append] at this; omega
  ·rcases hat with h|h
   ·exact .inl (h.symm.trans rfl)
   ·exact .inr (by simpa [Value.ownBlock] using h)
end
def Mr.entry (M:Mr) (e:En):List Fe:=
 if M.owns ⟨e.a,e.n⟩=true then [⟨e.a,e.n,1,0⟩]
 else match M.pick e.a e.n with
  |some r=>[⟨e.a,e.n,2,r.fr⟩]
  |none=>if e.on=true then [⟨e.a,e.n,3,0⟩] else []
theorem Mr.entry_own {M:Mr} {e:En} (h:M.owns ⟨e.a,e.n⟩=true):M.entry e=[⟨e.a,e.n,1,0⟩]:=by unfold Mr.entry; rw [if_pos h]
theorem Mr.entry_way {M:Mr} {e:En} {r:Rt} (h:M.owns ⟨e.a,e.n⟩=false) (hp:M.pick e.a e.n=some r):M.entry e=[⟨e.a,e.n,2,r.fr⟩]:=by unfold Mr.entry; rw [if_neg (by rw [h]; decide),hp]
theorem Mr.entry_hole {M:Mr} {e:En} (h:M.owns ⟨e.a,e.n⟩=false) (hp:M.pick e.a e.n=none) (ho:e.on=true):M.entry e=[⟨e.a,e.n,3,0⟩]:=by unfold Mr.entry; rw [if_neg (by rw [h]; decide),hp]; simp [ho]
theorem Mr.entry_none {M:Mr} {e:En} (h:M.owns ⟨e.a,e.n⟩=false) (hp:M.pick e.a e.n=none) (ho:e.on=false):M.entry e=[]:=by unfold Mr.entry; rw [if_neg (by rw [h]; decide),hp]; simp [ho]
theorem Subj.ok {M:Mr} {rs:List En} (h:Subj M rs) {e:En} (he:e∈rs):Pk.ok ⟨e.a,e.n⟩:=by
 rcases (h.mem e).1 he with ⟨h1|⟨id,h1⟩,-⟩|⟨-,⟨fr,h1⟩,-⟩
 ·exact h1.1
 ·exact ⟨h1.1.1,h1.1.2.1⟩
 ·exact ⟨h1.1.1,h1.1.2.1⟩
theorem SjAt.form {W:World} {v:Value} {es:List En} (h:SjAt W v es):∃ p cap,v= .slice p es.length cap:=by
 rcases h with ⟨rfl,rfl⟩|⟨g,cap,rfl,-⟩
 ·exact ⟨none,0,rfl⟩
 ·exact ⟨_,cap,rfl⟩
structure FbR (W1:World) (M:Mr) (rs:List En) (k:Nat) (v:Value) (w:World):Prop where
 f:Lf W1.heap.size v ((rs.take k).flatMap M.entry) w
 b:Below W1.heap.size W1 w
theorem FbR.len {W1 w:World} {M:Mr} {rs:List En} {k:Nat} {v:Value} (_:FbR W1 M rs k v w):((rs.take k).flatMap M.entry).length<=k:=by
 have key:∀ l:List En,(l.flatMap M.entry).length<=l.length:=fun l=>by
  induction l with
  |nil=>simp
  |cons e r ih=>
   have:(M.entry e).length<=1:=by
    unfold Mr.entry;split
    ·simp
    ·split
     ·simp
     ·split<;>simp
   rw [List.flatMap_cons,List.length_append,List.length_cons];omega
 have:=key (rs.take k);rw [List.length_take] at this;omega
theorem Lf.mono {B B':Nat} {v:Value} {es:List Fe} {w:World} (h:Lf B v es w) (hB:B'<=B):Lf B' v es w:=by
 obtain ⟨⟨h1,h2⟩,h3⟩:=h;refine ⟨⟨h1,?_⟩,h3⟩;rcases h2 with h2|⟨g,cap,cur,rfl,h4,h5⟩
 ·exact .inl h2
 ·exact .inr ⟨g,cap,cur,rfl,Nat.le_trans hB h4,h5⟩
theorem ba1 {M:Mr} {rs:List En} {k:Nat} (hk:k<rs.length):(rs.take (k+1)).flatMap M.entry=(rs.take k).flatMap M.entry++M.entry rs[k]:=by
 rw [List.take_add_one,List.flatMap_append];simp [hk]
theorem FbR.skip {W1 w w':World} {M:Mr} {rs:List En} {k:Nat} {v:Value} (h:FbR W1 M rs k v w) (hk:k<rs.length) (he:M.entry rs[k]=[]) (hb:Below w.heap.size w w'):FbR W1 M rs (k+1) v w':=by
 refine ⟨?_,h.b.trans (hb.mono h.b.size)⟩;rw [ba1 hk,he,List.append_nil];exact h.f.held hb
end
end Go.Proofs.YtafkfnodcemefaaGreat
