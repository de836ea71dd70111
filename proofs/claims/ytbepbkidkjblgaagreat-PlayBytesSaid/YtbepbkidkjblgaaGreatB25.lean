import Derived.Test.YtbepbkidkjblgaaGreatB19
import Derived.Test.YtbepbkidkjblgaaGreatB20
set_option maxHeartbeats 8000000
namespace Go.Proofs.YtbepbkidkjblgaaGreat
section
open Go.RowKit Go.Maps Rm Fm Sb
def Mr.Good (M:Mr):Prop:=∀ k r,M.f k=some r->r.fr=k.fr/\Am.right k.a k.n=true/\r.id≠0/\r.seq<=1073741824
def Mr.farN (M:Mr) (r:Rt):Nat:=(far r.met (cAt M.c r.fr)).toNat
theorem Mr.farN_eq (M:Mr) (r:Rt):far r.met (cAt M.c r.fr)=(M.farN r:Int):=by
 have:=ao2 (m:=r.met) (c:=cAt M.c r.fr) (by omega);unfold Mr.farN;omega
theorem Mr.farN_lt (M:Mr) (r:Rt):M.farN r<65536:=by
 have:=ao2 (m:=r.met) (c:=cAt M.c r.fr) (by omega);unfold Mr.farN;omega
theorem Mr.Good.of_f {M M':Mr} (h:M.Good) (e:M'.f=M.f):M'.Good:=fun k r hk=>h k r (by rw [<- e]; exact hk)
theorem Mr.Good.right {M:Mr} (h:M.Good) {a:Nat} {n:Int} {r:Rt} (hp:M.pick a n=some r):Rm.right ⟨4,0,0,r.id,a,n,false,r.seq,M.farN r⟩=true/\M.farN r≠65535:=by
 obtain ⟨k,hk,hf,hc,hfe,hfar⟩:=Mr.pick_some hp;obtain ⟨h0,h1,h2,h3⟩:=h _ _ hf;have h1':Am.right a n=true:=h1;have h0':r.fr=(k:Int):=h0;have hne:M.farN r≠65535:=fun e=>hfar (by
  have:=M.farN_eq r;rw [h0',e] at this;exact this)
 refine ⟨?_,hne⟩;rw [<- ai8];unfold right2;simp only [h1',Bool.not_true,Bool.false_or,Bool.or_eq_true,decide_eq_true_eq,beq_iff_eq];rw [if_neg (by omega),if_neg (by decide),if_neg (by decide),if_neg (by decide)];simp;omega
end
section
open Go.RowKit Go.Maps Rm Fm Sb
attribute [local go_sem] Oper.semAt_some
theorem ah1 {w:World} {g:Nat} {t:TypeId} {v0 v1 v2 v3 v4:Value} (h:Blk t w g #[v0,v1,v2,v3,v4]) (a b c d e:Value):Blk t (((((w.setCell ⟨g,0,none⟩ a).setCell ⟨g,1,none⟩ b).setCell ⟨g,2,none⟩ c).setCell ⟨g,3,none⟩ d).setCell ⟨g,4,none⟩ e) g #[a,b,c,d,e]:=
 ((((h.store 0 a).store 1 b).store 2 c).store 3 d).store 4 e
theorem aj5 (w:World) (g:Nat) (a b c d e:Value):Turn [g] w (((((w.setCell ⟨g,0,none⟩ a).setCell ⟨g,1,none⟩ b).setCell ⟨g,2,none⟩ c).setCell ⟨g,3,none⟩ d).setCell ⟨g,4,none⟩ e):=
 ((((Turn.setCell _ (by simp) _).trans (Turn.setCell _ (by simp) _)).trans (Turn.setCell _ (by simp) _)).trans (Turn.setCell _ (by simp) _)).trans (Turn.setCell _ (by simp) _)
theorem Goes.put {F:List Nat} {w v w1 w2:World} {R r s:Nat} {M':Mr} (hb:Below w.heap.size w v) (hF:∀ y,y∈F->y<w.heap.size) (k:Goes F v R r s M' w1) {L:List Nat} (t:Turn L w1 w2) (hL:∀ y,y∈L->w.heap.size<=y/\y<v.heap.size):Goes F w R r s M' w2:=by
 obtain ⟨F2,h2,t2,n2⟩:=k;refine ⟨F2,h2.turn t (fun x hx hm=>?_),((Turn.of_below F hb).beyond t2 (fun _ h=> .inl h)).beyond t (fun y hy=> .inr (hL y hy).1),fun y hy=>?_⟩
 ·have:=hL x hm
  rcases n2 x hx with h|h
  ·have:=hF x h; omega
  ·omega
 ·rcases n2 y hy with h|h
  ·exact .inl h
  ·exact .inr (Nat.le_trans hb.size h)
theorem dc4 {s:Nat} {q:Bool} (h:((s:Int) !=0)=q):q=false↔s=0:=by
 rw [<- h];simp
end
section
open Go.RowKit Go.Maps Rm Fm Sb
variable {W:World}{v:Value}{es:List En}
structure Fe where
 a:Nat
 n:Int
 how:Int
 nx:Int
deriving DecidableEq
section
variable {B:Nat} {v:Value} {us:List Fe} {W W':World}
end
theorem Subj.ok {M:Mr} {rs:List En} (h:Subj M rs) {e:En} (he:e∈rs):Pk.ok ⟨e.a,e.n⟩:=by
 rcases (h.mem e).1 he with ⟨h1|⟨id,h1⟩,-⟩|⟨-,⟨fr,h1⟩,-⟩
 ·exact h1.1
 ·exact ⟨h1.1.1,h1.1.2.1⟩
 ·exact ⟨h1.1.1,h1.1.2.1⟩
theorem SjAt.held {W':World} (h:SjAt W v es) (hb:Below W.heap.size W W'):SjAt W' v es:=by
 rcases h with h|⟨g,cap,rfl,hg,hc,F,hS,hF⟩
 ·exact .inl h
 ·exact .inr ⟨g,cap,rfl,Nat.lt_of_lt_of_le hg hb.size,hc,F,hS.held hg hb,hF⟩
theorem SjAt.form (h:SjAt W v es):∃ p cap,v= .slice p es.length cap:=by
 rcases h with ⟨rfl,rfl⟩|⟨g,cap,rfl,-⟩
 ·exact ⟨none,0,rfl⟩
 ·exact ⟨_,cap,rfl⟩
end
end Go.Proofs.YtbepbkidkjblgaaGreat
