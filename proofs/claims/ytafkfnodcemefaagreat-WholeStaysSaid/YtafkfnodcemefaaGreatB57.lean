import Derived.Test.YtafkfnodcemefaaGreatB56
import Derived.Test.YtafkfnodcemefaaGreatB52
import Derived.Test.YtafkfnodcemefaaGreatB53
import Derived.Test.YtafkfnodcemefaaGreatB46
set_option maxHeartbeats 8000000
namespace Go.Proofs.YtafkfnodcemefaaGreat
open _root_.Go.Proofs.Tryz (prog)
section
open Go.RowKit Go.Maps Rm Fm Sb
structure Gw (w1:World) (l:List Sc.Ev) (v:Value) (wr:World):Prop where
 own:Sp.Oe w1.heap.size v l wr
 below:Below w1.heap.size w1 wr
section
variable {w1 wr w2:World} {l:List Sc.Ev} {v:Value}
theorem Gw.start (w:World):Gw w [] (Lt w.heap.size 0 0) (w.alloc (.cells #[] 30)):=
 ⟨⟨by simp,.inr ⟨w.heap.size,0,#[],rfl,Nat.le_refl _,Blk.new w 30 #[],sn,sn,sn,sn⟩⟩,aa0 _ _⟩
theorem Gw.held (h:Gw w1 l v wr) (hb:Below wr.heap.size wr w2):Gw w1 l v w2:=⟨h.own.held hb,next h.below hb⟩
theorem Gw.push (h:Gw w1 l v wr) (hb:Below wr.heap.size wr w2) (e:Sc.Ev) (hl:l.length<=1000):∃ p q c,v= .slice p q c/\∃ g' cap' W',(Builtin.append_ #[22,22] 22 #[.slice p q c,Lt w2.heap.size 1 1]).run prog (w2.alloc (.cells (Sp.ecs e) 30))= .ok (Lt g' (q+1) cap') W'/\Hid (Gw w1 (l++[e]) (Lt g' (q+1) cap') W'):=by
 obtain ⟨h1,h2⟩:=h.held hb;obtain ⟨g',cap',W',hr,hO,hT,-⟩:=h1.push1 Sp.elemE h2.size e G 22;obtain ⟨p,c,rfl,-⟩:=h1.form;exact ⟨p,l.length,c,rfl,g',cap',W',hr,Z ⟨hO,own_below h1 h2 h2.size hT⟩⟩
theorem Gw.el (h:Gw w1 l v wr) (hg:∀ e∈l,e.Good):∃ A cap,v= .slice A l.length cap/\Sp.El wr A l.length cap l:=h.own.el hg
end
def calm (l:List Sc.Ev):List Sc.Ev:=l.filter fun e=>e.kind !=2
theorem ao9 (l:List Sc.Ev):(calm l).length<=l.length:=List.length_filter_le _ _
theorem ay2 {l:List Sc.Ev} {e:Sc.Ev} (h:e∈calm l):e∈l/\e.kind≠2:=by
 obtain ⟨h1,h2⟩:=List.mem_filter.1 h;exact ⟨h1,by simpa using h2⟩
theorem ao7 {l:List Sc.Ev} {k:Nat} (hk:k<l.length) {e:Sc.Ev} (he:l[k]=e):calm (l.take (k+1))=if e.kind !=2 then calm (l.take k)++[e] else calm (l.take k):=by
 unfold calm;rw [List.take_succ_eq_append_getElem hk,List.filter_append,he]
 cases hq:(e.kind !=2)<;>simp [hq]
theorem ah8 {m:Nat} {es:List Sc.Ev} {x:NsG}:∀ {k:Nat} (_:k<=es.length) {e:Sc.Ev},e∈nLess m es x k->e∈es
 |0,_,e,h=>by cases h
 |k+1,hk,e,h=>by
  rw [nLess] at h;split at h
  ·rcases List.mem_append.1 h with h|h
   ·exact ah8 G h
   ·obtain rfl:=List.mem_singleton.1 h
    rw [show evOf es k=es[k] from getD_in G];exact List.getElem_mem _
  ·exact ah8 G h
theorem ag8 {m:Nat} {es:List Sc.Ev} {x:NsG}:∀ {k:Nat},(nLess m es x k).length<=k
 |0=>Nat.le_refl _
 |k+1=>by
  have:=ag8 (m:=m) (es:=es) (x:=x) (k:=k);rw [nLess];split
  ·rw [List.length_append,List.length_singleton]; omega
  ·omega
theorem aq6 {m sec:Nat} {es:List Sc.Ev} (hn:4<=sec) (hk:∀ e∈es,e.kind≠2):nAt m (evOf (nLess m es (nNew sec) es.length)) (nNew sec) (nLess m es (nNew sec) es.length).length=nAt m (evOf es) (nNew sec) es.length:=by
 rw [bn0 (Nat.le_refl _),List.take_length,ba9 hn hk (ch3 m sec) (Nat.le_refl _)]
theorem aq5 {m sec:Nat} {es:List Sc.Ev} (hn:4<=sec) (hk:∀ e∈es,e.kind≠2) {j:Nat} (hj:j<(nLess m es (nNew sec) es.length).length):nZ m (evOf (nLess m es (nNew sec) es.length)) (nNew sec) j=0:=bq0 hn hk (ch3 m sec) (Nat.le_refl _) hj
theorem an4 (m:Nat) (es:List Sc.Ev) (x:NsG) (k:Nat):nLess m es x (k+1)=if nZ m (evOf es) x k=0 then nLess m es x k++[evOf es k] else nLess m es x k:=rfl
theorem an1 (m:Nat) (es:List Sc.Ev) (x:NsG):nLess m es x 0=[]:=rfl
theorem FbL.at_ {w wr w2:World} {W n:Nat} {fe:Nat->List Fe} (h:FbL w W n fe n wr) (hb:Below wr.heap.size wr w2) {i:Nat} (hi:i<n):
  ∃ p c,w2.cell? (Y W i)=some (.slice p (fe i).length c)/\∀ k (_:k<(fe i).length) e,(fe i)[k]=e->∃ g,p=some ⟨g,0,none⟩/\(fe i).length<=9223372036854775807/\w2.cell? (Y g (k*4))=some (U (e.a:Nat))/\w2.cell? (Y g (k*4+1))=some (I e.n)/\w2.cell? (Y g (k*4+2))=some (I e.how)/\w2.cell? (Y g (k*4+3))=some (I e.nx):=by
 obtain ⟨C,h1,h2,h3,h4⟩:=(h.held hb).ex;obtain ⟨v,q1,q2⟩:=h3 i hi;obtain ⟨p,c,rfl,-⟩:=q2.form;refine ⟨p,c,(h1.at_ i).trans q1,fun k hk e he=>?_⟩;have q3:Ol 43 fcl 4 (W+1) (.slice p (fe i).length c) (fe i) w2:=q2.1;obtain ⟨g,cap,e1,h5,h6,e2⟩:=q3.at_ (cl:=fcl) (k:=4) (fun _=>rfl) hk;injection e1 with e1;rw [he] at e2;exact ⟨g,e1,by unfold maxLen at h6; omega,e2 0 G,e2 1 G,e2 2 G,e2 3 G⟩
end
end Go.Proofs.YtafkfnodcemefaaGreat
