import Derived.Test.YtafkfnodcemefaaGreatB12
set_option maxHeartbeats 8000000
set_option maxRecDepth 100000
namespace Go.Proofs.YtafkfnodcemefaaGreat
open _root_.Go.Proofs.Tryz (prog)
section
open Go.RowKit Go.Maps
attribute [local go_sem] Oper.semAt_some
variable {X:Option Nat->Array Value}
def deadAt (f:Ways) (now:Int) (z:Rk):Bool:=
 match f z with
 |some r=>decide (r.exp<=now)
 |none=>false
theorem ce5 [Ten X] {w:World} {t n:Nat} {o:Option Nat} {f:Ways} (h:Tb X w t o n f) (now:Int):
  Q 83 #[Qt t 10,I now] w fun e w'=>e= .returned (.tuple #[])/\∃ n',Tb X w' t o n' (lessF f (deadAt f now))/\Turn o.toList w w':=by
 have c0:=h.head.ten;obtain ⟨w1,hrn,hrg,hg1,hs1⟩:=Ro.range h.map;have P0:Pw X w w1 t w.heap.size o f (fun z=>(vals f z).isSome) n n:=⟨hrg,h.head.grown (B:=0) hg1 (fun r e=>by cases e),(Turn.refl _ _).trans ⟨hg1.os,hg1.tape,hg1.output,hg1.size,fun i hi _=>hg1.block i hi sn⟩,Nat.le_refl _⟩;have H:=H2 h P0;clear h hrg hg1 P0 hs1;go_enter Tryz.func83,Tryz.ntmps83;go_wp2_with fail;generalize hgR:w.heap.size=r at*;clear hrn c0 hgR;go_loopw [4,5] (fun _ _ wr=>∃ (f':Ways) (left:Rk->Bool) (cnt n':Nat),Hid (Pw X w wr t r o f' left cnt n'/\Inv f f' (deadAt f now) left)) (fun _ _ wr=>roLeft o wr r)
 case atStart=>exact ⟨_,_,_,_,H.out.2,Inv.start _ _⟩
 case round=>
  obtain ⟨f',left,cnt,n',R⟩:=hrel;rcases R.out.1.rg.next 0 with ⟨hc0,hl0,hrun⟩|⟨⟨ka,kn,kf⟩,v,w2,cnt2,hi,hli,hfi,hrun,hrg2,hlt,hg2,hs2,hen⟩
  ·go_wp2_with fail
   go_end0;exact ⟨rfl,n',R.out.1.done H.out.1.map R.out.2 hl0,R.out.1.turn⟩
  ·have hon:=R.out.1.rg.some hli
   obtain ⟨rt,hrt,rfl⟩:∃ rt,f' ⟨ka,kn,kf⟩=some rt/\rV rt=v:=by
    unfold vals at hfi
    cases hx:f' ⟨ka,kn,kf⟩ with
    |none=>rw [hx] at hfi; cases hfi
    |some rt=>rw [hx] at hfi; exact ⟨rt,rfl,by simpa using hfi⟩
   have hfz:f ⟨ka,kn,kf⟩=some rt:=by
    have:=R.out.2 ⟨ka,kn,kf⟩ hi;rw [hrt,if_neg (by rw [hli]; simp)] at this;exact this.symm
   obtain ⟨rf,id,seq,met,exp⟩:=rt;have hdead:deadAt f now ⟨ka,kn,kf⟩=decide (exp<=now):=by unfold deadAt; rw [hfz]
   have P2:=((R.out.1.next hrg2 hg2).alloc (.cells #[U ka,I kn,I kf] 196)).alloc (.cells #[I rf,U id,U seq,V met,I exp] 130);have hmeas:=R.out.1.rg.left_eq;unfold rV at hrun hen;replace hrun:(Instr.next (K r) false 0).run prog wr= .ok (.tuple #[O true,.agg #[U ka,I kn,I kf],.agg #[I rf,U id,U seq,V met,I exp]]) w2:=hrun;replace hen:(Instr.entry (K r)).run prog w2= .ok (.tuple #[.agg #[U ka,I kn,I kf],.agg #[I rf,U id,U seq,V met,I exp]]) w2:=hen;clear hs2 hg2 hrg2 hfi hrt hfz;have KB:=(Blk.new w2 196 #[U ka,I kn,I kf]).more (.cells #[I rf,U id,U seq,V met,I exp] 130);by_cases hd:exp<=now
   ·have R2:=Zq (R.out.2.cut (i:=⟨ka,kn,kf⟩) (by rw [hdead]; exact decide_eq_true hd))
    have hd1:decide (exp<=now)=true:=decide_eq_true hd;clear R hdead;go_wp2_with fail;clear hrun hen;generalize (w2.alloc (.cells #[U ka,I kn,I kf] 196)).alloc (.cells #[I rf,U id,U seq,V met,I exp] 130)=W at*;have k0:=KB.at_ 0;have k1:=KB.at_ 1;have k2:=KB.at_ 2;have t0:W.cell? (Y t 10)=some (.map o):=P2.head.ten;obtain ⟨w4,n4,cnt4,hu,P4,hc4⟩:=P2.drew.drop hon hi;replace hu:(Builtin.delete_ #[112,196] 0 #[.map o,.agg #[U ka,I kn,I kf]]).run prog W.drew= .ok (.tuple #[]) w4:=hu;have Z:=Zq P4;clear P4 P2 KB;go_region;all_goals
     go_wp2_with fail;go_roundw
     case rel=>exact ⟨_,_,cnt4,n4,Z.out,R2.out⟩
     case measure=>
      have:=Z.out.rg.left_eq;omega
   ·have R2:=Zq (R.out.2.keep (i:=⟨ka,kn,kf⟩) (by rw [hdead]; exact decide_eq_false hd))
    have hd1:decide (exp<=now)=false:=decide_eq_false hd;have P3:=Zq P2;clear P2 R KB hdead;go_wp2_with fail;go_roundw
    case rel=>exact ⟨f',_,cnt2,n',P3.out,R2.out⟩
    case measure=>
     have:=P3.out.rg.left_eq;omega
end
section
open Go.RowKit Go.Maps Rm
variable {w:World}{n t:Nat}{o:Option Nat}{f:Ways}{dead:Rk->Bool}{k:Rk}
section
variable {w w':World} {R:Nat} {o fl tb:Option Nat} {j:Jr} {N n:Nat} {M:Mr}
theorem Rr.ne (h:Rr w R o fl tb j N n M) {b:Nat} (hb:o=some b\/fl=some b\/tb=some b):R≠b:=by
 obtain ⟨cn,cm,hnm,hS⟩:=h.nt;rcases hb with hb|hb|hb
 ·exact hS.head_ne (.inl hb)
 ·exact hS.head_ne (.inr hb)
 ·exact h.tab.ne hb
theorem Rr.of_tab (h:Rr w R o fl tb j N n M) {f':Ways} {tb':Option Nat} {n':Nat} (ht:Tb (M.C o fl j) w' R tb' n' f') (T:Turn (R::tb.toList) w w') (hnew:∀ b,tb'=some b->tb=some b\/w.heap.size<=b) (hF:∀ k r,f' k=some r->r.Fits):Rr w' R o fl tb' j N n' { M with f:=f' }:=by
 obtain ⟨cn,cm,hnm,hS⟩:=h.nt;have away:∀ b,o=some b\/fl=some b->b∉R::tb.toList:=fun b hb hm=>by
  rcases List.mem_cons.1 hm with e|hm
  ·exact h.ne (hb.elim (fun h=> .inl h) (fun h=> .inr (.inl h))) e.symm
  ·have:=h.apart b (by simpa using hm)
   rcases hb with hb|hb
   ·exact this.1 hb
   ·exact this.2 hb
 refine ⟨⟨cn,cm,hnm,⟨ht.head,hS.owns.of_block fun b e=>T.block b (hS.owns.lt e) (away b (.inl e)),hS.floors.of_block fun b e=>T.block b (hS.floors.lt e) (away b (.inr e)),hS.apart,hS.small,hS.lease_lt,hS.counts⟩⟩,ht.map,fun b e=>?_,⟨h.fits.id,hF,h.fits.c,h.fits.now,h.fits.seq,h.fits.since⟩⟩;rcases hnew b e with e2|e2
 ·exact h.apart b e2
 ·constructor
  ·intro e3; have:=hS.owns.lt e3; omega
  ·intro e3; have:=hS.floors.lt e3; omega
end
structure Jd (dn:Nat) (safe:Nat->List UInt8) (wn:Int->Option (List UInt8)) (j:Jr) (id:Nat) (dk:Nat) (sm:Sm):Prop where
 disk:j.d=dk
 gen:j.gen<4294967296
 calm:wn=fun _=>none
 size:j.size=dn / 2
 first:j.first=0\/j.first=j.size
 bg:recAt (safe j.first)=some ⟨1,j.gen,0,id,0,0,false,0,0⟩
 recs:∃ rs:List Rc,rs.length=j.len/\(∀ k r,rs[k]?=some r->recAt (safe (j.first+1+k))=some r/\r.gen=j.gen/\r.lsn=k+1/\r.kind≠1/\right r=true/\r.Fits)/\rs.foldl app sm0=sm
 old:∀ i,i<dn->¬ (j.first<=i/\i<=j.first+j.len)->∀ r,recAt (safe i)=some r->r.gen<j.gen
 laid:j.laid=false
 big:2<=j.size
structure Rz (F:List Nat) (w:World) (R room sp:Nat) (M:Mr):Prop where
 ex:∃ o fl tb j N n S Mp dn safe wn,F=[j.d,S,Mp]++rp R o fl tb/\Rr w R o fl tb j N n M/\Dk w j.d S Mp dn safe wn (-1)/\(∀ x,x∈rp R o fl tb->x∉[j.d,S,Mp])/\
  j.first+j.size<=dn/\j.len+room+1<=j.size/\Jd dn safe wn j M.id M.d M.sm/\N+room<=1000/\n+sp<=90000
section
variable {F:List Nat} {w w':World} {R room sp:Nat} {M M':Mr}
theorem Turn.beyond {L L':List Nat} {w w1 w2:World} (h:Turn L w w1) (k:Turn L' w1 w2) (hL:∀ y,y∈L'->y∈L\/w.heap.size<=y):Turn L w w2:=
 ⟨k.os.trans h.os,k.tape.trans h.tape,k.output.trans h.output,Nat.le_trans h.size k.size,fun i hi hn=>(k.block i (Nat.lt_of_lt_of_le hi h.size) (fun hm=>(hL i hm).elim hn (fun h=>by omega))).trans (h.block i hi hn)⟩
end
section
variable {X:Option Nat->Array Value}
theorem Tb.list (h:Tb X w t o n f):∃ ks:List Rk,ks.Nodup/\(∀ k,k∈ks↔k.ok/\(f k).isSome=true)/\n=ks.length:=by
 cases o with
 |none=>
  refine ⟨[],List.nodup_nil,fun k=>?_,h.map.1⟩;have h1:(vals f k).isSome=false:=by rw [h.map.2 k]; rfl
  rw [af3] at h1;simp [h1]
 |some b=>
  obtain ⟨ks,h1,h2⟩:=Mk.list h.map;have h3:∀ k,k∈ks↔k.ok/\(f k).isSome=true:=fun k=>by rw [h2 k,af3]; exact Iff.rfl
  exact ⟨ks,h1,h3,(Mk.card h.map h1 h2).symm⟩
theorem Tb.fewer {Y:Option Nat->Array Value} {w':World} {t' n':Nat} {o':Option Nat} {f':Ways} (h:Tb X w t o n f) (h':Tb Y w' t' o' n' f') (hf:∀ k,(f' k).isSome=true->(f k).isSome=true):n'<=n:=by
 obtain ⟨ks,h1,h2,rfl⟩:=h.list;obtain ⟨ks',h1',h2',rfl⟩:=h'.list;exact List.Nodup.length_le_of_subset h1' fun k hk=>(h2 k).2 ⟨((h2' k).1 hk).1,hf k ((h2' k).1 hk).2⟩
end
theorem ay3 (h:(lessF f dead k).isSome=true):(f k).isSome=true:=by
 unfold lessF at h;split at h
 ·cases h
 ·exact h
theorem bc7 {r:Rt} (h:lessF f dead k=some r):f k=some r:=by
 unfold lessF at h;split at h
 ·cases h
 ·exact h
section
variable {F:List Nat} {w w':World} {R room sp:Nat} {M:Mr}
def Mr.setCost (M:Mr) (k:Nat) (c:Int):Mr:={ M with c:=fun i=>if i=k then c else M.c i }
def Mr.link (M:Mr) (k:Nat) (c:Int):Mr:=if c=0 then { M.setCost k c with f:=lessF M.f fun z=>decide (z.fr=k) } else M.setCost k c
theorem ba2 (M:Mr) (k:Nat) (hk:k<8) (c:Int) (o fl:Option Nat) (j:Jr) (tb:Option Nat):(M.C o fl j tb).setIfInBounds (11+k) (I c)=(M.setCost k c).C o fl j tb:=by
 have:k=0\/k=1\/k=2\/k=3\/k=4\/k=5\/k=6\/k=7:=G
 rcases this with rfl|rfl|rfl|rfl|rfl|rfl|rfl|rfl<;>rfl
end
end
end Go.Proofs.YtafkfnodcemefaaGreat
