import Derived.Test.YtafkfnodcemefaaGreatB46
import Derived.Test.YtafkfnodcemefaaGreatB62
set_option maxHeartbeats 8000000
namespace Go.Proofs.YtafkfnodcemefaaGreat
section
open Go.RowKit Go.Maps Rm Fm Sb
structure Onl (p:Pk) (M:Mr):Prop where
 own:∀ q,M.sm.own q=none
 flo:∀ a n id,(M.sm.floor ⟨a,n,id⟩).isSome=true->(⟨a,n⟩:Pk)=p
 way:∀ a n fr,(M.f ⟨a,n,fr⟩).isSome=true->(⟨a,n⟩:Pk)=p
section
variable {p:Pk} {M:Mr}
theorem append_sm (J:Jm) (id:Nat) (T:Sm) (r:Rc):(J.append id T r).2.2=T\/(J.append id T r).2.2=app T r:=by
 unfold Jm.append;simp only
 repeat' split
 all_goals first|exact .inl rfl|exact .inr rfl
theorem Onl.cov (h:Onl p M) {a:Nat} {n:Int} (hp:(⟨a,n⟩:Pk)=p) (J:Jm) (id seq met:Nat):Onl p (M.coveredG J a n id seq met).2.2:=by
 unfold Mr.coveredG;split
 ·exact h
 ·rcases append_sm J M.id M.sm ⟨4,0,0,id,a,n,false,seq,met⟩ with e|e
  ·refine ⟨fun q=>?_,fun a2 n2 i2 hf=>?_,h.way⟩
   ·show (J.append M.id M.sm _).2.2.own q=none
    rw [e]; exact h.own q
   ·have hf:((J.append M.id M.sm ⟨4,0,0,id,a,n,false,seq,met⟩).2.2.floor ⟨a2,n2,i2⟩).isSome=true:=hf
    rw [e] at hf;exact h.flo _ _ _ hf
  ·have ea:app M.sm ⟨4,0,0,id,a,n,false,seq,met⟩=if bet (M.sm.floor ⟨a,n,id⟩) seq met then ⟨M.sm.lease,M.sm.own,fun k=>if k=⟨a,n,id⟩ then some (seq,met) else M.sm.floor k⟩ else M.sm:=rfl
   refine ⟨fun q=>?_,fun a2 n2 i2 hf=>?_,h.way⟩
   ·show (J.append M.id M.sm _).2.2.own q=none
    rw [e,ea];split<;>exact h.own q
   ·have hf:((J.append M.id M.sm ⟨4,0,0,id,a,n,false,seq,met⟩).2.2.floor ⟨a2,n2,i2⟩).isSome=true:=hf
    rw [e,ea] at hf;split at hf
    ·by_cases hz:(⟨a2,n2,i2⟩:Ky)=⟨a,n,id⟩
     ·injection hz with h1 h2 h3
      rw [h1,h2]; exact hp
     ·simp only [if_neg hz] at hf
      exact h.flo _ _ _ hf
    ·exact h.flo _ _ _ hf
theorem Onl.tell1 (h:Onl p M) {e:En} (hp:(⟨e.a,e.n⟩:Pk)=p) (J:Jm):(M.tell1G J e).1.length<=1/\(∀ u∈(M.tell1G J e).1,(⟨u.a,u.len⟩:Pk)=p)/\Onl p (M.tell1G J e).2.2:=by
 have ho:M.owns ⟨e.a,e.n⟩=false:=by unfold Mr.owns; rw [h.own]; rfl
 unfold Mr.tell1G;rw [if_neg (by rw [ho]; simp)];split
 ·refine ⟨?_,fun u hu=>?_,h.cov hp J _ _ _⟩
  ·split<;>simp
  ·split at hu
   ·simp only [List.mem_singleton] at hu
    subst hu; exact hp
   ·cases hu
 ·refine ⟨?_,fun u hu=>?_,h⟩
  ·split<;>simp
  ·split at hu
   ·simp only [List.mem_singleton] at hu
    subst hu; exact hp
   ·cases hu
theorem Onl.aged (h:Onl p M):Onl p M.aged:=⟨h.own,h.flo,fun a n fr hf=>h.way a n fr (by
 have hf:(M.aged.f ⟨a,n,fr⟩).isSome=true:=hf;unfold Mr.aged lessF at hf;simp only at hf;split at hf
 ·cases hf
 ·exact hf)⟩
theorem Onl.subjs (h:Onl p M):M.subjs=[]\/∃ e,M.subjs=[e]/\(⟨e.a,e.n⟩:Pk)=p/\Pk.ok ⟨e.a,e.n⟩:=by
 by_cases hx:∃ rs,Subj M rs
 ·obtain ⟨rs,hS⟩:=hx
  rw [hS.subjs];have hp:∀ e∈rs,(⟨e.a,e.n⟩:Pk)=p:=fun e he=>by
   rcases (hS.mem e).1 he with ⟨h1,-⟩|⟨-,⟨fr,-,h1⟩,-⟩
   ·rcases h1 with ⟨-,h1⟩|⟨id,-,h1⟩
    ·rw [h.own] at h1; cases h1
    ·exact h.flo _ _ _ h1
   ·exact h.way _ _ _ h1
  match rs,hS,hp with
  |[],_,_=>exact .inl rfl
  |[e],hS,hp=>exact .inr ⟨e,rfl,hp e List.mem_cons_self,hS.ok List.mem_cons_self⟩
  |e::e2::r,hS,hp=>
   have h1:=hS.asc;rw [List.map_cons,List.map_cons,List.pairwise_cons] at h1;have h2:=h1.1 (En.pk e2) List.mem_cons_self;have e1:En.pk e=En.pk e2:=(hp e List.mem_cons_self).trans (hp e2 (List.mem_cons_of_mem _ List.mem_cons_self)).symm;rw [e1] at h2;exact (bg3 _ _ h2 h2).elim
 ·left
  unfold Mr.subjs;rw [dif_neg hx]
theorem Onl.tick (h:Onl p M) (J:Jm):∃ L J' M',M.tickG J=(sends M.c (T.Tm.encode L) 8,J',M')/\L.length<=1/\(∀ u∈L,(⟨u.a,u.len⟩:Pk)=p)/\Onl p M'/\(L=[]\/∃ e,Pk.ok ⟨e.a,e.n⟩/\L=(M.aged.tell1G J e).1):=by
 have hs:M.stepG J=(J,M.aged):=Mr.stepG_off (by
  rintro ⟨q,-,hq⟩;have:=h.own q;rw [show M.aged.sm=M.sm from rfl,this] at hq
  cases hq)
 have ha:=h.aged;unfold Mr.tickG;rw [hs];simp only;rcases ha.subjs with e|⟨e,he,hp,hok⟩
 ·rw [e]
  exact ⟨[],J,M.aged,rfl,Nat.zero_le _,fun u hu=>(by cases hu),ha,.inl rfl⟩
 ·rw [he]
  obtain ⟨h1,h2,h3⟩:=ha.tell1 hp J;refine ⟨(M.aged.tell1G J e).1,(M.aged.tell1G J e).2.1,(M.aged.tell1G J e).2.2,?_,h1,h2,h3,.inr ⟨e,hok,rfl⟩⟩;rw [Mr.tellSG,Mr.tellSG,List.append_nil]
theorem Onl.hear (h:Onl p M) {a:Nat} {n:Int} (hp:(⟨a,n⟩:Pk)=p) (fr id seq met:Nat):Onl p (M.hear fr a n id seq met):=by
 have cut:Onl p { M with f:=cutR M.f ⟨a,n,fr⟩ }:=⟨h.own,h.flo,fun a2 n2 f2 hf=>h.way a2 n2 f2 (by
  have hf:(cutR M.f ⟨a,n,fr⟩ ⟨a2,n2,f2⟩).isSome=true:=hf;unfold cutR at hf;split at hf
  ·cases hf
  ·exact hf)⟩
 unfold Mr.hear;split
 ·exact h
 ·split
  ·exact cut
  ·split
   ·refine ⟨h.own,h.flo,fun a2 n2 f2 hf=>?_⟩
    have hf:(putR M.f ⟨a,n,fr⟩ ⟨fr,id,seq,met,M.now+3⟩ ⟨a2,n2,f2⟩).isSome=true:=hf;unfold putR at hf;split at hf
    ·rename_i hz
     injection hz with h1 h2 h3;rw [h1,h2]; exact hp
    ·exact h.way _ _ _ hf
   ·split
    ·split
     ·exact h
     ·exact cut
    ·exact h
end
def Abt (p:Pk) (b:List Nat):Prop:=T.Tm.headed b=true/\∃ u,T.Tm.decode b=some [u]/\(⟨u.a,u.len⟩:Pk)=p
theorem headed_le {b:List Nat} (h:T.Tm.headed b=true):b.length<=1024:=by
 unfold T.Tm.headed at h;rw [decide_eq_true_eq] at h;exact h.2.1
theorem take_whole {b:List Nat} (h:T.Tm.headed b=true):b.take (min (max 1024 0) (b.length:Int)).toNat=b:=by
 have:=headed_le h;rw [List.take_of_length_le];omega
theorem enc_abt {p:Pk} {L:List T.Tm.Up} (h1:L.length<=1) (hp:∀ u∈L,(⟨u.a,u.len⟩:Pk)=p) (hf:∀ u∈L,u.Fits):∀ b∈T.Tm.encode L,Abt p b/\∃ u,L=[u]/\T.Tm.decode b=some [u]:=by
 intro b hb
 match L,h1,hp,hf,hb with
 |[],_,_,_,hb=>rw [cb4] at hb; cases hb
 |[u],_,hp,hf,hb=>
  cases hr:T.Tm.right u with
  |false=>
   have:T.Tm.encode [u]=[]:=by
    unfold T.Tm.encode;rw [T.Tm.pages,if_pos hr,T.Tm.pages];rfl
   rw [this] at hb; cases hb
  |true=>
   obtain ⟨-,-,-,b',e,hl⟩:=T.Tm.encode_fine _ b hb;have hh:T.Tm.headed b=true:=by rw [e]; exact page_headed hl
   rw [cb3 hr,List.mem_singleton] at hb;have hd:T.Tm.decode b=some [u]:=by rw [hb]; exact decode_one hr (hf u List.mem_cons_self)
   exact ⟨⟨hh,u,hd,hp u List.mem_cons_self⟩,u,rfl,hd⟩
theorem sends_in {c:Nat->Int} {bs:List (List Nat)} {k:Nat} {d:Nat×List Nat} (h:d∈sends c bs k):d.2∈bs:=by
 unfold sends at h;simp only [List.mem_flatMap,List.mem_range] at h;obtain ⟨i,-,h⟩:=h;split at h
 ·cases h
 ·obtain ⟨x,hx,rfl⟩:=List.mem_map.1 h
  exact hx
def Runs (s:SvG) (J:Jm) (M:Mr):Prop:=∃ sp,s.r=some ⟨J,sp,M⟩
def RunsO (p:Pk) (s:SvG):Prop:=∃ x,s.r=some x/\Onl p x.M
section
variable {p:Pk} {s:SvG} {J:Jm} {M:Mr} {b:List Nat}
theorem Runs.recv (h:Runs s J M) (ho:M.owns p=true) (hb:Abt p b) (fr:Nat):Runs (s.recv fr b) J M:=by
 obtain ⟨sp,h⟩:=h;obtain ⟨hh,u,hd,hp⟩:=hb;have e:M.receive fr b=M:=by
  unfold Mr.receive;split
  ·rfl
  ·rw [hd]
   show M.hear _ u.a u.len u.id u.seq u.met=M;unfold Mr.hear;rw [if_pos (.inl (by rw [hp]; exact ho))]
 refine ⟨sp - 1100,?_⟩;unfold SvG.recv;rw [h];simp only [e]
theorem RunsO.recv (h:RunsO p s) (hb:Abt p b) (fr:Nat):RunsO p (s.recv fr b):=by
 obtain ⟨x,h,hO⟩:=h;obtain ⟨hh,u,hd,hp⟩:=hb;refine ⟨⟨x.J,x.sp - 1100,x.M.receive fr b⟩,by unfold SvG.recv; rw [h],?_⟩;show Onl p (x.M.receive fr b);unfold Mr.receive;split
 ·exact hO
 ·rw [hd]
  exact hO.hear hp _ _ _ _
theorem drain_two (ho:M.owns p=true):∀ {os:List Dg} {st:Nat->SvG},(∀ g∈os,Abt p g.2.2)->Runs (st 0) J M->RunsO p (st 1)->Runs (drainG 2 os st 0) J M/\RunsO p (drainG 2 os st 1)
 |[],_,_,h0,h1=>⟨h0,h1⟩
 |g::r,st,hg,h0,h1=>by
  have hb:=hg g List.mem_cons_self;refine drain_two ho (os:=r) (st:=recvAll 2 st g 1024) (fun x hx=>hg x (List.mem_cons_of_mem _ hx)) ?_ ?_
  ·unfold recvAll
   split
   ·rw [take_whole hb.1]
    by_cases e:(0:Nat)=g.2.1
    ·rw [<- e,ak8]; exact h0.recv ho hb _
    ·rw [aj4 e]; exact h0
   ·exact h0
  ·unfold recvAll
   split
   ·rw [take_whole hb.1]
    by_cases e:(1:Nat)=g.2.1
    ·rw [<- e,ak8]; exact h1.recv hb _
    ·rw [aj4 e]; exact h1
   ·exact h1
theorem round_two {st:Nat->SvG} {J':Jm} {M':Mr} {L:List T.Tm.Up} (h0:Runs (st 0) J M) (h1:RunsO p (st 1)) (ht:M.tickG J=(sends M.c (T.Tm.encode L) 8,J',M')) (hL:L.length<=1) (hp:∀ u∈L,(⟨u.a,u.len⟩:Pk)=p) (hf:∀ u∈L,u.Fits) (ho:M'.owns p=true)
  (hF:∀ x,(st 1).r=some x->x.M.Fits/\x.M.now<1000000):Runs (roundG 2 st [] 0) J' M'/\RunsO p (roundG 2 st [] 1):=by
 obtain ⟨sp,h0⟩:=h0;obtain ⟨x,h1,hO⟩:=h1;obtain ⟨L1,J1,M1,e1,a1,a2,a3,a4⟩:=hO.tick x.J;obtain ⟨hFx,hnow⟩:=hF x h1;have t0:(st 0).tick=(0,⟨some ⟨J',sp,M'⟩,(st 0).c,(st 0).z⟩,sends M.c (T.Tm.encode L) 8):=by unfold SvG.tick; rw [h0]; simp only [ht]
 have t1:(st 1).tick=(0,⟨some ⟨J1,x.sp,M1⟩,(st 1).c,(st 1).z⟩,sends x.M.c (T.Tm.encode L1) 8):=by unfold SvG.tick; rw [h1]; simp only [e1]
 have f1:∀ u∈L1,u.Fits:=by
  rcases a4 with e|⟨e,he,e'⟩
  ·rw [e]; exact fun u hu=>(by cases hu)
  ·rw [e']
   exact ca5 (M:=x.M.aged) (show x.M.aged.Fits from ⟨hFx.id,fun k r hk=>hFx.f k r (by
    have hk:lessF x.M.f _ k=some r:=hk;unfold lessF at hk;split at hk
    ·cases hk
    ·exact hk),hFx.c,⟨by show 0<=x.M.now+1; have:=hFx.now; omega,by show x.M.now+1<=1000000; omega⟩,hFx.seq,⟨hFx.since.1,by have:=hFx.since.2; show x.M.since<=x.M.now+1; omega⟩⟩) he
 have ht1:(setg st 0 (st 0).tick.2.1 1).tick=(st 1).tick:=by rw [aj4 (by decide)]
 have eN:ticksN 2 (st,[])=(setg (setg st 0 (st 0).tick.2.1) 1 (st 1).tick.2.1,sendAll 1 (sendAll 0 [] (st 0).tick.2.2) (st 1).tick.2.2):=by
  show (setg (setg st 0 (st 0).tick.2.1) 1 (setg st 0 (st 0).tick.2.1 1).tick.2.1,sendAll 1 (sendAll 0 [] (st 0).tick.2.2) (setg st 0 (st 0).tick.2.1 1).tick.2.2)=_;rw [ht1]
 unfold roundG;rw [eN,t0,t1];refine drain_two ho (fun g hg=>?_) ?_ ?_
 ·rcases bf8 hg with hg|⟨d,hd,e⟩
  ·rcases bf8 hg with hg|⟨d,hd,e⟩
   ·cases hg
   ·rw [e]
    exact (enc_abt hL hp hf _ (sends_in hd)).1
  ·rw [e]
   exact (enc_abt a1 a2 f1 _ (sends_in hd)).1
 ·dsimp only
  rw [aj4 (show (0:Nat)≠1 by decide),ak8];exact ⟨sp,rfl⟩
 ·dsimp only
  rw [ak8];exact ⟨_,rfl,a3⟩
end
section
variable {p:Pk} {d id:Nat} {c:Nat->Int} {now:Int} {J:Jm}
theorem mo_step (hp:p.ok) (s:Nat) (t:Int) (l:Nat):(Mo1 p d id c now s t l).stepG J=(Mo1 p d id c (now+1) s t l).advanceG J:=by
 rw [Mr.stepG_on (by rw [Mo1.aged]; exact Mo1.any hp),Mo1.aged]
theorem mo_tick (hp:p.ok) {s s':Nat} {t t':Int} {l l':Nat} {J':Jm} (h:(Mo1 p d id c (now+1) s t l).advanceG J=(J',Mo1 p d id c (now+1) s' t' l')):
  (Mo1 p d id c now s t l).tickG J=(sends c (T.Tm.encode (if s'=0 then [] else [⟨p.a,p.n,id,s',0⟩])) 8,J',Mo1 p d id c (now+1) s' t' l'):=by
 rw [Mr.tickG_is ((mo_step hp s t l).trans h) (cr7 hp),Mr.tellSG,Mr.tellSG,Mr.tell1G_own (M:=Mo1 p d id c (now+1) s' t' l') Mo1.owns_ten,List.append_nil];rfl
theorem mo_advance {s:Nat} {t:Int} (h1:1<=s) (h7:s<=7):(Mo1 p d id c now s t 8).advanceG J=(J,if now - t<12 then Mo1 p d id c now s t 8 else Mo1 p d id c now (s+1) now 8):=by
 unfold Mr.advanceG;by_cases hn:now - t<12
 ·rw [if_pos (show (Mo1 p d id c now s t 8).seq≠0/\(Mo1 p d id c now s t 8).now - (Mo1 p d id c now s t 8).since<12 from ⟨by show s≠0; omega,hn⟩),if_pos hn]
 ·have en:(Mo1 p d id c now s t 8).next=s+1:=by show (if s=0 then 8+1 else s+1)=s+1; rw [if_neg G]
  have el:(Mo1 p d id c now s t 8).leasedG J (s+1)=(true,J,Mo1 p d id c now s t 8):=by
   unfold Mr.leasedG;rw [if_pos (show s+1<=(Mo1 p d id c now s t 8).sm.lease from (by show s+1<=8; omega))]
  rw [if_neg (fun h=>hn h.2),en,if_pos G,el,if_pos rfl,if_neg hn];rfl
theorem mo_withheld (hr:¬ J.size<=1+J.len) (hw:J.D.well=0):(Mo1 p d id c now 0 0 0).advanceG J=({ J with D:={ J.D with well:=-1 } },Mo1 p d id c now 0 0 0):=by
 have en:(Mo1 p d id c now 0 0 0).next=1:=rfl;have ew:∀ i bs,J.D.put i bs=(4,{ J.D with well:=-1 }):=fun i bs=>by
  unfold Dm.put Dm.write;rw [if_pos hw];simp
 have el:(Mo1 p d id c now 0 0 0).leasedG J 1=(false,{ J with D:={ J.D with well:=-1 } },Mo1 p d id c now 0 0 0):=by
  unfold Mr.leasedG;rw [if_neg (show ¬ 1<=(Mo1 p d id c now 0 0 0).sm.lease from (by show ¬ 1<=0; omega)),Jm.append_room hr];unfold Jm.more;simp only [ew];rfl
 unfold Mr.advanceG;rw [if_neg (fun h=>h.1 rfl),en,if_pos G,el];rfl
end
end
end Go.Proofs.YtafkfnodcemefaaGreat
