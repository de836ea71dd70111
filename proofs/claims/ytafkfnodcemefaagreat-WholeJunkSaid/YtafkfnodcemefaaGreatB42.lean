import Derived.Test.YtafkfnodcemefaaGreatB41
set_option maxHeartbeats 8000000
namespace Go.Proofs.YtafkfnodcemefaaGreat
open _root_.Go.Proofs.Tryz (prog)
section
open Go.RowKit Go.Maps Rm Fm Sb
theorem T.Tm.walk_few:∀ (n:Nat) (b:List Nat) (id:Nat),b.length<=n->∀ us,T.Tm.walk id b=some us->us.length<=b.length
 |n,[],id,_=>by
  intro us h;rw [T.Tm.walk_nil] at h
  cases h; simp
 |0,k::r,id,hl=>by simp at hl
 |n+1,k::r,id,hl=>by
  intro us h;simp only [List.length_cons] at hl;rw [T.Tm.walk.eq_def] at h;simp only at h;split at h
  ·have:=T.Tm.walk_few n r id G us h
   simp only [List.length_cons]; omega
  ·cases r with
   |nil=>cases h
   |cons m r=>
    simp only at h;simp only [List.length_cons] at hl;split at h
    ·cases h
    ·generalize (if k=2/\m=4 then T.Tm.val (r.take m) else id)=id' at h
     cases e:T.Tm.walk id' (r.drop m) with
     |none=>rw [e] at h; cases h
     |some l=>
      rw [e] at h;simp only [Option.map_some,Option.some.injEq] at h;subst h;have:=T.Tm.walk_few n _ id' (by simp; omega) l e;have h1:(if k=3 then (T.Tm.told (r.take m) id').toList else []).length<=1:=by
       split
       ·cases T.Tm.told (r.take m) id'<;>simp
       ·simp
      simp only [List.length_append,List.length_cons,List.length_drop] at this ⊢;omega
theorem dg9 {b:List Nat} {us:List T.Tm.Up} (h:T.Tm.decode b=some us):us.length<=1100:=by
 unfold T.Tm.decode at h;split at h
 ·rename_i hh
  have:=T.Tm.walk_few _ _ 0 (Nat.le_refl _) us h;unfold T.Tm.headed at hh;simp only [decide_eq_true_eq] at hh;rw [List.length_drop] at this;omega
 ·cases h
def Mr.un (M:Mr):Mr:={ M with d:=0 }
def un3 {α:Type} (x:α×Jm×Mr):α×Jm×Mr:=(x.1,x.2.1,x.2.2.un)
def un2 (x:Jm×Mr):Jm×Mr:=(x.1,x.2.un)
theorem dt9 (M:Mr) (k:Nat) (c:Int):M.un.link k c=(M.link k c).un:=by
 unfold Mr.link;rw [apply_ite Mr.un];rfl
theorem dy3 (c:Nat->Int):∀ (k:Nat) (M:Mr),lks c k M.un=(lks c k M).un
 |0,_=>rfl
 |k+1,M=>by
  show (lks c k M.un).link k (c k)=((lks c k M).link k (c k)).un;rw [dy3 c k M,dt9]
theorem dz6 (M:Mr) (fr a:Nat) (len:Int) (id seq met:Nat):M.un.hear fr a len id seq met=(M.hear fr a len id seq met).un:=by
 unfold Mr.hear;rw [apply_ite Mr.un,apply_ite Mr.un,apply_ite Mr.un]
 cases h:M.f ⟨a,len,fr⟩ with
 |none=>
  have h2:M.un.f ⟨a,len,fr⟩=none:=h;rw [h2];rfl
 |some old=>
  have h2:M.un.f ⟨a,len,fr⟩=some old:=h;rw [h2];simp only;rw [apply_ite Mr.un];rfl
theorem cu2 (fr:Nat):∀ (us:List T.Tm.Up) (M:Mr),M.un.hears fr us=(M.hears fr us).un
 |[],_=>rfl
 |u::r,M=>by
  show (M.un.hear fr u.a u.len u.id u.seq u.met).hears fr r=((M.hear fr u.a u.len u.id u.seq u.met).hears fr r).un;rw [dz6,cu2 fr r]
theorem da2 (M:Mr) (z:Int) (bs:List Nat):M.un.receive z bs=(M.receive z bs).un:=by
 unfold Mr.receive;rw [apply_ite Mr.un];have h:M.un.got z.toNat (T.Tm.decode bs)=(M.got z.toNat (T.Tm.decode bs)).un:=by
  cases T.Tm.decode bs with
  |none=>rfl
  |some us=>exact cu2 _ us M
 rw [h];rfl
theorem cj4 (M:Mr) (J:Jm) (a:Nat) (len:Int) (id seq met:Nat):M.un.coveredG J a len id seq met=un3 (M.coveredG J a len id seq met):=by
 unfold Mr.coveredG;rw [apply_ite un3];rfl
theorem de0 (M:Mr) (J:Jm) (s:Nat):M.un.leasedG J s=un3 (M.leasedG J s):=by
 unfold Mr.leasedG;rw [apply_ite un3];rfl
theorem co4 (M:Mr) (J:Jm):M.un.advanceG J=un2 (M.advanceG J):=by
 unfold Mr.advanceG;have hn:M.un.next=M.next:=rfl;rw [apply_ite un2,apply_ite un2,apply_ite un2,hn,de0];rfl
theorem dw0 (M:Mr) (J:Jm):M.un.stepG J=un2 (M.stepG J):=by
 unfold Mr.stepG;have h:M.un.aged=M.aged.un:=rfl;rw [apply_ite un2,h,co4];rfl
theorem dh8 (M:Mr) (J:Jm) (e:En):M.un.tell1G J e=un3 (M.tell1G J e):=by
 unfold Mr.tell1G;have hp:M.un.pick e.a e.n=M.pick e.a e.n:=rfl;rw [apply_ite un3,hp]
 cases M.pick e.a e.n with
 |none=>rfl
 |some r=>
  have hf:M.un.farN r=M.farN r:=rfl;simp only;rw [hf,cj4];rfl
theorem bq4:∀ (l:List En) (M:Mr) (J:Jm),M.un.tellSG J l=un3 (M.tellSG J l)
 |[],_,_=>rfl
 |e::r,M,J=>by
  rw [Mr.tellSG,Mr.tellSG,dh8];show ((M.tell1G J e).1++((M.tell1G J e).2.2.un.tellSG (M.tell1G J e).2.1 r).1,((M.tell1G J e).2.2.un.tellSG (M.tell1G J e).2.1 r).2)=_;rw [bq4 r];rfl
theorem dv9 (M:Mr):M.un.subjs=M.subjs:=by
 have h:Subj M.un=Subj M:=funext fun rs=>propext ⟨fun h=>⟨h.asc,h.mem⟩,fun h=>⟨h.asc,h.mem⟩⟩
 unfold Mr.subjs;rw [h]
theorem dv6 (M:Mr) (J:Jm):M.un.tickG J=un3 (M.tickG J):=by
 unfold Mr.tickG;rw [dw0];show (sends M.c (T.Tm.encode ((M.stepG J).2.un.tellSG (M.stepG J).1 (M.stepG J).2.un.subjs).1) 8,((M.stepG J).2.un.tellSG (M.stepG J).1 (M.stepG J).2.un.subjs).2)=_;rw [dv9,bq4];rfl
theorem dy9 (M:Mr) (J:Jm) (a:Nat) (len:Int) (on:Bool):M.un.ownG J a len on=un3 (M.ownG J a len on):=by
 unfold Mr.ownG;rw [apply_ite un3,apply_ite un3,apply_ite un3,apply_ite un3];rfl
theorem Mr.Good.hear {M:Mr} (h:M.Good) {fr:Nat} {u:T.Tm.Up} (hu:T.Tm.right u=true):(M.hear fr u.a u.len u.id u.seq u.met).Good:=by
 have cut:∀ k r,cutR M.f ⟨u.a,u.len,fr⟩ k=some r->M.f k=some r:=fun k r hk=>by
  unfold cutR at hk;split at hk
  ·cases hk
  ·exact hk
 unfold Mr.hear;split
 ·exact h
 ·split
  ·exact fun k r hk=>h k r (cut k r hk)
  ·rename_i h1 h2
   split
   ·intro k r hk
    have hk:putR M.f ⟨u.a,u.len,fr⟩ ⟨fr,u.id,u.seq,u.met,M.now+3⟩ k=some r:=hk;unfold putR at hk;split at hk
    ·rename_i e
     cases hk;subst e;unfold T.Tm.right at hu;simp only [Bool.and_eq_true,decide_eq_true_eq] at hu;rw [if_neg h2] at hu;exact ⟨rfl,hu.1.1,by simpa using hu.2,hu.1.2⟩
    ·exact h k r hk
   ·split
    ·split
     ·exact h
     ·exact fun k r hk=>h k r (cut k r hk)
    ·exact h
theorem Mr.Good.hears {fr:Nat}:∀ {us:List T.Tm.Up} {M:Mr},M.Good->(∀ u∈us,T.Tm.right u=true)->(M.hears fr us).Good
 |[],_,h,_=>h
 |u::r,M,h,hu=>by
  show ((M.hear fr u.a u.len u.id u.seq u.met).hears fr r).Good;exact Mr.Good.hears (h.hear (hu u List.mem_cons_self)) (fun x hx=>hu x (List.mem_cons_of_mem _ hx))
theorem Mr.Good.receive {M:Mr} (h:M.Good) (z:Int) {bs:List Nat} (hb:∀ c∈bs,c<256):(M.receive z bs).Good:=by
 unfold Mr.receive;split
 ·exact h
 ·cases hd:T.Tm.decode bs with
  |none=>exact h
  |some us=>exact Mr.Good.hears h (fun u hu=>(T.Tm.decode_fine hb hd u hu).1)
theorem Mr.Good.link {M:Mr} (h:M.Good) (k:Nat) (c:Int):(M.link k c).Good:=by
 unfold Mr.link;split
 ·intro k' r hk
  have hk:lessF M.f (fun z=>decide (z.fr=k)) k'=some r:=hk;exact h k' r (bc7 hk)
 ·exact h.of_f rfl
theorem Mr.Good.lks {c:Nat->Int}:∀ {k:Nat} {M':Mr},M'.Good->(Go.Proofs.YtafkfnodcemefaaGreat.lks c k M').Good
 |0,_,h=>h
 |k+1,_,h=>(Mr.Good.lks (k:=k) h).link k (c k)
theorem dx3 (id d:Nat) (sm:Sm):(mr1 id d sm).Good:=fun k r hk=>by cases hk
theorem Mr.Good.tickG {M:Mr} (h:M.Good) (J:Jm):(M.tickG J).2.2.Good:=by
 have h1:(M.stepG J).2.Good:=h.aged.of_f (stepG_same M J).2.1;exact h1.of_f (Mr.tellSG_same _ _ _).2.1
theorem Mr.Good.ownG {M:Mr} (h:M.Good) (J:Jm) (a:Nat) (len:Int) (on:Bool):(M.ownG J a len on).2.2.Good:=by
 unfold Mr.ownG
 (repeat' split)<;>first|exact h|exact h.of_f rfl
end
section
open Go.RowKit Go.Maps Rm Fm Sb
attribute [local go_sem] Oper.semAt_some
structure RvG where
 J:Jm
 sp:Nat
 M:Mr
structure SvG where
 r:Option RvG
 c:Nat->Int
 z:Dm
def MaG.sv (m:MaG):SvG:=⟨m.r.map fun x=>⟨x.J,x.sp,x.M.un⟩,m.c,m.z⟩
theorem MaG.sv_none {m:MaG} {s:SvG} (h:m.sv=s) (hr:s.r=none):m=⟨m.d,none,m.F,s.c,s.z⟩:=by
 obtain ⟨d,r,F,c,z⟩:=m;subst h;unfold MaG.sv at hr;simp only [Option.map_eq_none_iff] at hr;subst hr;rfl
theorem MaG.sv_some {m:MaG} {s:SvG} {x:RvG} (h:m.sv=s) (hr:s.r=some x):∃ R M,m=⟨m.d,some ⟨R,x.J,x.sp,M⟩,m.F,s.c,s.z⟩/\M.un=x.M:=by
 obtain ⟨d,r,F,c,z⟩:=m;subst h;unfold MaG.sv at hr;simp only [Option.map_eq_some_iff] at hr;obtain ⟨⟨R,J,sp,M⟩,rfl,rfl⟩:=hr;exact ⟨R,M,rfl,rfl⟩
def setg (st:Nat->SvG) (i:Nat) (s:SvG):Nat->SvG:=fun k=>if k=i then s else st k
theorem ak8 (st:Nat->SvG) (i:Nat) (s:SvG):setg st i s i=s:=by simp [setg]
theorem aj4 {st:Nat->SvG} {i k:Nat} (h:k≠i) (s:SvG):setg st i s k=st k:=by simp [setg,h]
structure BoG (O:Nat->Prop) (w0 w:World) (N n:Nat) (st:Nat->SvG) (os:List Dg):Prop where
 ex:∃ MB ms v xs,NwG w N MB n ms v xs os/\(∀ i,i<n->(ms i).sv=st i)/\O N/\O MB/\(∀ i,i<n->∀ x,x∈(ms i).F->O x)/\(∀ x,v.ownBlock=some x->O x)/\Tu O w0 w/\os.length<=256
section
variable {O:Nat->Prop} {w0 w w':World} {N n:Nat} {st:Nat->SvG} {os:List Dg}
theorem BoG.tu (h:BoG O w0 w N n st os):Tu O w0 w:=by
 obtain ⟨MB,ms,v,xs,hW,hst,b1,b2,b3,b4,hB,hl⟩:=h.ex;exact hB
theorem BoG.n8 (h:BoG O w0 w N n st os):n<=8:=by
 obtain ⟨MB,ms,v,xs,hW,hst,b1,b2,b3,b4,hB,hl⟩:=h.ex;exact hW.nt.n8
theorem BoG.len (h:BoG O w0 w N n st os):os.length<=256:=by
 obtain ⟨MB,ms,v,xs,hW,hst,b1,b2,b3,b4,hB,hl⟩:=h.ex;exact hl
theorem BoG.held (h:BoG O w0 w N n st os) (hb:Below w.heap.size w w'):BoG O w0 w' N n st os:=by
 obtain ⟨MB,ms,v,xs,hW,hst,b1,b2,b3,b4,hB,hl⟩:=h.ex;exact ⟨MB,ms,v,xs,hW.held hb,hst,b1,b2,b3,b4,hB.held hb,hl⟩
theorem BoG.same (h:BoG O w0 w N n st os) {st':Nat->SvG} (hs:∀ i,i<n->st i=st' i):BoG O w0 w N n st' os:=by
 obtain ⟨MB,ms,v,xs,hW,hst,b1,b2,b3,b4,hB,hl⟩:=h.ex;exact ⟨MB,ms,v,xs,hW,fun i hi=>(hst i hi).trans (hs i hi),b1,b2,b3,b4,hB,hl⟩
theorem BoG.one {MB:Nat} {ms:Nat->MaG} {v:Value} {xs:List Pe} (hW:NwG w N MB n ms v xs os) (hst:∀ i,i<n->(ms i).sv=st i) (b1:O N) (b2:O MB) (b3:∀ i,i<n->∀ x,x∈(ms i).F->O x) (b4:∀ x,v.ownBlock=some x->O x) (hB:Tu O w0 w) (hl:os.length<=256)
  {i:Nat} (hi:i<n) {m:MaG} {s:SvG} (hs:m.sv=s) (hN:NtG w' N MB n (putg ms i m) v) (t:Turn (MB::(ms i).F) w w') (hF:∀ y,y∈m.F->y∈(ms i).F\/w.heap.size<=y):BoG O w0 w' N n (setg st i s) os:=by
 refine ⟨MB,putg ms i m,v,xs,hW.one hi hN t (fun x hx=>by simpa using hx) hF,fun k hk=>?_,b1,b2,fun k hk x hx=>?_,b4,hB.step t (fun y hy=>?_),hl⟩
 ·by_cases e:k=i
  ·subst e; rw [ag0,ak8]; exact hs
  ·rw [ac5 e,aj4 e]; exact hst k hk
 ·by_cases e:k=i
  ·subst e
   rw [ag0] at hx;rcases hF x hx with e2|e2
   ·exact b3 k hk x e2
   ·exact hB.wide _ e2
  ·rw [ac5 e] at hx; exact b3 k hk x hx
 ·rcases List.mem_cons.1 hy with e|e
  ·rw [e]; exact b2
  ·exact b3 i hi y e
theorem BoG.beside {O':Nat->Prop} (h:BoG O w0 w N n st os) {L:List Nat} (t:Turn L w w') (hL:∀ x,x∈L->¬ O x/\∃ tg C,tg≠5/\Blk tg w x C) (hO:∀ x,x<w.heap.size->O x->O' x) (hw:∀ x,w'.heap.size<=x->O' x):BoG O' w' w' N n st os:=by
 obtain ⟨MB,ms,v,xs,hW,hst,b1,b2,b3,b4,hB,hl⟩:=h.ex;have f1:∀ x,O x->x∉L:=fun x hx hm=>(hL x hm).1 hx
 refine ⟨MB,ms,v,xs,⟨hW.nt.turn t (f1 _ b1) (f1 _ b2) (fun i hi x hx=>f1 _ (b3 i hi x hx)),hW.wy.turn t (fun x hx hm=>?_),hW.apart⟩,hst,hO _ hW.nt.head.lt b1,hO _ hW.nt.mas.lt b2,fun i hi x hx=>hO _ ((hW.nt.mas.ok i hi).lt hx) (b3 i hi x hx),fun x hx=>hO _ (hW.wy.lt (.inl hx)) (b4 x hx),.refl hw,hl⟩;rcases hx with e|⟨p,hp,rfl⟩
 ·exact f1 _ (b4 x e) hm
 ·obtain ⟨i,hi,rfl⟩:=List.getElem_of_mem hp
  obtain ⟨-,tg,C,ht,hC⟩:=hL _ hm;have hr:=(hW.wy.row i hi (by rw [<- hW.wy.len]; exact hi)).2.2.2.1;obtain ⟨cur,q1,q2⟩:=hr;unfold Blk at hC q1;rw [hC] at q1;injection q1 with q1;injection q1 with q1 q3;exact ht q3
theorem BoG.fewer {MB:Nat} {ms:Nat->MaG} {v v':Value} {xs':List Pe} {os':List Dg} (hst:∀ i,i<n->(ms i).sv=st i) (b1:O N) (b2:O MB) (b3:∀ i,i<n->∀ x,x∈(ms i).F->O x) (b4:∀ x,v.ownBlock=some x->O x) (hB:Tu O w0 w)
  (hW:NwG w' N MB n ms v' xs' os') (t:Turn (N::v.ownBlock.toList) w w') (hv:v'.ownBlock=v.ownBlock) (hl:os'.length<=256):BoG O w0 w' N n st os':=by
 refine ⟨MB,ms,v',xs',hW,hst,b1,b2,b3,fun x hx=>b4 x (by rw [<- hv]; exact hx),hB.step t (fun y hy=>?_),hl⟩;rcases List.mem_cons.1 hy with e|e
 ·rw [e]; exact b1
 ·exact b4 y (by simpa using e)
def zDisk (k:Nat):Dm:=⟨k,fun _=>List.replicate 48 0,fun _=>none,-1⟩
theorem bg_new (n:Nat) (h1:1<=n) (h8:n<=8) (sec:Nat) (hs1:1<=sec) (hs2:sec<=512) (w:World):Q 18 #[I (n:Int),I (sec:Int)] w fun e w'=>
  ∃ N:Nat,e= .returned (K N)/\BoG (fun x=>w.heap.size<=x) w w' N n (fun _=>⟨none,fun _=>0,zDisk sec⟩) []:=by
 refine (ng_new n h1 h8 sec hs1 hs2 w).mono ?_;rintro e w' ⟨ms,rfl,hN,hF,hb,hB⟩;refine ⟨_,rfl,w.heap.size,ms,_,[],⟨hN,Wy.nil _,fun x hx=>?_⟩,fun i hi=>?_,(by show w.heap.size<=_; omega),Nat.le_refl _,hb,fun x hx=>(by cases hx),.of_below hB,sn⟩
 ·rcases hx with e|⟨p,hp,-⟩
  ·cases e
  ·cases hp
 ·have f:=hF i hi
  unfold MaG.sv;rw [f.r,f.c,f.z];rfl
theorem dh4 (h:BoG O w0 w N n st os):Q 9 #[K N] w (Rw w (I os.length)):=by
 obtain ⟨MB,ms,v,xs,hW,hst,b1,b2,b3,b4,hB,hl⟩:=h.ex;exact az5 hW
theorem az1 (h:BoG O w0 w N n st os):Q 33 #[K N] w (Rw w (I n)):=by
 obtain ⟨MB,ms,v,xs,hW,hst,b1,b2,b3,b4,hB,hl⟩:=h.ex;exact di9 hW.nt
theorem ay6 (st:Nat->SvG) (i k:Nat):setg st i (st i) k=st k:=by
 unfold setg;split
 ·rename_i e; rw [e]
 ·rfl
noncomputable def SvG.boot (s:SvG) (i:Nat):Int×SvG:=match s.r with
 |some _=>(3,s)
 |none=>match s.z.opened (i+1) with
  |(c,E,none)=>(c,⟨none,s.c,E⟩)
  |(_,_,some (J,T))=>(0,⟨some ⟨J,100000000,mrB (i+1) 0 T s.c⟩,s.c,s.z⟩)
theorem SvG.boot_runs {s:SvG} {x:RvG} (h:s.r=some x) (i:Nat):s.boot i=(3,s):=by
 unfold SvG.boot;rw [h]
theorem SvG.boot_no {s:SvG} (h:s.r=none) {i:Nat} {c:Int} {E:Dm} (hX:s.z.opened (i+1)=(c,E,none)):s.boot i=(c,⟨none,s.c,E⟩):=by
 unfold SvG.boot;rw [h];simp only;rw [hX]
theorem SvG.boot_on {s:SvG} (h:s.r=none) {i:Nat} {c:Int} {E:Dm} {J:Jm} {T:Sm} (hX:s.z.opened (i+1)=(c,E,some (J,T))):s.boot i=(0,⟨some ⟨J,100000000,mrB (i+1) 0 T s.c⟩,s.c,s.z⟩):=by
 unfold SvG.boot;rw [h];simp only;rw [hX]
theorem mrB_un (id d:Nat) (sm:Sm) (c:Nat->Int):(mrB id d sm c).un=mrB id 0 sm c:=by
 unfold mrB;rw [<- dy3];rfl
theorem eb0 (h:BoG O w0 w N n st os) {i:Nat} (hi:i<n) (hlow:∀ k,0<=(st i).c k/\(st i).c k<=1000):
  Q 19 #[K N,I i] w fun e w'=>e= .returned (I ((st i).boot i).1)/\BoG O w0 w' N n (setg st i ((st i).boot i).2) os:=by
 obtain ⟨MB,ms,v,xs,hW,hst,b1,b2,b3,b4,hB,hl⟩:=h.ex
 cases hr:(st i).r with
 |some x=>
  rw [SvG.boot_runs hr];have hS:BoG O w0 w N n (setg st i (st i)) os:=h.same fun k _=>(ay6 st i k).symm
  obtain ⟨R,M,hm,-⟩:=MaG.sv_some (hst i hi) hr;have H1:=al0 hW.nt hi;have H2:=au6 hW.nt hi;rw [hm] at H2;replace H2:Q 44 #[K N,I i] w (Rw w (Tt true)):=H2
  have X:=Z hS;clear hm hW hst b1 b2 b3 b4 hB hl h hr hS hlow;go_enter Tryz.func19,Tryz.ntmps19;go_wp2_with fail;refine H1.mono ?_;rintro e w2 ⟨rfl,rfl⟩;go_wp2_with fail;refine H2.mono ?_;rintro e w2 ⟨rfl,rfl⟩;go_wp2_with fail;go_ret;exact ⟨rfl,X.out⟩
 |none=>
  have hm:=MaG.sv_none (hst i hi) hr;have hk:=hW.nt.mas.ok i hi;rw [hm] at hk;obtain ⟨S,Mp,e1,-⟩:=hk.none rfl;have e1':(ms i).F=[(ms i).d,S,Mp]:=e1;rw [e1'] at hm;obtain ⟨d,hd⟩:∃ d,(ms i).d=d:=⟨_,rfl⟩;rw [hd] at hm e1';obtain ⟨c,E,X,hX⟩:∃ c E X,(st i).z.opened (i+1)=(c,E,X):=⟨_,_,_,rfl⟩
  cases X with
  |none=>
   rw [SvG.boot_no hr hX];refine (dd9 hW.nt hi hm hX).mono ?_;rintro e w' ⟨rfl,hN,t⟩;exact ⟨rfl,.one hW hst b1 b2 b3 b4 hB hl hi rfl hN (by rw [e1']; exact t) (fun y hy=> .inl (by rw [e1']; exact hy))⟩
  |some JT=>
   obtain ⟨J,T⟩:=JT;rw [SvG.boot_on hr hX];refine (dz3 hW.nt hi hm hX hlow).mono ?_;rintro e w' ⟨R,F,rfl,hN,t,hF⟩;refine ⟨rfl,.one hW hst b1 b2 b3 b4 hB hl hi ?_ hN (by rw [e1']; exact t) (by rw [e1']; exact hF)⟩;show (⟨some ⟨J,100000000,(mrB (i+1) d T (st i).c).un⟩,(st i).c,(st i).z⟩:SvG)=_;rw [mrB_un]
def SvG.link (s:SvG) (k:Nat) (cost:Int):SvG:=⟨s.r.map fun x=>⟨x.J,x.sp,x.M.link k cost⟩,fun q=>if q=k then cost else s.c q,s.z⟩
theorem ea8 (h:BoG O w0 w N n st os) {a b:Nat} (ha:a<n) (hb:b<n) (hab:a≠b) {cost:Int} (h0:0<=cost) (h1:cost<=1000):
  Q 20 #[K N,I a,I b,I cost] w fun e w'=>e= .returned (I 0)/\
   BoG O w0 w' N n (setg (setg st a ((st a).link b cost)) b ((st b).link a cost)) os:=by
 obtain ⟨MB,ms,v,xs,hW,hst,b1,b2,b3,b4,hB,hl⟩:=h.ex;refine (dz1 hW.nt ha hb hab h0 h1).mono ?_;rintro e w' ⟨F,G,rfl,hN,t,hF,hG⟩;have key:∀ (i k:Nat) (F:List Nat),i<n->((ms i).linked k cost F).sv=(st i).link k cost:=fun i k F hi=>by
  rw [<- hst i hi];unfold MaG.linked MaG.sv SvG.link;simp only [Option.map_map];congr 1;refine congrArg (fun f=>Option.map f _) (funext fun x=>?_);simp only [Function.comp,dt9]
 refine ⟨rfl,MB,_,v,xs,⟨hN,hW.wy.turn t fun x hx hm=>?_,fun x hx=>⟨(hW.apart x hx).1,(hW.apart x hx).2.1,fun k hk hm=>?_⟩⟩,fun k hk=>?_,b1,b2,fun k hk x hx=>?_,b4,hB.step t (fun y hy=>?_),hl⟩
 ·rcases List.mem_cons.1 hm with e|e
  ·exact (hW.apart x hx).2.1 e
  ·rcases List.mem_append.1 e with e|e
   ·exact (hW.apart x hx).2.2 a ha e
   ·exact (hW.apart x hx).2.2 b hb e
 ·have hlt:=hW.wy.lt hx
  by_cases e:k=b
  ·subst e
   rw [ag0] at hm;rcases hG x hm with e2|e2
   ·exact (hW.apart x hx).2.2 k hk e2
   ·omega
  ·rw [ac5 e] at hm
   by_cases e2:k=a
   ·subst e2
    rw [ag0] at hm;rcases hF x hm with e3|e3
    ·exact (hW.apart x hx).2.2 k hk e3
    ·omega
   ·rw [ac5 e2] at hm
    exact (hW.apart x hx).2.2 k hk hm
 ·by_cases e:k=b
  ·subst e; rw [ag0,ak8]; exact key _ _ _ hk
  ·rw [ac5 e,aj4 e]
   by_cases e2:k=a
   ·subst e2; rw [ag0,ak8]; exact key _ _ _ hk
   ·rw [ac5 e2,aj4 e2]; exact hst k hk
 ·by_cases e:k=b
  ·subst e
   rw [ag0] at hx;rcases hG x hx with e2|e2
   ·exact b3 k hk x e2
   ·exact hB.wide _ e2
  ·rw [ac5 e] at hx
   by_cases e2:k=a
   ·subst e2
    rw [ag0] at hx;rcases hF x hx with e3|e3
    ·exact b3 k hk x e3
    ·exact hB.wide _ e3
   ·rw [ac5 e2] at hx; exact b3 k hk x hx
 ·rcases List.mem_cons.1 hy with e|e
  ·rw [e]; exact b2
  ·rcases List.mem_append.1 e with e|e
   ·exact b3 a ha y e
   ·exact b3 b hb y e
noncomputable def SvG.own (s:SvG) (a:Nat) (len:Int) (on:Bool):Int×SvG:=match s.r with
 |none=>(3,s)
 |some x=>((x.M.ownG x.J a len on).1,⟨some ⟨(x.M.ownG x.J a len on).2.1,x.sp,(x.M.ownG x.J a len on).2.2⟩,s.c,s.z⟩)
theorem dy6 (h:BoG O w0 w N n st os) {i:Nat} (hi:i<n) {a:Nat} {len:Int} (hp:Pk.ok ⟨a,len⟩) (on:Bool):
  Q 21 #[K N,I i,.agg #[U a,I len],Tt on] w fun e w'=>e= .returned (I ((st i).own a len on).1)/\BoG O w0 w' N n (setg st i ((st i).own a len on).2) os:=by
 cases hr:(st i).r with
 |none=>
  have hb:=aa0 w (.cells #[U a,I len] 28);have h1:=h.held hb;have e1:(st i).own a len on=(3,st i):=by unfold SvG.own; rw [hr]
  rw [e1];have hS:BoG O w0 (w.alloc (.cells #[U a,I len] 28)) N n (setg st i (st i)) os:=h1.same fun k _=>(ay6 st i k).symm
  obtain ⟨MB,ms,v,xs,hW,hst,b1,b2,b3,b4,hB,hl⟩:=h1.ex;have hm:=MaG.sv_none (hst i hi) hr;have HR:=au6 hW.nt hi;rw [hm] at HR;replace HR:Q 44 #[K N,I i] (w.alloc (.cells #[U a,I len] 28)) fun e w'=>e= .returned (Tt false)/\w'=(w.alloc (.cells #[U a,I len] 28)):=HR
  have X:=Z hS;clear hm hW hst b1 b2 b3 b4 hB hl h hr hb h1 hS e1 hp;go_enter Tryz.func21,Tryz.ntmps21;go_wp2_with fail;refine HR.mono ?_;rintro e w2 ⟨rfl,rfl⟩;go_wp2_with fail;go_ret;exact ⟨rfl,X.out⟩
 |some x=>
  obtain ⟨MB,ms,v,xs,hW,hst,b1,b2,b3,b4,hB,hl⟩:=h.ex;obtain ⟨R,M,hm,hu⟩:=MaG.sv_some (hst i hi) hr;have e1:(st i).own a len on=((M.ownG x.J a len on).1,⟨some ⟨(M.ownG x.J a len on).2.1,x.sp,(M.ownG x.J a len on).2.2.un⟩,(st i).c,(st i).z⟩):=by
   unfold SvG.own;rw [hr];simp only;rw [<- hu,dy9];rfl
  rw [e1];have hd:(M.ownG x.J a len on).2.2.d=M.d:=by
   unfold Mr.ownG
   (repeat' split)<;>rfl
  refine (dl9 hW.nt hi hm hd fun W hz=>gz_own hz hp on rfl).mono ?_;rintro e w' ⟨F',rfl,hN,t,hF⟩;exact ⟨rfl,.one hW hst b1 b2 b3 b4 hB hl hi rfl hN (t.mono fun x hx=>List.mem_cons_of_mem _ hx) hF⟩
def SvG.disk (s:SvG):Dm:=match s.r with
 |none=>s.z
 |some x=>x.J.D
def SvG.crash (s:SvG) (ps:List Cr.Pk):SvG:=⟨none,s.c,s.disk.crash ps⟩
def SvG.fail (s:SvG) (a:Int):SvG:=match s.r with
 |none=>⟨none,s.c,s.z.fail a⟩
 |some x=>⟨some ⟨x.J.fail a,x.sp,x.M⟩,s.c,s.z⟩
theorem MaG.disk_sv (m:MaG):m.sv.disk=m.disk:=by
 obtain ⟨d,r,F,c,z⟩:=m
 cases r<;>rfl
theorem MaG.failed_sv (m:MaG) (a:Int):(m.failed a).sv=m.sv.fail a:=by
 obtain ⟨d,r,F,c,z⟩:=m
 cases r<;>rfl
theorem ea9 (h:BoG O w0 w N n st os) {i:Nat} (hi:i<n) {a:Int} (ha:a<=9223372036854775807):
  Q 26 #[K N,I i,I a] w fun e w'=>e= .returned (I 0)/\BoG O w0 w' N n (setg st i ((st i).fail a)) os:=by
 obtain ⟨MB,ms,v,xs,hW,hst,b1,b2,b3,b4,hB,hl⟩:=h.ex;refine (dz2 hW.nt hi ha).mono ?_;rintro e w' ⟨rfl,hN,t⟩;refine ⟨rfl,.one hW hst b1 b2 b3 b4 hB hl hi ?_ hN (t.mono fun x hx=>List.mem_cons_of_mem _ hx) (fun y hy=> .inl (by rw [MaG.failed_F] at hy; exact hy))⟩;rw [MaG.failed_sv,hst i hi]
noncomputable def SvG.tick (s:SvG):Int×SvG×List (Nat×List Nat):=match s.r with
 |none=>(3,s,[])
 |some x=>(0,⟨some ⟨(x.M.tickG x.J).2.1,x.sp,(x.M.tickG x.J).2.2⟩,s.c,s.z⟩,(x.M.tickG x.J).1)
theorem dv2 (h:BoG O w0 w N n st os) {i:Nat} (hi:i<n) (hG:∀ x,(st i).r=some x->x.M.Good/\x.M.now<1000000):
  Q 27 #[K N,I i] w fun e w'=>e= .returned (I ((st i).tick).1)/\BoG O w0 w' N n (setg st i (st i).tick.2.1) (sendAll i os (st i).tick.2.2):=by
 cases hr:(st i).r with
 |none=>
  have e1:(st i).tick=(3,st i,[]):=by unfold SvG.tick; rw [hr]
  rw [e1];have hS:BoG O w0 w N n (setg st i (st i)) os:=h.same fun k _=>(ay6 st i k).symm
  obtain ⟨MB,ms,v,xs,hW,hst,b1,b2,b3,b4,hB,hl⟩:=h.ex;have hm:=MaG.sv_none (hst i hi) hr;have HR:=au6 hW.nt hi;rw [hm] at HR;replace HR:Q 44 #[K N,I i] w (Rw w (Tt false)):=HR
  have X:=Z hS;clear hm hW hst b1 b2 b3 b4 hB hl h hr hS e1 hG;go_enter Tryz.func27,Tryz.ntmps27;go_wp2_with fail;refine HR.mono ?_;rintro e w2 ⟨rfl,rfl⟩;go_wp2_with fail;go_ret;exact ⟨rfl,X.out⟩
 |some x=>
  obtain ⟨MB,ms,v,xs,hW,hst,b1,b2,b3,b4,hB,hl⟩:=h.ex;obtain ⟨R,M,hm,hu⟩:=MaG.sv_some (hst i hi) hr;obtain ⟨g1,g2⟩:=hG x hr;rw [<- hu] at g1 g2;have e1:(st i).tick=(0,⟨some ⟨(M.tickG x.J).2.1,x.sp,(M.tickG x.J).2.2.un⟩,(st i).c,(st i).z⟩,(M.tickG x.J).1):=by
   unfold SvG.tick;rw [hr];simp only;rw [<- hu,dv6];rfl
  rw [e1];have hk:=hW.nt.mas.ok i hi;rw [hm] at hk;refine (dz0 hW hi hl hm (dz8 (hk.some rfl) g1 g2)).mono ?_;rintro e w' ⟨rfl,F',v',xs',hW',t,hF,hv⟩;refine ⟨rfl,MB,_,v',xs',hW',fun q hq=>?_,b1,b2,fun q hq x hx=>?_,fun x hx=>?_,hB.step t (fun y hy=>?_),am0 _ _ hl⟩
  ·by_cases e:q=i
   ·rw [e,ag0,ak8]; rfl
   ·rw [ac5 e,aj4 e]; exact hst q hq
  ·by_cases e:q=i
   ·rw [e,ag0] at hx
    rcases hF x hx with e2|e2
    ·exact b3 i hi x e2
    ·exact hB.wide _ e2
   ·rw [ac5 e] at hx; exact b3 q hq x hx
  ·rcases hv x hx with e|e
   ·exact b4 x e
   ·exact hB.wide _ e
  ·rcases List.mem_cons.1 hy with e|e
   ·rw [e]; exact b1
   ·rcases List.mem_append.1 e with e|e
    ·exact b4 y (by simpa using e)
    ·exact b3 i hi y e
theorem ea7 (h:BoG O w0 w N n st os) {k:Nat} (hk:k<os.length):Q 17 #[K N,I k] w fun e w'=>e= .returned (I 0)/\BoG O w0 w' N n st (os.eraseIdx k):=by
 obtain ⟨MB,ms,v,xs,hW,hst,b1,b2,b3,b4,hB,hl⟩:=h.ex;refine (ci7 hW hk).mono ?_;rintro e w' ⟨rfl,v',hW',t,hv⟩;exact ⟨rfl,.fewer hst b1 b2 b3 b4 hB hW' t hv (by have:=List.length_eraseIdx_le os k; omega)⟩
theorem dy1 (h:BoG O w0 w N n st os) {k:Nat} (hk:k<os.length):Q 67 #[K N,I k] w fun e w'=>e= .returned (I 0)/\BoG O w0 w' N n st (sent1 os[k].1 os os[k].2):=by
 obtain ⟨MB,ms,v,xs,hW,hst,b1,b2,b3,b4,hB,hl⟩:=h.ex;refine (dw9 hW hl hk).mono ?_;rintro e w' ⟨rfl,v',xs',hW',t,hv⟩;refine ⟨rfl,MB,ms,v',xs',hW',hst,b1,b2,b3,fun x hx=>?_,hB.step t (fun y hy=>?_),cd4 _ hl⟩
 ·rcases hv x hx with e|e
  ·exact b4 x e
  ·exact hB.wide _ e
 ·rcases List.mem_cons.1 hy with e|e
  ·rw [e]; exact b1
  ·exact b4 y (by simpa using e)
theorem cj8 (h:BoG O w0 w N n st os) {z:Int} (hz:¬ (0<=z/\z<(os.length:Int))):Q 17 #[K N,I z] w (Rw w (I 2)):=by
 obtain ⟨MB,ms,v,xs,hW,hst,b1,b2,b3,b4,hB,hl⟩:=h.ex;exact ci1 hW hz
theorem by6 (h:BoG O w0 w N n st os) {z:Int} (hz:¬ (0<=z/\z<(os.length:Int))):Q 67 #[K N,I z] w (Rw w (I 2)):=by
 obtain ⟨MB,ms,v,xs,hW,hst,b1,b2,b3,b4,hB,hl⟩:=h.ex;exact bt1 hW hz
theorem bh6 (h:BoG O w0 w N n st os) {z:Int} (hz:¬ (0<=z/\z<(os.length:Int))) (most:Int):Q 16 #[K N,I z,I most] w (Rw w (I 2)):=by
 obtain ⟨MB,ms,v,xs,hW,hst,b1,b2,b3,b4,hB,hl⟩:=h.ex;exact bg9 hW hz most
def SvG.recv (s:SvG) (fr:Nat) (bs:List Nat):SvG:=match s.r with
 |none=>s
 |some x=>⟨some ⟨x.J,x.sp - 1100,x.M.receive fr bs⟩,s.c,s.z⟩
def recvAll (n:Nat) (st:Nat->SvG) (g:Dg) (most:Int):Nat->SvG:=if g.2.1<n then setg st g.2.1 ((st g.2.1).recv g.1 (g.2.2.take (min (max most 0) (g.2.2.length:Int)).toNat)) else st
theorem bj6 (h:BoG O w0 w N n st os) {k:Nat} (hk:k<os.length) (most:Int) (h256:∀ c∈os[k].2.2,c<256) (hbl:os[k].2.2.length<=5000) (hsp:∀ i x,i<n->(st i).r=some x->1100<=x.sp):
  Q 16 #[K N,I k,I most] w fun e w'=>e= .returned (I 0)/\BoG O w0 w' N n (recvAll n st os[k] most) (os.eraseIdx k):=by
 obtain ⟨MB,ms,v,xs,hW,hst,b1,b2,b3,b4,hB,hl⟩:=h.ex;obtain ⟨⟨fr,i,bs⟩,ho⟩:∃ g,os[k]=g:=⟨_,rfl⟩;rw [ho] at h256 hbl ⊢;by_cases hi:i<n
 ·unfold recvAll
  rw [if_pos hi]
  cases hr:(st i).r with
  |none=>
   have e1:(st i).recv fr (bs.take (min (max most 0) (bs.length:Int)).toNat)=st i:=by unfold SvG.recv; rw [hr]
   simp only;rw [e1];refine (av5 hW hk ho (fun _=>by rw [MaG.sv_none (hst i hi) hr]) most).mono ?_;rintro e w' ⟨rfl,v',hW',t,hv⟩;exact ⟨rfl,(BoG.fewer hst b1 b2 b3 b4 hB hW' t hv (by have:=List.length_eraseIdx_le os k; omega)).same fun k _=>(ay6 st i k).symm⟩
  |some x=>
   obtain ⟨R,M,hm,hu⟩:=MaG.sv_some (hst i hi) hr;have hs:=hsp i x hi hr;obtain ⟨J,sp,M1⟩:=x;obtain ⟨sp',rfl⟩:∃ sp',sp=sp'+1100:=⟨sp - 1100,by simp only at hs; omega⟩;simp only at hm hu;obtain ⟨m,hmm⟩:∃ m,(min (max most 0) (bs.length:Int)).toNat=m:=⟨_,rfl⟩;have hm0:min (max most 0) (bs.length:Int)=m:=G
   have e1:(st i).recv fr (bs.take m)=⟨some ⟨J,sp',(M.receive fr (bs.take m)).un⟩,(st i).c,(st i).z⟩:=by
    unfold SvG.recv;rw [hr,<- da2,hu];simp
   simp only;rw [hmm,e1];refine (dd8 hW hl hk ho hi hm hm0 h256 hbl (fun us h=>dg9 h)).mono ?_;rintro e w' ⟨rfl,F',v',hW',t,hF,hv⟩;refine ⟨rfl,MB,_,v',_,hW',fun q hq=>?_,b1,b2,fun q hq x hx=>?_,fun x hx=>b4 x (by rw [<- hv]; exact hx),hB.step t (fun y hy=>?_),by have:=List.length_eraseIdx_le os k; omega⟩
   ·by_cases e:q=i
    ·rw [e,ag0,ak8]; rfl
    ·rw [ac5 e,aj4 e]; exact hst q hq
   ·by_cases e:q=i
    ·rw [e,ag0] at hx
     rcases hF x hx with e2|e2
     ·exact b3 i hi x e2
     ·exact hB.wide _ e2
    ·rw [ac5 e] at hx; exact b3 q hq x hx
   ·rcases List.mem_cons.1 hy with e|e
    ·rw [e]; exact b1
    ·rcases List.mem_append.1 e with e|e
     ·exact b4 y (by simpa using e)
     ·exact b3 i hi y e
 ·unfold recvAll
  rw [if_neg hi];refine (av5 hW hk ho (fun h2=>absurd h2 hi) most).mono ?_;rintro e w' ⟨rfl,v',hW',t,hv⟩;exact ⟨rfl,.fewer hst b1 b2 b3 b4 hB hW' t hv (by have:=List.length_eraseIdx_le os k; omega)⟩
theorem dy0 {P Q:Nat->(Nat->SvG)->List Dg->Prop} (h:BoG O w0 w N n st os) (h0:P 0 st os)
  (ht:∀ k st os wr,k<n->P k st os->BoG O w0 wr N n st os->Kc 27 #[K N,I k] wr fun e w'=>∃ (z:Int) (st':Nat->SvG) (os':List Dg),e= .returned (I z)/\P (k+1) st' os'/\BoG O w0 w' N n st' os')
  (hs:∀ st os,P n st os->Q os.length st os) (hq:∀ j st os,Q j st os->os.length=j)
  (hd:∀ j st os wr,Q (j+1) st os->BoG O w0 wr N n st os->Kc 16 #[K N,I 0,I 1024] wr fun e w'=>∃ (z:Int) (st':Nat->SvG) (os':List Dg),e= .returned (I z)/\Q j st' os'/\BoG O w0 w' N n st' os'):
  Kc 23 #[K N] w fun e w'=>e= .returned (.tuple #[])/\∃ st' os',Q 0 st' os'/\BoG O w0 w' N n st' os':=by
 have h8:=h.n8;obtain ⟨MB,hMB⟩:∃ MB,w.cell? (Y N 0)=Xp MB n n:=by
  obtain ⟨MB,ms,v,xs,hW,-⟩:=h.ex;exact ⟨MB,hW.nt.head.at_ 0⟩
 refine (ch4 (MB:=MB) (P:=fun k wr=>∃ st os,P k st os/\BoG O w0 wr N n st os) (Q:=fun j wr=>∃ st os,Q j st os/\BoG O w0 wr N n st os) h8 ⟨st,os,h0,h⟩ hMB ?_ ?_ ?_ ?_).mono ?_
 ·rintro k wr hk ⟨st,os,h1,h2⟩
  refine (ht k st os wr hk h1 h2).mono ?_;rintro e w' ⟨z,st',os',rfl,h3,h4⟩;exact ⟨z,rfl,st',os',h3,h4⟩
 ·rintro wr ⟨st,os,h1,h2⟩
  exact ⟨os.length,st,os,hs st os h1,h2⟩
 ·rintro j wr ⟨st,os,h1,h2⟩
  have:=dh4 h2;rw [hq j st os h1] at this;exact this
 ·rintro j wr ⟨st,os,h1,h2⟩
  refine (hd j st os wr h1 h2).mono ?_;rintro e w' ⟨z,st',os',rfl,h3,h4⟩;exact ⟨z,rfl,st',os',h3,h4⟩
 ·rintro e w' ⟨rfl,st',os',h1,h2⟩
  exact ⟨rfl,st',os',h1,h2⟩
end
section
variable {O:Nat->Prop} {w0 w:World} {N n:Nat} {st:Nat->SvG} {os:List Dg}
theorem cl4 (h:BoG O w0 w N n st os) {z:Int} (hz:¬ (0<=z/\z<(n:Int))):Q 19 #[K N,I z] w (Rw w (I 1)):=by
 obtain ⟨MB,ms,v,xs,hW,-⟩:=h.ex;have HS:=av7 hW.nt hz;clear hW h hz;go_enter Tryz.func19,Tryz.ntmps19;go_wp2_with fail;refine HS.mono ?_;rintro e w2 ⟨rfl,rfl⟩;go_wp2_with fail;go_ret;exact ⟨rfl,rfl⟩
theorem by2 (h:BoG O w0 w N n st os) {z:Int} (hz:¬ (0<=z/\z<(n:Int))) (A:Option Addr) (m c:Nat):Q 65 #[K N,I z,.slice A m c] w (Rw w (I 1)):=by
 obtain ⟨MB,ms,v,xs,hW,-⟩:=h.ex;have HS:=av7 hW.nt hz;clear hW h hz;go_enter Tryz.func65,Tryz.ntmps65;go_wp2_with fail;refine HS.mono ?_;rintro e w2 ⟨rfl,rfl⟩;go_wp2_with fail;go_ret;exact ⟨rfl,rfl⟩
theorem cl1 (h:BoG O w0 w N n st os) {z:Int} (hz:¬ (0<=z/\z<(n:Int))) (a:Int):Q 26 #[K N,I z,I a] w (Rw w (I 1)):=by
 obtain ⟨MB,ms,v,xs,hW,-⟩:=h.ex;have HS:=av7 hW.nt hz;clear hW h hz;go_enter Tryz.func26,Tryz.ntmps26;go_wp2_with fail;refine HS.mono ?_;rintro e w2 ⟨rfl,rfl⟩;go_wp2_with fail;go_ret;exact ⟨rfl,rfl⟩
theorem cj7 (h:BoG O w0 w N n st os) {z:Int} (hz:¬ (0<=z/\z<(n:Int))):Q 27 #[K N,I z] w (Rw w (I 3)):=by
 obtain ⟨MB,ms,v,xs,hW,-⟩:=h.ex;have HS:=aw3 hW.nt hz;clear hW h hz;go_enter Tryz.func27,Tryz.ntmps27;go_wp2_with fail;refine HS.mono ?_;rintro e w2 ⟨rfl,rfl⟩;go_wp2_with fail;go_ret;exact ⟨rfl,rfl⟩
theorem bi8 (h:BoG O w0 w N n st os) {z:Int} (hz:¬ (0<=z/\z<(n:Int))) (a:Nat) (len:Int) (on:Bool):Q 21 #[K N,I z,.agg #[U a,I len],Tt on] w fun e w'=>e= .returned (I 3)/\BoG O w0 w' N n st os:=by
 have hb:=aa0 w (.cells #[U a,I len] 28);have h1:=h.held hb;obtain ⟨MB,ms,v,xs,hW,-⟩:=h1.ex;have HR:=aw3 hW.nt hz;have X:=Z h1;clear hW h hz h1 hb;go_enter Tryz.func21,Tryz.ntmps21;go_wp2_with fail;refine HR.mono ?_;rintro e w2 ⟨rfl,rfl⟩;go_wp2_with fail;go_ret;exact ⟨rfl,X.out⟩
theorem cj9 (h:BoG O w0 w N n st os) {a b cost:Int} (h0:0<=cost) (hz:¬ ((0<=a/\a<(n:Int))/\(0<=b/\b<(n:Int))/\a≠b/\cost<=1000)):Q 20 #[K N,I a,I b,I cost] w (Rw w (I 1)):=by
 obtain ⟨MB,ms,v,xs,hW,-⟩:=h.ex;have H1:=cu0 hW.nt a;have H2:=cu0 hW.nt b;clear hW h;by_cases ha:0<=a/\a<(n:Int)
 ·rw [decide_eq_true ha] at H1
  by_cases hb:0<=b/\b<(n:Int)
  ·rw [decide_eq_true hb] at H2
   by_cases hab:a=b
   ·have d3:(a==b)=true:=beq_iff_eq.2 hab
    clear ha hb hz hab;go_enter Tryz.func20,Tryz.ntmps20;go_wp2_with fail;refine H1.mono ?_;rintro e w2 ⟨rfl,rfl⟩;go_wp2_with fail;refine H2.mono ?_;rintro e w2 ⟨rfl,rfl⟩;go_wp2_with fail;go_ret;exact ⟨rfl,rfl⟩
   ·have d3:(a==b)=false:=beq_eq_false_iff_ne.2 hab
    have d1:=df (cost<0);have d2:decide ((1000:Int)<cost)=true:=decide_eq_true (by
     rcases Int.lt_or_le 1000 cost with h|h
     ·exact h
     ·exact absurd ⟨ha,hb,hab,h⟩ hz)
    clear ha hb hz hab h0;go_enter Tryz.func20,Tryz.ntmps20;go_wp2_with fail;refine H1.mono ?_;rintro e w2 ⟨rfl,rfl⟩;go_wp2_with fail;refine H2.mono ?_;rintro e w2 ⟨rfl,rfl⟩;go_wp2_with fail;go_ret;exact ⟨rfl,rfl⟩
  ·rw [decide_eq_false hb] at H2
   clear ha hb hz h0;go_enter Tryz.func20,Tryz.ntmps20;go_wp2_with fail;refine H1.mono ?_;rintro e w2 ⟨rfl,rfl⟩;go_wp2_with fail;refine H2.mono ?_;rintro e w2 ⟨rfl,rfl⟩;go_wp2_with fail;go_ret;exact ⟨rfl,rfl⟩
 ·rw [decide_eq_false ha] at H1
  clear H2 ha hz h0;go_enter Tryz.func20,Tryz.ntmps20;go_wp2_with fail;refine H1.mono ?_;rintro e w2 ⟨rfl,rfl⟩;go_wp2_with fail;go_ret;exact ⟨rfl,rfl⟩
end
end
section
open Go.RowKit Go.Maps Rm Fm Sb
structure InvG (n t dl:Nat) (st:Nat->SvG) (os:List Dg):Prop where
 low:∀ i,i<n->∀ k,0<=(st i).c k/\(st i).c k<=1000
 run:∀ i,i<n->∀ x,(st i).r=some x->x.M.Good/\x.M.now+(t:Int)<1000000/\1100*dl<=x.sp
 dgs:∀ g∈os,(∀ c∈g.2.2,c<256)/\g.2.2.length<=1024
section
variable {n t dl:Nat} {st:Nat->SvG} {os:List Dg}
theorem InvG.less (h:InvG n t dl st os) {t' dl':Nat} (h1:t'<=t) (h2:dl'<=dl):InvG n t' dl' st os:=
 ⟨h.low,fun i hi x hx=>by obtain ⟨a,b,c⟩:=h.run i hi x hx; exact ⟨a,G,Nat.le_trans (Nat.mul_le_mul_left _ h2) c⟩,h.dgs⟩
theorem InvG.set (h:InvG n t dl st os) {i:Nat} {s:SvG} (h1:∀ k,0<=s.c k/\s.c k<=1000) (h2:∀ x,s.r=some x->x.M.Good/\x.M.now+(t:Int)<1000000/\1100*dl<=x.sp):InvG n t dl (setg st i s) os:=by
 refine ⟨fun k hk=>?_,fun k hk=>?_,h.dgs⟩
 ·by_cases e:k=i
  ·rw [e,ak8]; exact h1
  ·rw [aj4 e]; exact h.low k hk
 ·by_cases e:k=i
  ·rw [e,ak8]; exact h2
  ·rw [aj4 e]; exact h.run k hk
theorem InvG.list (h:InvG n t dl st os) {os':List Dg} (h1:∀ g∈os',(∀ c∈g.2.2,c<256)/\g.2.2.length<=1024):InvG n t dl st os':=⟨h.low,h.run,h1⟩
theorem cu1 (M:Mr) (k:Nat) (c:Int):(M.link k c).now=M.now:=by
 unfold Mr.link;split<;>rfl
theorem dt8 (c:Nat->Int):∀ (k:Nat) (M:Mr),(lks c k M).now=M.now
 |0,_=>rfl
 |k+1,M=>(cu1 _ _ _).trans (dt8 c k M)
theorem dx2 (M:Mr) (fr a:Nat) (len:Int) (id seq met:Nat):(M.hear fr a len id seq met).now=M.now:=by
 unfold Mr.hear
 (repeat' split)<;>rfl
theorem bv1 (fr:Nat):∀ (us:List T.Tm.Up) (M:Mr),(M.hears fr us).now=M.now
 |[],_=>rfl
 |_::r,_=>(bv1 fr r _).trans (dx2 _ _ _ _ _ _ _)
theorem cd1 (M:Mr) (z:Int) (bs:List Nat):(M.receive z bs).now=M.now:=by
 unfold Mr.receive;split
 ·rfl
 ·cases T.Tm.decode bs with
  |none=>rfl
  |some us=>exact bv1 _ us M
theorem dw6 (M:Mr) (J:Jm) (a:Nat) (len:Int) (on:Bool):(M.ownG J a len on).2.2.now=M.now:=by
 unfold Mr.ownG
 (repeat' split)<;>rfl
theorem dh7 (M:Mr) (J:Jm):(M.tickG J).2.2.now=M.now+1:=((Mr.tellSG_same _ _ _).2.2.2.1).trans (stepG_same M J).2.2.2.1
theorem cx6 (M:Mr) (J:Jm):∀ g∈(M.tickG J).1,(∀ c∈g.2,c<256)/\g.2.length<=1024:=by
 intro g hg;unfold Mr.tickG sends at hg;simp only [List.mem_flatMap,List.mem_range] at hg;obtain ⟨i,-,hg⟩:=hg;split at hg
 ·cases hg
 ·obtain ⟨d,hd,rfl⟩:=List.mem_map.1 hg
  obtain ⟨-,h1,h2,-⟩:=T.Tm.encode_fine _ d hd;exact ⟨h2,G⟩
theorem bf8 {frm:Nat}:∀ {ds:List (Nat×List Nat)} {os:List Dg} {g:Dg},g∈sendAll frm os ds->g∈os\/∃ d∈ds,g.2=d
 |[],_,_,h=> .inl h
 |d::r,os,g,h=>by
  rcases bf8 (ds:=r) (os:=sent1 frm os d) h with h|⟨d',h1,h2⟩
  ·unfold sent1 at h
   split at h
   ·rcases List.mem_append.1 h with h|h
    ·exact .inl h
    ·simp only [List.mem_singleton] at h
     subst h;exact .inr ⟨d,List.mem_cons_self,rfl⟩
   ·exact .inl h
  ·exact .inr ⟨d',List.mem_cons_of_mem _ h1,h2⟩
theorem InvG.boot (h:InvG n t dl st os) {i:Nat} (hi:i<n) (ht:t<1000000) (hd:1100*dl<=100000000):InvG n t dl (setg st i ((st i).boot i).2) os:=by
 have hl:=h.low i hi;have hr:=h.run i hi
 cases hr0:(st i).r with
 |some x=>
  rw [SvG.boot_runs hr0];exact h.set hl hr
 |none=>
  obtain ⟨c,E,X,hX⟩:∃ c E X,(st i).z.opened (i+1)=(c,E,X):=⟨_,_,_,rfl⟩
  cases X with
  |none=>
   rw [SvG.boot_no hr0 hX];exact h.set hl (fun x hx=>by cases hx)
  |some JT=>
   obtain ⟨J,T⟩:=JT;rw [SvG.boot_on hr0 hX];refine h.set hl (fun x hx=>?_)
   cases hx;refine ⟨Mr.Good.lks (dx3 _ _ _),?_,hd⟩;have:(mrB (i+1) 0 T (st i).c).now=0:=dt8 _ _ _;show (mrB (i+1) 0 T (st i).c).now+(t:Int)<1000000;omega
theorem InvG.link (h:InvG n t dl st os) {i:Nat} (hi:i<n) {k:Nat} {cost:Int} (h0:0<=cost) (h1:cost<=1000):InvG n t dl (setg st i ((st i).link k cost)) os:=by
 refine h.set (fun q=>?_) (fun x hx=>?_)
 ·show 0<=(if q=k then cost else (st i).c q)/\(if q=k then cost else (st i).c q)<=1000
  split
  ·exact ⟨h0,h1⟩
  ·exact h.low i hi q
 ·unfold SvG.link at hx
  simp only [Option.map_eq_some_iff] at hx;obtain ⟨y,hy,rfl⟩:=hx;obtain ⟨a,b,c⟩:=h.run i hi y hy;exact ⟨a.link _ _,by show (y.M.link k cost).now+(t:Int)<_; rw [cu1]; exact b,c⟩
theorem InvG.own (h:InvG n t dl st os) {i:Nat} (hi:i<n) (a:Nat) (len:Int) (on:Bool):InvG n t dl (setg st i ((st i).own a len on).2) os:=by
 unfold SvG.own
 cases hr:(st i).r with
 |none=>exact h.set (h.low i hi) (h.run i hi)
 |some x=>
  obtain ⟨h1,h2,h3⟩:=h.run i hi x hr;refine h.set (h.low i hi) (fun y hy=>?_)
  cases hy;exact ⟨h1.ownG _ _ _ _,by show (x.M.ownG x.J a len on).2.2.now+(t:Int)<_; rw [dw6]; exact h2,h3⟩
theorem InvG.crash (h:InvG n t dl st os) {i:Nat} (hi:i<n) (ps:List Cr.Pk):InvG n t dl (setg st i ((st i).crash ps)) os:=
 h.set (h.low i hi) (fun y hy=>by cases hy)
theorem InvG.fail (h:InvG n t dl st os) {i:Nat} (hi:i<n) (a:Int):InvG n t dl (setg st i ((st i).fail a)) os:=by
 unfold SvG.fail
 cases hr:(st i).r with
 |none=>exact h.set (h.low i hi) (fun y hy=>by cases hy)
 |some x=>
  refine h.set (h.low i hi) (fun y hy=>?_)
  cases hy;exact h.run i hi x hr
theorem InvG.tick (h:InvG n (t+1) dl st os) {i:Nat} (hi:i<n):InvG n t dl (setg st i (st i).tick.2.1) (sendAll i os (st i).tick.2.2):=by
 have hs:=h.less (Nat.le_succ t) (Nat.le_refl dl);unfold SvG.tick
 cases hr:(st i).r with
 |none=>exact hs.set (h.low i hi) (hs.run i hi)
 |some x=>
  obtain ⟨h1,h2,h3⟩:=h.run i hi x hr;show InvG n t dl (setg st i ⟨some ⟨(x.M.tickG x.J).2.1,x.sp,(x.M.tickG x.J).2.2⟩,(st i).c,(st i).z⟩) (sendAll i os (x.M.tickG x.J).1);refine (hs.set (i:=i) (s:=⟨some ⟨(x.M.tickG x.J).2.1,x.sp,(x.M.tickG x.J).2.2⟩,(st i).c,(st i).z⟩) (h.low i hi) (fun y hy=>?_)).list (fun g hg=>?_)
  ·cases hy
   exact ⟨h1.tickG _,by show (x.M.tickG x.J).2.2.now+(t:Int)<_; rw [dh7]; omega,h3⟩
  ·rcases bf8 hg with hg|⟨d,hd,e⟩
   ·exact h.dgs g hg
   ·rw [e]; exact cx6 _ _ d hd
theorem InvG.recv (h:InvG n t (dl+1) st os) {g:Dg} (hg:∀ c∈g.2.2,c<256) (most:Int):InvG n t dl (recvAll n st g most) os:=by
 have hs:=h.less (Nat.le_refl t) (Nat.le_succ dl);unfold recvAll;split
 ·rename_i hi
  unfold SvG.recv
  cases hr:(st g.2.1).r with
  |none=>exact hs.set (h.low _ hi) (fun y hy=>by rw [hr] at hy; cases hy)
  |some x=>
   obtain ⟨h1,h2,h3⟩:=h.run _ hi x hr;refine hs.set (h.low _ hi) (fun y hy=>?_)
   cases hy;exact ⟨h1.receive _ (fun c hc=>hg c (List.mem_of_mem_take hc)),by show (x.M.receive _ _).now+(t:Int)<_; rw [cd1]; exact h2,by show 1100*dl<=x.sp - 1100; omega⟩
 ·exact hs
noncomputable def tick1 (x:(Nat->SvG)×List Dg) (i:Nat):(Nat->SvG)×List Dg:=(setg x.1 i (x.1 i).tick.2.1,sendAll i x.2 (x.1 i).tick.2.2)
noncomputable def ticksN:Nat->(Nat->SvG)×List Dg->(Nat->SvG)×List Dg
 |0,x=>x
 |k+1,x=>tick1 (ticksN k x) k
def drainG (n:Nat):List Dg->(Nat->SvG)->Nat->SvG
 |[],st=>st
 |g::r,st=>drainG n r (recvAll n st g 1024)
theorem bx8:∀ {os:List Dg} {st:Nat->SvG} (_:InvG n t (dl+os.length) st os),InvG n t dl (drainG n os st) []
 |[],_,h=>h
 |g::r,st,h=>by
  have h':InvG n t (dl+r.length+1) st (g::r):=h;exact bx8 (os:=r) (st:=recvAll n st g 1024) ((h'.recv (h.dgs g List.mem_cons_self).1 1024).list fun x hx=>h.dgs x (List.mem_cons_of_mem _ hx))
theorem bp7 {x:(Nat->SvG)×List Dg}:∀ {k t:Nat} (_:k<=n) (_:InvG n (t+k) dl x.1 x.2),InvG n t dl (ticksN k x).1 (ticksN k x).2
 |0,_,_,h=>h
 |k+1,t,hk,h=>InvG.tick (bp7 (t:=t+1) (k:=k) G (by rw [Nat.add_assoc,Nat.add_comm 1 k]; exact h)) G
theorem be7 {x:(Nat->SvG)×List Dg} (h:x.2.length<=256):∀ k,(ticksN k x).2.length<=256
 |0=>h
 |k+1=>am0 _ _ (be7 h k)
noncomputable def roundG (n:Nat) (st:Nat->SvG) (os:List Dg):Nat->SvG:=drainG n (ticksN n (st,os)).2 (ticksN n (st,os)).1
theorem di6 (h:InvG n (t+8) (dl+256) st os) (hl:os.length<=256) (h8:n<=8):InvG n t dl (roundG n st os) []:=by
 have h1:=bp7 (x:=(st,os)) (t:=t) (k:=n) (Nat.le_refl _) (h.less G (Nat.le_refl _));exact bx8 (h1.less (Nat.le_refl _) (Nat.add_le_add_left (be7 (x:=(st,os)) hl n) _))
theorem dv3 {O:Nat->Prop} {w0 w:World} {N:Nat} (h:BoG O w0 w N n st os) (hI:InvG n (t+8) (dl+256) st os):
  Kc 23 #[K N] w fun e w'=>e= .returned (.tuple #[])/\BoG O w0 w' N n (roundG n st os) []:=by
 have h8:=h.n8;have hl:=h.len;refine (dy0 (P:=fun k st' os'=>(st',os')=ticksN k (st,os)/\InvG n (t+8 - k) (dl+256) st' os') (Q:=fun j st' os'=>os'.length=j/\InvG n t (dl+j) st' os'/\drainG n os' st'=roundG n st os) h ⟨rfl,hI⟩ ?_ ?_ (fun j st os hQ=>hQ.1) ?_).mono ?_
 ·rintro k st' os' wr hk ⟨e,hI'⟩ hB
  have hI2:InvG n (t+8 - (k+1)+1) (dl+256) st' os':=hI'.less G (Nat.le_refl _);refine (dv2 hB hk fun x hx=>?_).mono ?_
  ·obtain ⟨a,b,-⟩:=hI2.run k hk x hx
   exact ⟨a,G⟩
  ·rintro e1 w' ⟨rfl,hB'⟩
   refine ⟨_,_,_,rfl,⟨?_,hI2.tick hk⟩,hB'⟩;show _=tick1 (ticksN k (st,os)) k;rw [<- e];rfl
 ·rintro st' os' ⟨e,hI'⟩
  have hl':os'.length<=256:=by
   have:=be7 (x:=(st,os)) hl n;rw [<- e] at this;exact this
  refine ⟨rfl,hI'.less G G,?_⟩;unfold roundG;rw [<- e]
 ·rintro j st' os' wr ⟨hj,hI',hd⟩ hB
  cases os' with
  |nil=>cases hj
  |cons g r=>
   have hgs:=hI'.dgs g List.mem_cons_self;refine (bj6 hB (k:=0) sn 1024 hgs.1 (by have:=hgs.2; show g.2.2.length<=5000; omega) (fun i x hi hx=>by obtain ⟨-,-,c⟩:=hI'.run i hi x hx; omega)).mono ?_;rintro e1 w' ⟨rfl,hB'⟩;have hI2:InvG n t (dl+j+1) st' (g::r):=hI';have hlen:r.length=j:=by simpa using hj
   exact ⟨_,_,_,rfl,⟨hlen,(hI2.recv hgs.1 1024).list fun x hx=>hI'.dgs x (List.mem_cons_of_mem _ hx),hd⟩,hB'⟩
 ·rintro e w' ⟨rfl,st',os',⟨hj,hI',hd⟩,hB⟩
  have:os'=[]:=List.eq_nil_of_length_eq_zero hj;subst this;exact ⟨rfl,by rw [<- hd]; exact hB⟩
end
end
end Go.Proofs.YtafkfnodcemefaaGreat
