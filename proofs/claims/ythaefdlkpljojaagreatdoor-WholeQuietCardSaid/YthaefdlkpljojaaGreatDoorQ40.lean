import Derived.Test.YthaefdlkpljojaaGreatDoorQ30
import Derived.Test.YthaefdlkpljojaaGreatDoorQ02
set_option maxHeartbeats 8000000
namespace Go.Proofs.YthaefdlkpljojaaGreatDoor
open Go.RowKit Go.Maps Rm Fm Sb
def way1 (p:Pk) (r:Rt):Ways:=putR (fun _=>none) ⟨p.a,p.n,r.fr⟩ r
section
variable {p:Pk} {d id fr k s m:Nat} {c:Nat→Int} {now e:Int}
theorem way1_at (p:Pk) (r:Rt) (z:Rk):way1 p r z=if z=⟨p.a,p.n,r.fr⟩ then some r else none:=rfl
theorem way1_less {r:Rt} {t:Int} (h:t<r.exp):lessF (way1 p r) (deadAt (way1 p r) t)=way1 p r:=by
 funext z
 unfold lessF deadAt
 rw [way1_at]
 by_cases hz:z=⟨p.a,p.n,r.fr⟩
 ·rw [if_pos hz]
  rw [if_neg]
  simp
  omega
 ·rw [if_neg hz]
  simp
theorem way1_ticks {r:Rt} (h:now+1<r.exp) {M2:Mr} (ht:Ticks (Ms d id c (way1 p r) now) M2):M2=Ms d id c (way1 p r) (now+1):=by
 rcases ht with ⟨⟨q,-,hq⟩,-⟩|⟨-,rfl⟩
 ·cases hq
 ·unfold Mr.aged Ms
  simp only [way1_less h]
theorem way1_subj {r:Rt} (hp:p.ok) (hr:0≤r.fr∧r.fr≤8) {rs:List En} (h:Subj (Ms d id c (way1 p r) now) rs):rs=[⟨p.a,p.n,false⟩]:=by
 refine h.way (a:=p.a) (len:=p.n) (fun q ha=>?_) (fun q=>⟨fun hw=>?_,fun hq=>?_⟩)
 ·rcases ha with ⟨_,h⟩|⟨_,_,h⟩
  ·cases h
  ·cases h
 ·obtain ⟨f,-,hf⟩:=hw
  have hf':(way1 p r ⟨q.a,q.n,f⟩).isSome=true:=hf
  rw [way1_at] at hf'
  by_cases hz:(⟨q.a,q.n,f⟩:Rk)=⟨p.a,p.n,r.fr⟩
  ·injection hz with h1 h2 h3
   cases q
   simp only at h1 h2
   rw [h1,h2]
  ·rw [if_neg hz] at hf'
   cases hf'
 ·subst hq
  refine ⟨r.fr,⟨hp.1,hp.2,by show (-9223372036854775808:Int)≤r.fr; omega,by show r.fr≤9223372036854775807; omega⟩,?_⟩
  show (way1 p r ⟨p.a,p.n,r.fr⟩).isSome=true
  rw [way1_at,if_pos rfl]
  rfl
theorem way1_few {r:Rt}:Few (Ms d id c (way1 p r) now) 0 1:=⟨[],[],[⟨p.a,p.n,r.fr⟩],by simp,by simp,(fun q h=>by simp [Ms,sm0] at h),(fun q h=>by simp [Ms,sm0] at h),(fun q h=>by
 have h':(way1 p r q).isSome=true:=h
 rw [way1_at] at h'
 by_cases hz:q=⟨p.a,p.n,r.fr⟩
 ·rw [hz]; simp
 ·rw [if_neg hz] at h'; cases h')⟩
theorem way1_good {r:Rt} (hp:Am.right p.a p.n=true) (h0:r.id≠0) (hs:r.seq≤1073741824):(Ms d id c (way1 p r) now).Good:=fun q r' h=>by
 have h':way1 p r q=some r':=h
 rw [way1_at] at h'
 by_cases hz:q=⟨p.a,p.n,r.fr⟩
 ·rw [if_pos hz] at h'
  injection h' with h'
  subst h' hz
  exact ⟨rfl,hp,h0,hs⟩
 ·rw [if_neg hz] at h'; cases h'
theorem way1_pick {z:Int} (hk:fr<8) (hc:c fr=z) (h1:1≤z) (h2:z≤1000) (hm:m≤8000):(Ms d id c (way1 p ⟨fr,k,s,m,e⟩) now).pick p.a p.n=some ⟨fr,k,s,m,e⟩∧far (m:Int) (cAt c (fr:Int))=(m:Int)+z:=by
 have hcA:cAt c (fr:Int)=z:=by
  unfold cAt
  rw [if_neg (by omega)]
  simpa using hc
 have hfar:far (m:Int) z=(m:Int)+z:=by
  unfold far clampCost
  (repeat' split)<;>omega
 refine ⟨?_,by rw [hcA,hfar]⟩
 have hr:(Ms d id c (way1 p ⟨fr,k,s,m,e⟩) now).reachF p.a p.n fr=some (⟨fr,k,s,m,e⟩,(m:Int)+z):=by
  unfold Mr.reachF
  rw [show (Ms d id c (way1 p ⟨fr,k,s,m,e⟩) now).f ⟨p.a,p.n,fr⟩=some ⟨fr,k,s,m,e⟩ from by show way1 p _ _=_; rw [way1_at,if_pos rfl]]
  simp only
  rw [show (Ms d id c (way1 p ⟨fr,k,s,m,e⟩) now).c=c from rfl,hcA,hfar,if_neg]
  rintro (e|e|e)
  ·omega
  ·refine e ?_
   show fea none s m=true
   unfold fea bet
   simp
  ·omega
 exact pick_one (by omega) (fun q hq=>by
  show way1 p _ _=_
  rw [way1_at,if_neg]
  intro hz
  injection hz with h1 h2 h3
  have h4:(q:Int)=(fr:Int):=h3
  omega) hr
theorem way1_tell {z:Int} {t:Nat} (hk:fr<8) (hc:c fr=z) (h1:1≤z) (h2:z≤1000) (hm:m≤8000) (ht:(m:Int)+z=(t:Int)):
  (Ms d id c (way1 p ⟨fr,k,s,m,e⟩) now).tellS [⟨p.a,p.n,false⟩]=([⟨p.a,p.n,k,s,t⟩],(Ms d id c (way1 p ⟨fr,k,s,m,e⟩) now).covered p.a p.n k s t):=by
 obtain ⟨hp,hf⟩:=way1_pick (p:=p) (d:=d) (id:=id) (now:=now) (k:=k) (s:=s) (e:=e) hk hc h1 h2 hm
 have hw:(Ms d id c (way1 p ⟨fr,k,s,m,e⟩) now).owns ⟨p.a,p.n⟩=false:=rfl
 have h:=Mr.tell1_way (e:=⟨p.a,p.n,false⟩) hw hp
 have hn:(Ms d id c (way1 p ⟨fr,k,s,m,e⟩) now).farN ⟨fr,k,s,m,e⟩=t:=by
  unfold Mr.farN
  show (far (m:Int) (cAt c (fr:Int))).toNat=t
  rw [hf,ht]
  rfl
 rw [hn] at h
 simp only [Mr.tellS,h,List.append_nil]
theorem way1_need:(Ms d id c (way1 p ⟨fr,k,s,m,e⟩) now).needS [⟨p.a,p.n,false⟩]≤1:=by
 simpa using Mr.needS_le [⟨p.a,p.n,false⟩] (Ms d id c (way1 p ⟨fr,k,s,m,e⟩) now)
def Mf (d id:Nat) (c:Nat→Int) (p:Pk) (k s t:Nat) (f:Ways) (now:Int):Mr:=⟨id,⟨0,fun _=>none,fun q=>if q=⟨p.a,p.n,k⟩ then some (s,t) else none⟩,f,c,now,0,0,d⟩
theorem way1_covered {f:Ways} {t:Nat} (ht:t<65535):(Ms d id c f now).covered p.a p.n k s t=Mf d id c p k s t f now:=by
 have h:cov ((Ms d id c f now).sm.floor ⟨p.a,p.n,k⟩) s t=false:=by
  show cov none s t=false
  unfold cov bet
  simp
  omega
 unfold Mr.covered
 rw [h,if_neg (by decide)]
 rfl
end
section
variable {O:Nat→Prop} {w0 w w':World} {N n:Nat} {st:Nat→Sv} {os:List Dg}
theorem bo_tick_ms (h:Bo O w0 w N n st os) {i:Nat} (hi:i<n) {d d' id room sp:Nat} {c:Nat→Int} {now:Int} {cc:Nat→Int} {z:Dz} (hs:st i=⟨d,some ⟨room+1,sp,Ms d' id c (fun _=>none) now⟩,cc,z⟩) (hnow:now<1000000):
  Calls Tryz.prog 83 #[.pointer (some ⟨N,0,none⟩),.int .i64 i] w fun e w'=>e= .returned (.int .i64 0)∧Bo O w0 w' N n (sets st i ⟨d,some ⟨room,sp,Ms d' id c (fun _=>none) (now+1)⟩,cc,z⟩) os:=by
 have hs':st i=⟨d,some ⟨room+0+1,sp,Ms d' id c (fun _=>none) now⟩,cc,z⟩:=hs
 refine (bo_tick h hi hs' Ms.good hnow (by show 0≤1073741824; omega) (p:=0) (r:=0) (fun M2 h2=>by rw [Ms.ticks h2]; exact Ms.few) (by omega) (Mr.advN_le1 _) (fun M2 rs h2 h3=>by
  rw [Ms.ticks h2] at h3
  rw [Ms.subj h3]
  exact Nat.le_refl _)).mono ?_
 rintro e w' ⟨rfl,M2,rs,h2,h3,hB⟩
 have e1:=Ms.ticks h2
 subst e1
 have e2:=Ms.subj h3
 subst e2
 refine ⟨rfl,?_⟩
 have e3:sendAll i os (sends (Ms d' id c (fun _=>none) now).c (T.Tm.encode ((Ms d' id c (fun _=>none) (now+1)).tellS []).1) 8)=os:=by
  show sendAll i os (sends _ (T.Tm.encode []) 8)=os
  rw [encode_nil,sends_nil]
  rfl
 rw [e3] at hB
 exact hB
theorem bo_tick_mo (h:Bo O w0 w N n st os) {i:Nat} (hi:i<n) {d d' id room sp m:Nat} {p:Pk} {c:Nat→Int} {now:Int} {seq:Nat} {since:Int} {lease s':Nat} {t':Int} {l':Nat} {cc:Nat→Int} {z:Dz}
  (hs:st i=⟨d,some ⟨room+m,sp,Mo1 p d' id c now seq since lease⟩,cc,z⟩) (hp:p.ok) (hnow:now<1000000) (hl:lease≤1073741824)
  (hadv:(Mo1 p d' id c (now+1) seq since lease).advance=Mo1 p d' id c (now+1) s' t' l') (hs0:s'≠0) (hm:(Mo1 p d' id c (now+1) seq since lease).advN≤m):
  Calls Tryz.prog 83 #[.pointer (some ⟨N,0,none⟩),.int .i64 i] w fun e w'=>e= .returned (.int .i64 0)∧Bo O w0 w' N n (sets st i ⟨d,some ⟨room,sp,Mo1 p d' id c (now+1) s' t' l'⟩,cc,z⟩) (sendAll i os (sends c (T.Tm.encode [⟨p.a,p.n,id,s',0⟩]) 8)):=by
 have hT:∀ M2,Ticks (Mo1 p d' id c now seq since lease) M2→M2=Mo1 p d' id c (now+1) s' t' l':=fun M2 h=>by
  rcases h with ⟨-,rfl⟩|⟨h,-⟩
  ·rw [Mo1.aged,hadv]
  ·rw [Mo1.aged] at h
   exact absurd (Mo1.any hp) h
 have hs':st i=⟨d,some ⟨room+0+m,sp,Mo1 p d' id c now seq since lease⟩,cc,z⟩:=hs
 refine (bo_tick h hi hs' Mo1.good hnow hl (p:=1) (r:=0) (fun M2 h2=>by rw [hT M2 h2]; exact Mo1.few) (by omega) (by rw [Mo1.aged]; exact hm) (fun M2 rs h2 h3=>by
  rw [hT M2 h2] at h3 ⊢
  rw [Mo1.subj hp h3,Mo1.need]
  exact Nat.le_refl _)).mono ?_
 rintro e w' ⟨rfl,M2,rs,h2,h3,hB⟩
 have e1:=hT M2 h2
 subst e1
 have e2:=Mo1.subj hp h3
 subst e2
 rw [Mo1.tell hs0] at hB
 exact ⟨rfl,hB⟩
theorem bo_own_ms (h:Bo O w0 w N n st os) {i:Nat} (hi:i<n) {d d' id room sp:Nat} {c:Nat→Int} {now:Int} {cc:Nat→Int} {z:Dz} (hs:st i=⟨d,some ⟨room+1,sp,Ms d' id c (fun _=>none) now⟩,cc,z⟩) {k:Nat} (hk:k≤7):
  Calls Tryz.prog 82 #[.pointer (some ⟨N,0,none⟩),.int .i64 i,.agg #[.int .u32 ((167772160+k*65536:Nat):Int),.int .i64 16],.bool true] w fun e w'=>e= .returned (.int .i64 0)∧
   Bo O w0 w' N n (sets st i ⟨d,some ⟨room,sp,Mo1 (pz k) d' id c now 0 0 0⟩,cc,z⟩) os:=by
 have:=bo_own h hi hs (pz_ok hk) (pz_right hk) (pz_rt hk) rfl (fun xs _ hx=>by
  rcases xs with _|⟨x,r⟩
  ·simp
  ·have:=((hx x).1 (List.mem_cons_self)).2
   simp [Ms,sm0] at this)
 refine this.mono fun e w' ⟨he,hb⟩=>⟨he,?_⟩
 rw [← own_ms (pz k) d' id c now]
 exact hb
theorem bo_tick_way (h:Bo O w0 w N n st os) {i:Nat} (hi:i<n) {d d' id room sp fr k s m t:Nat} {p:Pk} {c:Nat→Int} {now ex x:Int} {cc:Nat→Int} {z:Dz}
  (hs:st i=⟨d,some ⟨room+2,sp,Ms d' id c (way1 p ⟨fr,k,s,m,ex⟩) now⟩,cc,z⟩) (hp:p.ok) (hpr:Am.right p.a p.n=true) (hnow:now<1000000) (hex:now+1<ex) (hk:fr<8) (hc:c fr=x) (h1:1≤x) (h2:x≤1000) (hm:m≤8000) (ht:(m:Int)+x=(t:Int)) (hk0:k≠0) (hsq:s≤1073741824):
  Calls Tryz.prog 83 #[.pointer (some ⟨N,0,none⟩),.int .i64 i] w fun e w'=>e= .returned (.int .i64 0)∧Bo O w0 w' N n (sets st i ⟨d,some ⟨room,sp,Mf d' id c p k s t (way1 p ⟨fr,k,s,m,ex⟩) (now+1)⟩,cc,z⟩) (sendAll i os (sends c (T.Tm.encode [⟨p.a,p.n,k,s,t⟩]) 8)):=by
 have hs':st i=⟨d,some ⟨room+1+1,sp,Ms d' id c (way1 p ⟨fr,k,s,m,ex⟩) now⟩,cc,z⟩:=hs
 refine (bo_tick h hi hs' (way1_good hpr hk0 hsq) hnow (by show 0≤1073741824; omega) (p:=0) (r:=1) (fun M2 h2=>by rw [way1_ticks hex h2]; exact way1_few) (by omega) (Mr.advN_le1 _) (fun M2 rs h2 h3=>by
  rw [way1_ticks hex h2] at h3 ⊢
  rw [way1_subj hp (by show 0≤(fr:Int)∧(fr:Int)≤8; omega) h3]
  exact way1_need)).mono ?_
 rintro y w' ⟨rfl,M2,rs,h3,h4,hB⟩
 have e1:=way1_ticks hex h3
 subst e1
 have e2:=way1_subj hp (by show 0≤(fr:Int)∧(fr:Int)≤8; omega) h4
 subst e2
 rw [way1_tell hk hc h1 h2 hm ht,way1_covered (by omega)] at hB
 exact ⟨rfl,hB⟩
end
def pgm (p:Pk) (k s m:Nat):List Nat:=T.Tm.page (T.Tm.parts ⟨p.a,p.n,k,s,m⟩ 0)
section
variable {p:Pk} {k s m:Nat}
theorem far_right (hp:Am.right p.a p.n=true) (hi:k≠0) (hs:s≤1073741824) (hm:m<65535):T.Tm.right ⟨p.a,p.n,k,s,m⟩=true:=by
 unfold T.Tm.right
 have h1:¬ m=65535:=by omega
 simp [hi,hs,hp,h1]
theorem far_fits (hp:p.ok) (hi:k<4294967296) (hs:s≤1073741824) (hm:m<65535):T.Tm.Up.Fits ⟨p.a,p.n,k,s,m⟩:=⟨hp.1,hp.2.1,hp.2.2,hi,by show s<4294967296; omega,by show m<65536; omega⟩
theorem pgm_enc (hp:Am.right p.a p.n=true) (hi:k≠0) (hs:s≤1073741824) (hm:m<65535):T.Tm.encode [⟨p.a,p.n,k,s,m⟩]=[pgm p k s m]:=encode_one (far_right hp hi hs hm)
theorem pgm_dec (hp:Am.right p.a p.n=true) (hk:p.ok) (hi:k≠0) (hi2:k<4294967296) (hs:s≤1073741824) (hm:m<65535):T.Tm.decode (pgm p k s m)=some [⟨p.a,p.n,k,s,m⟩]:=decode_one (far_right hp hi hs hm) (far_fits hk hi2 hs hm)
theorem pgm_fine (hp:Am.right p.a p.n=true) (hi:k≠0) (hs:s≤1073741824) (hm:m<65535):4<(pgm p k s m).length∧(pgm p k s m).length≤1024∧∀ c∈pgm p k s m,c<256:=by
 have h:=T.Tm.encode_fine [⟨p.a,p.n,k,s,m⟩] (pgm p k s m) (by rw [pgm_enc hp hi hs hm]; simp)
 exact ⟨h.1,h.2.1,h.2.2.1⟩
end
section
variable {O:Nat→Prop} {w0 w:World} {N n:Nat} {st:Nat→Sv} {os:List Dg}
theorem bo_deliver_pgm (h:Bo O w0 w N n st os) {j:Nat} (hj:j<os.length) {fr i:Nat} {p:Pk} {k s m:Nat} (ho:os[j]=(fr,i,pgm p k s m)) (hi:i<n) {d room sp:Nat} {M:Mr} {c:Nat→Int} {z:Dz} (hs:st i=⟨d,some ⟨room,sp+1000,M⟩,c,z⟩)
  (hp:Am.right p.a p.n=true) (hpk:p.ok) (hid:k≠0) (hid2:k<4294967296) (hse:s≤1073741824) (hm:m<65535) (hc:cAt M.c fr≠0):
  Calls Tryz.prog 84 #[.pointer (some ⟨N,0,none⟩),.int .i64 j,.int .i64 1024] w fun e w'=>e= .returned (.int .i64 0)∧Bo O w0 w' N n (sets st i ⟨d,some ⟨room,sp,M.hear fr p.a p.n k s m⟩,c,z⟩) (os.eraseIdx j):=by
 have hf:=pgm_fine hp hid hse hm
 have hd:=pgm_dec hp hpk hid hid2 hse hm
 have hD:=bo_deliver h hj ho hi hs (most:=1024) (m:=(pgm p k s m).length) (by omega) hf.2.2 (by omega) (fun us e=>by
  rw [List.take_length,hd] at e
  cases e
  simp)
 rw [List.take_length] at hD
 have e:M.receive (fr:Int) (pgm p k s m)=M.hear fr p.a p.n k s m:=by
  unfold Mr.receive
  rw [if_neg hc,hd]
  rfl
 rw [e] at hD
 exact hD
end
def three (a b c:Sv):Nat→Sv:=fun i=>if i=0 then a else if i=1 then b else c
theorem Bo.three {O:Nat→Prop} {w0 w:World} {N:Nat} {st:Nat→Sv} {os:List Dg} (h:Bo O w0 w N 3 st os) {a b c:Sv} (ha:st 0=a) (hb:st 1=b) (hc:st 2=c):Bo O w0 w N 3 (three a b c) os:=
 h.same fun i hi=>by
  have:i=0∨i=1∨i=2:=by omega
  rcases this with rfl|rfl|rfl
  ·exact ha
  ·exact hb
  ·exact hc
def c102:Nat→Int:=fun i=>if i=2 then 5 else cL 0 4 i
theorem sends_102 (b:List Nat):sends c102 [b] 8=[(0,b),(2,b)]:=by
 simp [sends,c102,cL,List.range_succ]
def z63 (i:Nat):Dz:=⟨i+1,63,sm0⟩
def al0 (d:Nat→Nat) (room sp:Nat) (f:Ways) (now:Int):Sv:=svS (d 0) 1 room sp (cL 1 4) f now (z63 0)
def al1 (d:Nat→Nat) (room sp:Nat) (f:Ways) (now:Int):Sv:=svS (d 1) 2 room sp c102 f now (z63 1)
def al2 (d:Nat→Nat) (room sp:Nat) (now:Int) (seq:Nat) (since:Int) (lease:Nat):Sv:=svO (pz 2) (d 2) 3 room sp (cL 1 5) now seq since lease (z63 2)
def fN:Ways:=fun _=>none
def al1P (d:Nat→Nat):Nat→(Nat→Sv)→List Dg→Prop
 |0,st,os=>st=three (al0 d 63 90000 fN 0) (al1 d 63 90000 fN 0) (al2 d 62 90000 0 0 0 0)∧os=[]
 |1,st,os=>st=three (al0 d 62 90000 fN 1) (al1 d 63 90000 fN 0) (al2 d 62 90000 0 0 0 0)∧os=[]
 |2,st,os=>st=three (al0 d 62 90000 fN 1) (al1 d 62 90000 fN 1) (al2 d 62 90000 0 0 0 0)∧os=[]
 |_,st,os=>st=three (al0 d 62 90000 fN 1) (al1 d 62 90000 fN 1) (al2 d 61 90000 1 1 1 8)∧os=[(2,1,pgm (pz 2) 3 1 0)]
def al1Q (d:Nat→Nat):Nat→(Nat→Sv)→List Dg→Prop
 |0,st,os=>st=three (al0 d 62 90000 fN 1) (al1 d 62 89000 (way1 (pz 2) ⟨2,3,1,0,4⟩) 1) (al2 d 61 90000 1 1 1 8)∧os=[]
 |1,st,os=>al1P d 3 st os
 |_,_,_=>False
section
variable {O:Nat→Prop} {w0 w:World} {N:Nat} {d:Nat→Nat}
theorem al_round1 (h:Bo O w0 w N 3 (three (al0 d 63 90000 fN 0) (al1 d 63 90000 fN 0) (al2 d 62 90000 0 0 0 0)) []):
  Calls Tryz.prog 87 #[.pointer (some ⟨N,0,none⟩)] w fun e w'=>e= .returned (.tuple #[])∧
   Bo O w0 w' N 3 (three (al0 d 62 90000 fN 1) (al1 d 62 89000 (way1 (pz 2) ⟨2,3,1,0,4⟩) 1) (al2 d 61 90000 1 1 1 8)) []:=by
 refine (bo_round (P:=al1P d) (Q:=al1Q d) h ⟨rfl,rfl⟩ (fun k st os wr hk hP hB=>?_) (fun st os hP=>?_) (fun j st os hQ=>?_) (fun j st os wr hQ hB=>?_)).mono ?_
 ·have:k=0∨k=1∨k=2:=by omega
  rcases this with rfl|rfl|rfl
  ·obtain ⟨rfl,rfl⟩:=hP
   refine (bo_tick_ms hB (i:=0) (by omega) (room:=62) rfl (by decide)).mono ?_
   rintro e w' ⟨rfl,h2⟩
   exact ⟨0,_,_,rfl,⟨rfl,rfl⟩,h2.three rfl rfl rfl⟩
  ·obtain ⟨rfl,rfl⟩:=hP
   refine (bo_tick_ms hB (i:=1) (by omega) (room:=62) rfl (by decide)).mono ?_
   rintro e w' ⟨rfl,h2⟩
   exact ⟨0,_,_,rfl,⟨rfl,rfl⟩,h2.three rfl rfl rfl⟩
  ·obtain ⟨rfl,rfl⟩:=hP
   refine (bo_tick_mo hB (i:=2) (by omega) (room:=61) (m:=1) rfl (pz_ok (by omega)) (by decide) (by omega) Mo1.first (by omega) (Mr.advN_le1 _)).mono ?_
   rintro e w' ⟨rfl,h2⟩
   rw [pgm_enc (pz_right (by omega)) (by omega) (by omega) (by omega),sends_cL (by omega) (by decide)] at h2
   exact ⟨0,_,_,rfl,⟨rfl,rfl⟩,h2.three rfl rfl rfl⟩
 ·obtain ⟨rfl,rfl⟩:=hP
  exact ⟨rfl,rfl⟩
 ·match j,hQ with
  |0,hQ=>rw [hQ.2]; rfl
  |1,hQ=>obtain ⟨-,rfl⟩:=hQ; rfl
 ·match j,hQ with
  |0,hQ=>
   obtain ⟨rfl,rfl⟩:=hQ
   refine (bo_deliver_pgm hB (j:=0) (by simp) (fr:=2) (i:=1) rfl (by omega) (sp:=89000) rfl (pz_right (by omega)) (pz_ok (by omega)) (by omega) (by omega) (by omega) (by omega) (by show cAt c102 2≠0; decide)).mono ?_
   rintro e w' ⟨rfl,h3⟩
   rw [show (Ms (d 1) 2 c102 fN 1).hear 2 (pz 2).a (pz 2).n 3 1 0=_ from hear_ms (by omega)] at h3
   exact ⟨0,_,_,rfl,⟨rfl,rfl⟩,h3.three rfl rfl rfl⟩
 ·rintro e w' ⟨rfl,st',os',⟨rfl,rfl⟩,h2⟩
  exact ⟨rfl,h2⟩
end
theorem hear_far {d id:Nat} {now':Int} {p:Pk} {k fr s m:Nat} {c:Nat→Int} {f:Ways} (hid:k≠id) (hm:m≠65535):
  ((Ms d id c f now').hear fr p.a p.n k s m)=Ms d id c (putR f ⟨p.a,p.n,fr⟩ ⟨fr,k,s,m,now'+3⟩) now':=by
 unfold Mr.hear
 have ho:(Ms d id c f now').owns ⟨p.a,p.n⟩=false:=rfl
 rw [if_neg (by rw [ho]; exact fun e=>e.elim (fun x=>Bool.noConfusion x) hid),if_neg hm]
 refine if_pos ?_
 show fea none s m=true
 unfold fea bet
 simp
theorem hear_own {p:Pk} {d id:Nat} {c:Nat→Int} {now:Int} {seq:Nat} {since:Int} {lease fr k s m:Nat}:(Mo1 p d id c now seq since lease).hear fr p.a p.n k s m=Mo1 p d id c now seq since lease:=by
 unfold Mr.hear
 exact if_pos (.inl Mo1.owns_ten)
def al1f (d:Nat→Nat) (room sp:Nat) (f:Ways) (now:Int):Sv:=⟨d 1,some ⟨room,sp,Mf (d 1) 2 c102 (pz 2) 3 1 5 f now⟩,c102,z63 1⟩
def w2 (e:Int):Ways:=way1 (pz 2) ⟨2,3,1,0,e⟩
def w0f:Ways:=way1 (pz 2) ⟨1,3,1,5,5⟩
theorem al_hear (d:Nat→Nat):(Mf (d 1) 2 c102 (pz 2) 3 1 5 (w2 4) 2).hear 2 (pz 2).a (pz 2).n 3 1 0=Mf (d 1) 2 c102 (pz 2) 3 1 5 (w2 5) 2:=by
 have e:putR (w2 4) ⟨(pz 2).a,(pz 2).n,2⟩ ⟨2,3,1,0,5⟩=w2 5:=by
  funext z
  show (if z=_ then _ else way1 _ _ z)=way1 _ _ z
  rw [way1_at,way1_at]
  by_cases h:z=⟨(pz 2).a,(pz 2).n,2⟩
  ·rw [if_pos h]; exact (if_pos h).symm
  ·rw [if_neg h]; exact (if_neg h).trans (if_neg h).symm
 unfold Mr.hear
 have ho:(Mf (d 1) 2 c102 (pz 2) 3 1 5 (w2 4) 2).owns ⟨(pz 2).a,(pz 2).n⟩=false:=rfl
 have hi:¬ 3=(Mf (d 1) 2 c102 (pz 2) 3 1 5 (w2 4) 2).id:=by show ¬ 3=2; decide
 rw [if_neg (by rw [ho]; exact fun e=>e.elim (fun x=>Bool.noConfusion x) hi),if_neg (by decide)]
 refine (if_pos ?_).trans ?_
 ·show fea (if (⟨(pz 2).a,(pz 2).n,3⟩:Ky)=⟨(pz 2).a,(pz 2).n,3⟩ then some (1,5) else none) 1 0=true
  rw [if_pos rfl]
  decide
 ·show (⟨2,_,putR (w2 4) ⟨(pz 2).a,(pz 2).n,2⟩ ⟨2,3,1,0,5⟩,_,_,_,_,_⟩:Mr)=_
  rw [e]
  rfl
def al2P (d:Nat→Nat):Nat→(Nat→Sv)→List Dg→Prop
 |0,st,os=>st=three (al0 d 62 90000 fN 1) (al1 d 62 89000 (w2 4) 1) (al2 d 61 90000 1 1 1 8)∧os=[]
 |1,st,os=>st=three (al0 d 61 90000 fN 2) (al1 d 62 89000 (w2 4) 1) (al2 d 61 90000 1 1 1 8)∧os=[]
 |2,st,os=>st=three (al0 d 61 90000 fN 2) (al1f d 60 89000 (w2 4) 2) (al2 d 61 90000 1 1 1 8)∧os=[(1,0,pgm (pz 2) 3 1 5),(1,2,pgm (pz 2) 3 1 5)]
 |_,st,os=>st=three (al0 d 61 90000 fN 2) (al1f d 60 89000 (w2 4) 2) (al2 d 61 90000 2 1 1 8)∧os=[(1,0,pgm (pz 2) 3 1 5),(1,2,pgm (pz 2) 3 1 5),(2,1,pgm (pz 2) 3 1 0)]
def al2Q (d:Nat→Nat):Nat→(Nat→Sv)→List Dg→Prop
 |0,st,os=>st=three (al0 d 61 89000 w0f 2) (al1f d 60 88000 (w2 5) 2) (al2 d 61 89000 2 1 1 8)∧os=[]
 |1,st,os=>st=three (al0 d 61 89000 w0f 2) (al1f d 60 89000 (w2 4) 2) (al2 d 61 89000 2 1 1 8)∧os=[(2,1,pgm (pz 2) 3 1 0)]
 |2,st,os=>st=three (al0 d 61 89000 w0f 2) (al1f d 60 89000 (w2 4) 2) (al2 d 61 90000 2 1 1 8)∧os=[(1,2,pgm (pz 2) 3 1 5),(2,1,pgm (pz 2) 3 1 0)]
 |3,st,os=>al2P d 3 st os
 |_,_,_=>False
section
variable {O:Nat→Prop} {w0 w:World} {N:Nat} {d:Nat→Nat}
theorem al_round2 (h:Bo O w0 w N 3 (three (al0 d 62 90000 fN 1) (al1 d 62 89000 (w2 4) 1) (al2 d 61 90000 1 1 1 8)) []):
  Calls Tryz.prog 87 #[.pointer (some ⟨N,0,none⟩)] w fun e w'=>e= .returned (.tuple #[])∧
   Bo O w0 w' N 3 (three (al0 d 61 89000 w0f 2) (al1f d 60 88000 (w2 5) 2) (al2 d 61 89000 2 1 1 8)) []:=by
 refine (bo_round (P:=al2P d) (Q:=al2Q d) h ⟨rfl,rfl⟩ (fun k st os wr hk hP hB=>?_) (fun st os hP=>?_) (fun j st os hQ=>?_) (fun j st os wr hQ hB=>?_)).mono ?_
 ·have:k=0∨k=1∨k=2:=by omega
  rcases this with rfl|rfl|rfl
  ·obtain ⟨rfl,rfl⟩:=hP
   refine (bo_tick_ms hB (i:=0) (by omega) (room:=61) rfl (by decide)).mono ?_
   rintro e w' ⟨rfl,h2⟩
   exact ⟨0,_,_,rfl,⟨rfl,rfl⟩,h2.three rfl rfl rfl⟩
  ·obtain ⟨rfl,rfl⟩:=hP
   refine (bo_tick_way hB (i:=1) (by omega) (room:=60) (fr:=2) (k:=3) (s:=1) (m:=0) (t:=5) (ex:=4) (x:=5) (p:=pz 2) (now:=1) (c:=c102) (d':=d 1) (id:=2) (sp:=89000) rfl (pz_ok (by omega)) (pz_right (by omega)) (by decide) (by decide) (by omega) rfl (by decide) (by decide) (by omega) rfl (by omega) (by omega)).mono ?_
   rintro e w' ⟨rfl,h2⟩
   rw [pgm_enc (pz_right (by omega)) (by omega) (by omega) (by omega),sends_102] at h2
   exact ⟨0,_,_,rfl,⟨rfl,rfl⟩,h2.three rfl rfl rfl⟩
  ·obtain ⟨rfl,rfl⟩:=hP
   refine (bo_tick_mo hB (i:=2) (by omega) (room:=61) (m:=0) rfl (pz_ok (by omega)) (by decide) (by omega) (Mo1.next_big ⟨by omega,by decide⟩) (by omega) (Nat.le_of_eq (Mo1.advN_zero ⟨by omega,by decide⟩))).mono ?_
   rintro e w' ⟨rfl,h2⟩
   rw [pgm_enc (pz_right (by omega)) (by omega) (by omega) (by omega),sends_cL (by omega) (by decide)] at h2
   exact ⟨0,_,_,rfl,⟨rfl,rfl⟩,h2.three rfl rfl rfl⟩
 ·obtain ⟨rfl,rfl⟩:=hP
  exact ⟨rfl,rfl⟩
 ·match j,hQ with
  |0,hQ=>rw [hQ.2]; rfl
  |1,hQ=>rw [hQ.2]; rfl
  |2,hQ=>rw [hQ.2]; rfl
  |3,hQ=>obtain ⟨-,rfl⟩:=hQ; rfl
 ·match j,hQ with
  |2,hQ=>
   obtain ⟨rfl,rfl⟩:=hQ
   refine (bo_deliver_pgm hB (j:=0) (by simp) (fr:=1) (i:=0) rfl (by omega) (sp:=89000) rfl (pz_right (by omega)) (pz_ok (by omega)) (by omega) (by omega) (by omega) (by omega) (by show cAt (cL 1 4) 1≠0; decide)).mono ?_
   rintro e w' ⟨rfl,h3⟩
   rw [show (Ms (d 0) 1 (cL 1 4) fN 2).hear 1 (pz 2).a (pz 2).n 3 1 5=_ from hear_far (by omega) (by omega)] at h3
   exact ⟨0,_,_,rfl,⟨rfl,rfl⟩,h3.three rfl rfl rfl⟩
  |1,hQ=>
   obtain ⟨rfl,rfl⟩:=hQ
   refine (bo_deliver_pgm hB (j:=0) (by simp) (fr:=1) (i:=2) rfl (by omega) (sp:=89000) rfl (pz_right (by omega)) (pz_ok (by omega)) (by omega) (by omega) (by omega) (by omega) (by show cAt (cL 1 5) 1≠0; decide)).mono ?_
   rintro e w' ⟨rfl,h3⟩
   rw [show (Mo1 (pz 2) (d 2) 3 (cL 1 5) 2 1 1 8).hear 1 (pz 2).a (pz 2).n 3 1 5=_ from hear_own] at h3
   exact ⟨0,_,_,rfl,⟨rfl,rfl⟩,h3.three rfl rfl rfl⟩
  |0,hQ=>
   obtain ⟨rfl,rfl⟩:=hQ
   refine (bo_deliver_pgm hB (j:=0) (by simp) (fr:=2) (i:=1) rfl (by omega) (sp:=88000) rfl (pz_right (by omega)) (pz_ok (by omega)) (by omega) (by omega) (by omega) (by omega) (by show cAt c102 2≠0; decide)).mono ?_
   rintro e w' ⟨rfl,h3⟩
   rw [al_hear] at h3
   exact ⟨0,_,_,rfl,⟨rfl,rfl⟩,h3.three rfl rfl rfl⟩
 ·rintro e w' ⟨rfl,st',os',⟨rfl,rfl⟩,h2⟩
  exact ⟨rfl,h2⟩
end
theorem al_dist0 (d:Nat→Nat):(Ms (d 0) 1 (cL 1 4) w0f 2).dist (pz 2).a (pz 2).n=(9,true):=by
 obtain ⟨hp,hf⟩:=way1_pick (p:=pz 2) (d:=d 0) (id:=1) (now:=2) (k:=3) (s:=1) (e:=5) (fr:=1) (m:=5) (c:=cL 1 4) (z:=4) (by omega) rfl (by omega) (by omega) (by omega)
 have hw:(Ms (d 0) 1 (cL 1 4) w0f 2).owns ⟨(pz 2).a,(pz 2).n⟩=false:=rfl
 unfold Mr.dist
 rw [hw,show (Ms (d 0) 1 (cL 1 4) w0f 2).pick (pz 2).a (pz 2).n=some ⟨1,3,1,5,5⟩ from hp]
 show (far ((5:Nat):Int) (cAt (cL 1 4) ((1:Nat):Int)),true)=(9,true)
 rw [hf]
 rfl
theorem al_dist1 (d:Nat→Nat):(Mf (d 1) 2 c102 (pz 2) 3 1 5 (w2 5) 2).dist (pz 2).a (pz 2).n=(5,true):=by
 have hr:(Mf (d 1) 2 c102 (pz 2) 3 1 5 (w2 5) 2).reachF (pz 2).a (pz 2).n 2=some (⟨2,3,1,0,5⟩,5):=by
  unfold Mr.reachF
  rw [show (Mf (d 1) 2 c102 (pz 2) 3 1 5 (w2 5) 2).f ⟨(pz 2).a,(pz 2).n,((2:Nat):Int)⟩=some ⟨2,3,1,0,5⟩ from by show w2 5 ⟨(pz 2).a,(pz 2).n,((2:Nat):Int)⟩=_; unfold w2; rw [way1_at]; exact if_pos rfl]
  simp only
  rw [if_neg]
  ·rfl
  ·rintro (e|e|e)
   ·revert e; show ¬ cAt c102 2<1; decide
   ·refine e ?_
    show fea (if (⟨(pz 2).a,(pz 2).n,3⟩:Ky)=⟨(pz 2).a,(pz 2).n,3⟩ then some (1,5) else none) 1 0=true
    rw [if_pos rfl]
    decide
   ·revert e; show ¬ far ((0:Nat):Int) (cAt c102 2)=65535; decide
 have hp:=pick_one (M:=Mf (d 1) 2 c102 (pz 2) 3 1 5 (w2 5) 2) (fr:=2) (by omega) (fun q hq=>by
  show w2 5 ⟨(pz 2).a,(pz 2).n,(q:Int)⟩=_
  unfold w2
  rw [way1_at,if_neg]
  intro hz
  injection hz with h1 h2 h3
  have h4:(q:Int)=2:=h3
  omega) hr
 have hw:(Mf (d 1) 2 c102 (pz 2) 3 1 5 (w2 5) 2).owns ⟨(pz 2).a,(pz 2).n⟩=false:=rfl
 unfold Mr.dist
 rw [hw,hp]
 rfl
end Go.Proofs.YthaefdlkpljojaaGreatDoor
namespace Go.Proofs.YthaefdlkpljojaaGreatDoor
open Go.RowKit Go.Maps
attribute [local go_sem] Oper.semAt_some
theorem turn_of_row {w w':World} {o:Option Nat} (h:w.grownBy w' o):Turn o.toList w w':=⟨h.os,h.tape,h.output,h.size,fun i hi hn=>h.block i hi (fun e=>hn (by rw [← e]; simp))⟩
section
variable {α:Type} {P:Program} {t e:TypeId} {cl:α→List Value} {k bytes B:Nat} {v:Value} {xs:List α} {W:World}
theorem ol_flat_one (E:Elem P t e cl k bytes):∀ (ys:List α),∀ u∈ys.flatMap cl,u.oneCell'=true
 |[],u,h=>by simp at h
 |y::r,u,h=>by
  rw [List.flatMap_cons] at h
  rcases List.mem_append.1 h with h|h
  ·exact E.one y u h
  ·exact ol_flat_one E r u h
theorem Ol.append (E:Elem P t e cl k bytes) (h:Ol e cl k B v xs W) (hB:B≤W.heap.size) {ad:Addr} {c m:Nat} (ys:List α) (hm:ys.length=m) (hy:0<m) (hx:∀ j u,(ys.flatMap cl)[j]?=some u→W.cell? (ad.add j)=some u) (hbig:xs.length+m≤1000000) (ty:TypeId):
  ∃ g' cap' W',(Builtin.append_ #[t,t] ty #[v,.slice (some ad) m c]).run P W= .ok (.slice (some ⟨g',0,none⟩) (xs.length+m) cap') W'∧Ol e cl k B (.slice (some ⟨g',0,none⟩) (xs.length+m) cap') (xs++ys) W'∧Turn v.ownBlock.toList W W'∧(v.ownBlock=some g'∨W.heap.size≤g'):=by
 obtain ⟨i0,z,hi,hz0,hz1,hz2,hz3⟩:=E.info
 obtain ⟨v',W',hr,hown,hgr,hnil,hat⟩:=run_append_own_at (P:=P) W B t ty e i0 z k bytes E.ht hi hz0 hz1 hz2 hz3 E.pos v xs.length (xs.flatMap cl) h ad m c (ys.flatMap cl) (by rw [cl_flat_len E.len ys,hm]) hx (ol_flat_one E ys)
  (by unfold maxLen; omega) (by have h1:=E.small; have:=Nat.mul_le_mul (show xs.length+m≤1000001 by omega) h1; omega) hB
 have hne:¬ v'= .slice none 0 0:=fun e=>by have:=(hnil.1 e).2; omega
 rcases hown.2 with ⟨rfl,_⟩|⟨g',cap',cur,rfl,h4,h5,h6,h7,h8,h9⟩
 ·exact absurd rfl hne
 ·have e1:(xs++ys).flatMap cl=xs.flatMap cl++ys.flatMap cl:=by simp
  have e2:(xs++ys).length=xs.length+m:=by simp [hm]
  refine ⟨g',cap',W',hr,⟨by rw [e1,e2]; exact hown.1,.inr ⟨g',cap',cur,by rw [e2],h4,h5,by rw [e2]; exact h6,h7,h8,by rw [e1,e2]; exact h9⟩⟩,turn_of_row hgr,?_⟩
  rcases hat with h|h
  ·exact .inl (h.symm.trans rfl)
  ·exact .inr (Nat.le_of_eq (by simpa [Value.ownBlock] using h.symm))
theorem Ol.cells (hk:∀ x,(cl x).length=k) (h:Ol e cl k B v xs W) (hne:0<xs.length):∃ g cap,v= .slice (some ⟨g,0,none⟩) xs.length cap∧B≤g∧∀ j u,(xs.flatMap cl)[j]?=some u→W.cell? ((⟨g,0,none⟩:Addr).add j)=some u:=by
 rcases h.2 with ⟨rfl,h0⟩|⟨g,cap,cur,rfl,h4,h5,h6,h7,h8,h9⟩
 ·omega
 ·refine ⟨g,cap,rfl,h4,fun j u hj=>?_⟩
  have h5':Blk e W g cur:=h5
  rw [Addr.add_mid,Nat.zero_add,h5'.at_]
  have hlt:=(List.getElem?_eq_some_iff.1 hj).1
  rw [cl_flat_len hk] at hlt
  rw [← h9,List.getElem?_take,if_pos hlt] at hj
  simpa using hj
theorem Ol.cut (hk:∀ x,(cl x).length=k) (h:Ol e cl k B v xs W) {m:Nat} (hm:m≤xs.length) (h0:0<m):∃ g cap,v= .slice (some ⟨g,0,none⟩) xs.length cap∧m≤cap∧Ol e cl k B (.slice (some ⟨g,0,none⟩) m cap) (xs.take m) W:=by
 rcases h.2 with ⟨rfl,h1⟩|⟨g,cap,cur,rfl,h4,h5,h6,h7,h8,h9⟩
 ·omega
 ·have hl:(xs.take m).length=m:=by rw [List.length_take]; omega
  refine ⟨g,cap,rfl,by omega,⟨by rw [cl_flat_len hk],.inr ⟨g,cap,cur,by rw [hl],h4,h5,by omega,h7,h8,?_⟩⟩⟩
  rw [hl]
  have e1:xs.flatMap cl=(xs.take m).flatMap cl++(xs.drop m).flatMap cl:=by rw [← List.flatMap_append,List.take_append_drop]
  have e2:cur.toList.take (m*k)=(cur.toList.take (xs.length*k)).take (m*k):=by
   rw [List.take_take,Nat.min_eq_left (Nat.mul_le_mul_right k hm)]
  rw [e2,h9,e1,List.take_append_of_le_length (by rw [cl_flat_len hk,hl]; exact Nat.le_refl _),List.take_of_length_le (by rw [cl_flat_len hk,hl]; exact Nat.le_refl _)]
end
theorem Lns.append {B:Nat} {w w1:World} {p:Option Addr} {n c:Nat} {ls ys:List ByteArray} {v:Value} (h:Lns B (.slice p n c) ls w1) (hn:ls.length=n) (hb:Below B w w1) (hB:B≤w1.heap.size) {B':Nat} (hv:Lns B' v ys w1) (hy:0<ys.length) (hbig:n+ys.length≤100000):
  ∃ pv cv,v= .slice pv ys.length cv∧∃ g' cap' W',(Builtin.append_ #[24,24] 24 #[.slice p n c,.slice pv ys.length cv]).run Tryz.prog w1= .ok (.slice (some ⟨g',0,none⟩) (n+ys.length) cap') W'∧
   Lns B (.slice (some ⟨g',0,none⟩) (n+ys.length) cap') (ls++ys) W'∧Below B w W'∧Turn (Value.slice p n c).ownBlock.toList w1 W'∧((Value.slice p n c).ownBlock=some g'∨w1.heap.size≤g'):=by
 subst hn
 obtain ⟨g,cv,rfl,-,hc⟩:=Ol.cells elemStr.len hv hy
 obtain ⟨g',cap',W',hrun,hO,hT,hat⟩:=Ol.append elemStr h hB (c:=cv) ys rfl hy hc (by omega) 24
 exact ⟨_,_,rfl,g',cap',W',hrun,hO,own_below h hb hB hT,hT,hat⟩
structure FbAt (w:World) (g T n:Nat) (fe:Nat→List Fe):Prop where
 ex:∃ C,Blk 81 w g C∧C.size=n∧∀ j,j<n→∃ v,C[j]?=some v∧Lf (g+1) v (fe j) w∧∀ b,v.ownBlock=some b→b<T
 lt:g<T
theorem FbL.at {w wr:World} {g n:Nat} {fe:Nat→List Fe} (h:FbL w g n fe n wr):FbAt wr g wr.heap.size n fe:=by
 obtain ⟨C,h1,h2,h3,-⟩:=h.ex
 exact ⟨⟨C,h1,h2,fun j hj=>by obtain ⟨v,q1,q2⟩:=h3 j hj; exact ⟨v,q1,q2,fun b e=>(q2.lt e).1⟩⟩,h1.lt⟩
theorem FbAt.turn {w w':World} {g T n:Nat} {fe:Nat→List Fe} (h:FbAt w g T n fe) {L:List Nat} (t:Turn L w w') (hL:∀ x,x∈L→x<g∨T≤x):FbAt w' g T n fe:=by
 obtain ⟨C,h1,h2,h3⟩:=h.ex
 have hlt:=h.lt
 refine ⟨⟨C,h1.turn t (fun hm=>by rcases hL _ hm with e|e<;>omega),h2,fun j hj=>?_⟩,h.lt⟩
 obtain ⟨v,q1,q2,q3⟩:=h3 j hj
 exact ⟨v,q1,q2.turn t (fun b e hm=>by
  have a1:=(q2.lt e).2
  have a2:=q3 b e
  rcases hL _ hm with e|e<;>omega),q3⟩
theorem FbAt.held {w w':World} {g T n:Nat} {fe:Nat→List Fe} (h:FbAt w g T n fe) (hb:Below w.heap.size w w'):FbAt w' g T n fe:=h.turn (L:=[]) (.of_below [] hb) (fun x hx=>by cases hx)
theorem FbAt.row {w:World} {g T n:Nat} {fe:Nat→List Fe} (h:FbAt w g T n fe) {j:Nat} (hj:j<n):∃ p cap,w.cell? ⟨g,j,none⟩=some (.slice p (fe j).length cap)∧Lf (g+1) (.slice p (fe j).length cap) (fe j) w:=by
 obtain ⟨C,h1,h2,h3⟩:=h.ex
 obtain ⟨v,q1,q2,-⟩:=h3 j hj
 obtain ⟨p,cap,rfl,-⟩:=q2.form
 exact ⟨p,cap,(h1.at_ j).trans q1,q2⟩
theorem Lns.at_ {B n c:Nat} {p:Option Addr} {ls:List ByteArray} {w:World} (h:Lns B (.slice p n c) ls w) {k:Nat} (hk:k<ls.length):∃ g,p=some ⟨g,0,none⟩∧w.cell? ⟨g,k,none⟩=some (.string ls[k])∧n≤c:=by
 obtain ⟨g,cap,e,h1,h2,hc⟩:=Ol.at_ elemStr.len h hk
 injection e with e1 e2 e3
 have c0:=hc 0 (by omega)
 rw [Nat.mul_one,Nat.add_zero] at c0
 exact ⟨g,e1,c0,by omega⟩
set_option maxRecDepth 20000 in
theorem lines_any {w:World} {Ba Bb n ca cb:Nat} {pa pb:Option Addr} {ls:List ByteArray} (ha:Lns Ba (.slice pa n ca) ls w) (hb:Lns Bb (.slice pb n cb) ls w) (hn:ls.length=n) (hbig:n≤100000):
  Calls Tryz.prog 14 #[.slice pa n ca,.slice pb n cb] w fun e w'=>e= .returned (.bool true)∧Below w.heap.size w w':=by
 have mixed:Tryz.prog.follows .mixedOrders=true:=by decide
 have H:=Lib.hid (And.intro ha (And.intro hb hn))
 clear ha hb hn
 go_enter Tryz.func14,Tryz.ntmps14
 go_wp2_with fail
 go_loopw [13] (fun i wr=>∃ k q:Nat,i= .int .i64 (k:Nat)∧k≤n∧wr=w.drewN q) (fun i _=>n - (intOf i).toNat)
 case atStart=>exact ⟨0,0,rfl,Nat.zero_le _,rfl⟩
 case round=>
  obtain ⟨k,q,rfl,hk,rfl⟩:=hrel
  by_cases hlt:k<n
  ·have hkz:(k:Int)<(n:Int):=by omega
   have hkl:k<ls.length:=by rw [H.out.2.2]; exact hlt
   obtain ⟨ga,rfl,c0,hca⟩:=H.out.1.at_ hkl
   obtain ⟨gb,rfl,c1,hcb⟩:=H.out.2.1.at_ hkl
   obtain ⟨s,hs⟩:∃ s,ls[k]=s:=⟨_,rfl⟩
   rw [hs] at c0 c1
   have d0:(w.drewN q).cell? ⟨ga,k,none⟩=some (.string s):=c0
   have d1:(w.drewN q).cell? ⟨gb,k,none⟩=some (.string s):=c1
   clear c0 c1 hs hkl
   generalize hw:w.drewN q=wr at*
   have HW:=Lib.hid hw
   clear hw
   go_wp2_with fail
   go_region
   all_goals go_wp2_with fail
   go_roundw
   case rel=>exact ⟨k+1,q+1,by go_num,by omega,by rw [← HW.out]; rfl⟩
   case measure=>simp [intOf]; omega
  ·obtain rfl:k=n:=by omega
   go_wp2_with fail
   go_ret
   exact ⟨rfl,drewN_below (.refl _ _) _⟩
set_option maxRecDepth 100000 in
theorem lz_len64 (w:World):Calls Tryz.prog 72 #[.int .u64 0] w fun e w'=>(∃ q:Int,e= .returned (.int .i64 q))∧w'=w:=by
 go_enter Tryz.func72,Tryz.ntmps72
 go_wp2
 go_ret
 exact ⟨⟨_,rfl⟩,rfl⟩
theorem lz_len (w:World):Calls Tryz.prog 124 #[.int .u64 0] w fun e w'=>(∃ q:Int,e= .returned (.int .i64 q))∧w'=w:=by
 go_enter Tryz.func124,Tryz.ntmps124
 go_wp2_with (go_at_call 72; refine (lz_len64 w).mono ?_; rintro e w2 ⟨⟨q,rfl⟩,rfl⟩)
 go_ret
 exact ⟨⟨_,rfl⟩,rfl⟩
theorem lz_ins (w:World):Calls Tryz.prog 157 #[.slice none 0 0,.int .i64 0,.int .i64 0] w fun e w'=>e= .returned (.tuple #[])∧w'=w:=by
 go_enter Tryz.func157,Tryz.ntmps157
 go_wp2
 go_loopw [6] (fun vi wr=>vi= .int .i64 1∧wr=w) (fun _ _=>1)
 case atStart=>exact ⟨rfl,rfl⟩
 case round=>
  obtain ⟨rfl,rfl⟩:=hrel
  go_wp2
  go_end0
  exact ⟨rfl,rfl⟩
theorem lz_pdq (w:World) (l:Int):Calls Tryz.prog 123 #[.slice none 0 0,.int .i64 0,.int .i64 0,.int .i64 l] w fun e w'=>e= .returned (.tuple #[])∧w'=w:=by
 have HI:=lz_ins w
 go_enter Tryz.func123,Tryz.ntmps123
 go_wp2_with fail
 go_loopw [1,2] (fun a b wr=>a= .int .i64 0∧b= .int .i64 0∧wr=w) (fun _ _ _=>1)
 case atStart=>exact ⟨rfl,rfl,rfl⟩
 case round=>
  obtain ⟨rfl,rfl,rfl⟩:=hrel
  go_wp2_with (go_at_call 157; refine HI.mono ?_; rintro e w2 ⟨rfl,rfl⟩)
  refine bodyPost_ret (results_none rfl _ _ _) rfl ?_
  exact ⟨rfl,rfl⟩
theorem lz_sort (w:World):Calls Tryz.prog 91 #[.slice none 0 0] w fun e w'=>e= .returned (.tuple #[])∧w'=w:=by
 have HP:=lz_pdq w
 go_enter Tryz.func91,Tryz.ntmps91
 go_wp2_with (first|(go_at_call 124; refine (lz_len w).mono ?_; rintro e w2 ⟨⟨q,rfl⟩,rfl⟩)|(go_at_call 123; refine (HP _).mono ?_; rintro e w3 ⟨rfl,rfl⟩)|fail)
 go_end0
 exact ⟨rfl,rfl⟩
theorem lz_compact (w:World):Calls Tryz.prog 92 #[.slice none 0 0] w fun e w'=>e= .returned (.slice none 0 0)∧w'=w:=by
 go_enter Tryz.func92,Tryz.ntmps92
 go_wp2_with fail
 go_ret
 exact ⟨rfl,rfl⟩
set_option maxRecDepth 100000 in
theorem lz_addresses {w:World} {g T n:Nat} {fe:Nat→List Fe} (h:FbAt w g T n fe) (hn:n≤8) (he:∀ j,j<n→fe j=[]):
  Calls Tryz.prog 57 #[.slice (some ⟨g,0,none⟩) n n] w fun e w'=>e= .returned (.slice none 0 0)∧Below w.heap.size w w':=by
 have H:=Lib.hid (And.intro h he)
 have S0:=Lib.hid (show Blk 122 (w.alloc (.cells #[.slice none 0 0] 122)) w.heap.size #[.slice none 0 0]∧Below w.heap.size w (w.alloc (.cells #[.slice none 0 0] 122)) from ⟨Blk.new w _ _,below_new _ _⟩)
 clear h he
 go_enter Tryz.func57,Tryz.ntmps57
 go_wp2_with fail
 go_loopw [12] (fun i wr=>∃ k:Nat,i= .int .i64 (k:Nat)∧k≤n∧Hid (Blk 122 wr w.heap.size #[.slice none 0 0]∧Below w.heap.size w wr)) (fun i _=>n - (intOf i).toNat)
 case atStart=>exact ⟨0,rfl,Nat.zero_le _,S0⟩
 case round=>
  clear S0
  obtain ⟨k,rfl,hk,S⟩:=hrel
  by_cases hlt:k<n
  ·have hkz:(k:Int)<(n:Int):=by omega
   obtain ⟨p,c,q0,-⟩:=(H.out.1.held S.out.2).row hlt
   rw [H.out.2 k hlt] at q0
   replace q0:wr.cell? ⟨g,k,none⟩=some (.slice p 0 c):=q0
   go_wp2_with fail
   go_loopw [18] (fun i wr2=>i= .int .i64 0∧Hid (Blk 122 wr2 w.heap.size #[.slice none 0 0]∧Below w.heap.size w wr2)) (fun _ _=>1)
   case atStart=>exact ⟨rfl,S⟩
   case round=>
    clear q0 S
    obtain ⟨rfl,S⟩:=hrel
    go_wp2_with fail
    go_roundw
    case rel=>exact ⟨k+1,by go_num,by omega,S⟩
    case measure=>simp [intOf]; omega
  ·obtain rfl:k=n:=by omega
   have b0:=S.out.1.at_ 0
   have Z:=Lib.hid S.out.2
   clear S
   go_wp2_with (first|(go_at_call 91; refine (lz_sort _).mono ?_; rintro e w2 ⟨rfl,rfl⟩)|(go_at_call 92; refine (lz_compact _).mono ?_; rintro e w3 ⟨rfl,rfl⟩)|fail)
   go_ret
   exact ⟨rfl,Z.out⟩
set_option maxRecDepth 100000 in
theorem lz_find {w:World} {g T n:Nat} {fe:Nat→List Fe} (h:FbAt w g T n fe) (hn:n≤8) (he:∀ j,j<n→fe j=[]):
  Calls Tryz.prog 37 #[.slice (some ⟨g,0,none⟩) n n] w fun e w'=>e= .returned (.tuple #[.int .i64 0,.int .u32 0,.bool false])∧Below w.heap.size w w':=by
 have HA:=lz_addresses h hn he
 clear h he
 go_enter Tryz.func37,Tryz.ntmps37
 go_wp2_with (go_at_call 57; refine HA.mono ?_; rintro e w1 ⟨rfl,hb1⟩; clear HA)
 go_loopw [14] (fun i wr=>i= .int .i64 0∧wr=w1) (fun _ _=>1)
 case atStart=>exact ⟨rfl,rfl⟩
 case round=>
  obtain ⟨rfl,rfl⟩:=hrel
  go_wp2_with fail
  go_ret3
  exact ⟨rfl,hb1⟩
end Go.Proofs.YthaefdlkpljojaaGreatDoor
namespace Go.Proofs.YthaefdlkpljojaaGreatDoor
open Go.RowKit Go.Maps Rm Fm Sb
theorem mask_low (z:Int) (m:Nat) (hm:m<65536):∃ c:Nat,c≤m∧bits .and .i64 z (m:Int)=(c:Int):=by
 have e0:(BitVec.ofInt 64 (m:Int)).toNat=m:=by simp; omega
 have h1:(BitVec.ofInt 64 z &&& BitVec.ofInt 64 (m:Int)).toNat≤m:=by
  rw [BitVec.toNat_and,e0]
  exact Nat.and_le_right
 refine ⟨(BitVec.ofInt 64 z &&& BitVec.ofInt 64 (m:Int)).toNat,h1,?_⟩
 have e:bits .and .i64 z (m:Int)=IntKind.i64.wrap ((BitVec.ofInt 64 z &&& BitVec.ofInt 64 (m:Int)).toNat:Int):=rfl
 rw [e]
 generalize (BitVec.ofInt 64 z &&& BitVec.ofInt 64 (m:Int)).toNat=n at*
 simp only [IntKind.wrap,IntKind.bits,IntKind.signed]
 simp
 omega
section
variable {w0 w:World} {N:Nat} {d:Nat→Nat} {z:Int}
end
section
variable {w0 w:World} {N:Nat} {d:Nat→Nat} {z:Int}
end
end Go.Proofs.YthaefdlkpljojaaGreatDoor
