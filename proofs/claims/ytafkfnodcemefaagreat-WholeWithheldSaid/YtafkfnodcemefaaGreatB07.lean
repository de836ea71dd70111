import Derived.Test.YtafkfnodcemefaaGreatB06
set_option maxHeartbeats 8000000
set_option maxRecDepth 100000
namespace Go.Proofs.YtafkfnodcemefaaGreat
open _root_.Go.Proofs.Tryz (prog)
section
open Go.RowKit Rm
def nats (s:List UInt8):List Nat:=s.map UInt8.toNat
theorem nats_length (s:List UInt8):(nats s).length=s.length:=by simp [nats]
theorem bl7 (s:List UInt8):∀ c,c∈nats s->c<256:=fun c hc=>by
 obtain ⟨b,-,rfl⟩:=List.mem_map.1 hc;exact b.toNat_lt
theorem Bys.nats {w:World} {g n:Nat} {s:List UInt8} (h:Bys w (some (Y g 0)) n s) (hn:n<=maxLen):BytesAt w (some (Y g 0)) n (Go.Proofs.YtafkfnodcemefaaGreat.nats s):=by
 refine ⟨by rw [nats_length]; exact h.1,hn,bl7 s,fun k hk=>⟨_,rfl,?_⟩⟩;obtain ⟨ad,e,hc⟩:=h.2 G
 cases e;have hl:=h.1;have hk':k<s.length:=G
 have:=hc k (Yy (s[k].toNat:Int)) (by rw [ba3,List.getElem?_eq_getElem hk']; rfl);rw [this];unfold Go.Proofs.YtafkfnodcemefaaGreat.nats;rw [List.getD_eq_getElem?_getD,List.getElem?_map,List.getElem?_eq_getElem hk'];rfl
def recAt (s:List UInt8):Option Rc:=Rm.of (nats s)
theorem cr3 {b cap:Nat} (hcap:48<=cap) {s:List UInt8} {w:World} (h:Bys w (some (Y b 0)) 48 s) {r:Rc} {y:Bool} (hx:(recAt s).getD Rm.zero=r) (hy:(recAt s).isSome=y):
  Q 193 #[Lt b 48 cap] w (Rr0 w (.tuple #[.agg (rcl r),O y])):=by
 subst hx hy;exact db9 b 0 cap hcap (nats s) w (h.nats (by unfold maxLen; omega))
section
variable {w w':World} {d S M n:Nat} {safe:Nat->List UInt8} {wn:Int->Option (List UInt8)} {well:Int}
theorem bt0 (h:Dk w d S M n safe wn well) {i:Nat} (hi:i<n) {k:Int} {g l id a:Nat} {len:Int} {on:Bool} {s m:Nat} {ok:Bool} (hr:(recAt (synced safe wn i)).getD Rm.zero=⟨k,g,l,id,a,len,on,s,m⟩) (hok:(recAt (synced safe wn i)).isSome=ok):
  Q 169 #[K d,I i] w (Rr0 w (.tuple #[.agg #[I k,U g,U l,U id,U a,I len,O on,U s,V m],O ok])):=by
 obtain ⟨hb,hX⟩:=nw w 160 #[I 0,U 0,U 0,U 0,U 0,I 0,O false,U 0,V 0];go_enter Tryz.func169,Tryz.ntmps169;go_wp2_with fail;generalize w.alloc _=W at*;have HR:=da8 (h.held hb) hi;generalize synced safe wn i=sv at*;have HH:=H2 hX hb;clear h hX hb;refine HR.mono ?_;rintro e w2 ⟨g2,cap,rfl,hg,hB,hb2,hcap⟩;have hX2:=HH.out.1.held hb2;have hbb:=next HH.out.2 hb2;have HO:=cr3 hcap hB hr hok;clear HR HH hg hb2 hB hr hok;have HH:=H2 hX2 hbb;clear hX2 hbb;go_wp2_with fail;refine HO.mono ?_;rintro e w3 ⟨rfl,hb3⟩;have hX3:=HH.out.1.held hb3;have hbb:=next HH.out.2 hb3;clear HO HH hb3;have hX4:Blk 160 w3 w.heap.size (rcellsR 0 0 0 0 0 0 false 0 0):=hX3;have HX:=H2 hX4 hbb;clear hX3 hX4 hbb;simp only [rcl];go_wp2_with (first|(refine wpList_store_mid (P:=prog) rfl 160 (.tmp 4) (.tmp 19) rfl w.heap.size 0 (rcellsR k g l id a len on s m) rfl rfl HX.out.1.rec_there (ad5 k g l id a len on s m) (am2 k g l id a len on s m) ?_)|fail);refine bodyPost_ret (v:= .tuple #[.agg (rcellsR k g l id a len on s m),O ok]) (ad6 (p:=4) (u:=5) X rfl rfl HX.out.1.rec_over) rfl ⟨rfl,?_⟩;exact HX.out.2.trans ((Turn.setCells (L:=[w.heap.size]) w3 sn 0 _).below sn HX.out.2.size)
end
section
variable {w w':World} {d S M n:Nat} {safe:Nat->List UInt8} {wn:Int->Option (List UInt8)} {well:Int}
theorem dd4 (h:Dk w d S M n safe wn well) {i:Nat} (hi:i<n) {z:Int} (hz:z=(i:Int)) {k:Int} {g l id a:Nat} {len:Int} {on:Bool} {s m:Nat} {ok:Bool} (hr:(recAt (synced safe wn i)).getD Rm.zero=⟨k,g,l,id,a,len,on,s,m⟩) (hok:(recAt (synced safe wn i)).isSome=ok):
  Q 169 #[K d,I z] w (Rr0 w (.tuple #[.agg #[I k,U g,U l,U id,U a,I len,O on,U s,V m],O ok])):=by
 subst hz;exact bt0 h hi hr hok
theorem cy1 (h:Dk w d S M n safe wn well) {first size gen place:Nat} (hi:first+place<n) {k:Int} {g l id a:Nat} {len:Int} {on:Bool} {s m:Nat} {ok:Bool} (hr:(recAt (synced safe wn (first+place))).getD Rm.zero=⟨k,g,l,id,a,len,on,s,m⟩) (hok:(recAt (synced safe wn (first+place))).isSome=ok) {q:Bool} (hq:(ok && (l==place))=q):
  Q 191 #[.agg #[K d,I first,I size,Uu gen],I place] w (Rr0 w (.tuple #[if q then .agg #[I k,Uu g,Uu l,Uu id,Uu a,I len,O on,Uu s,V m] else .agg #[I 0,Uu 0,Uu 0,Uu 0,Uu 0,I 0,O false,Uu 0,V 0],O q])):=by
 have n2:=h.n2;have hwp:IntKind.u32.wrap (place:Int)=(place:Int):=by simp [IntKind.wrap,IntKind.bits,IntKind.signed]; omega
 have hws:IntKind.i64.wrap ((first:Int)+(place:Int))=((first+place:Nat):Int):=by simp only [IntKind.wrap,IntKind.bits,IntKind.signed]; simp; omega
 have hX:=Blk.new (w.alloc (.cells #[K d,I first,I size,Uu gen] 109)) 160 #[I 0,Uu 0,Uu 0,Uu 0,Uu 0,I 0,O false,Uu 0,V 0];have hP:=(Blk.new w 109 #[K d,I first,I size,Uu gen]).more (.cells #[I 0,Uu 0,Uu 0,Uu 0,Uu 0,I 0,O false,Uu 0,V 0] 160);have hb:=next (aa0 w (.cells #[K d,I first,I size,Uu gen] 109)) (aa0 _ (.cells #[I 0,Uu 0,Uu 0,Uu 0,Uu 0,I 0,O false,Uu 0,V 0] 160));rw [aa1] at hX;have HD:=dd4 (h.held hb) hi (z:=(first:Int)+(place:Int)) (by push_cast; rfl) hr hok;go_enter Tryz.func191,Tryz.ntmps191;have HH:=H2 hX hb;have c0:=hP.at_ 0;have c1:=hP.at_ 1;clear h hX hb hP hr hok;go_wp2_with fail;generalize (w.alloc (.cells #[K d,I first,I size,Uu gen] 109)).alloc (.cells #[I 0,Uu 0,Uu 0,Uu 0,Uu 0,I 0,O false,Uu 0,V 0] 160)=W at*;refine HD.mono ?_;rintro e w3 ⟨rfl,hb3⟩;have hX3:Blk 160 w3 (w.heap.size+1) (rcellsR 0 0 0 0 0 0 false 0 0):=HH.out.1.held hb3;have hbb:=next HH.out.2 hb3;obtain ⟨hb5,hR5⟩:=nw w3 160 #[I k,Uu g,Uu l,Uu id,Uu a,I len,O on,Uu s,V m];have HX:=H2 (hX3.held hb5) (next hbb hb5);clear HD HH hb3 hX3 hbb hb5 c0 c1;obtain ⟨u,hu1,hu2⟩:=ap7;have U:=H2 hu1 hu2;clear hu1 hu2
 cases ok with
 |false=>
  obtain rfl:q=false:=hq.symm;go_wp2_with (first|(refine wpList_store_mid (P:=prog) rfl 160 (.tmp 4) (.tmp 27) rfl (w.heap.size+1) 0 (rcellsR 0 0 0 0 0 0 false 0 0) rfl rfl HX.out.1.rec_there (ad5 0 0 0 0 0 0 false 0 0) (am2 0 0 0 0 0 0 false 0 0) ?_)|fail);refine bodyPost_ret (v:= .tuple #[.agg (rcellsR 0 0 0 0 0 0 false 0 0),O false]) (ad6 (p:=4) (u:=5) X rfl rfl HX.out.1.rec_over) rfl ⟨rfl,?_⟩;exact HX.out.2.trans ((Turn.setCells (L:=[w.heap.size+1]) _ sn 0 _).below sn HX.out.2.size)
 |true=>
  cases hlp:(l==place) with
  |false=>
   obtain rfl:q=false:=by rw [<- hq,hlp]; rfl
   have hne:((l:Int) !=(place:Int))=true:=by simp at hlp ⊢; omega
   have r2:=hR5.at_ 2;clear hlp hq;go_wp2_with (first|(refine wpList_store_mid (P:=prog) rfl 160 (.tmp 4) (.tmp 27) rfl (w.heap.size+1) 0 (rcellsR 0 0 0 0 0 0 false 0 0) rfl rfl HX.out.1.rec_there (ad5 0 0 0 0 0 0 false 0 0) (am2 0 0 0 0 0 0 false 0 0) ?_)|fail);refine bodyPost_ret (v:= .tuple #[.agg (rcellsR 0 0 0 0 0 0 false 0 0),O false]) (ad6 (p:=4) (u:=5) X rfl rfl HX.out.1.rec_over) rfl ⟨rfl,?_⟩;exact HX.out.2.trans ((Turn.setCells (L:=[w.heap.size+1]) _ sn 0 _).below sn HX.out.2.size)
  |true=>
   obtain rfl:q=true:=by rw [<- hq,hlp]; rfl
   have hne:((l:Int) !=(place:Int))=false:=by simp at hlp ⊢; omega
   have r2:=hR5.at_ 2;clear hlp hq;go_wp2_with (first
    |(refine wpList_load_mid (P:=prog) rfl 160 (.tmp 6) rfl _ _ rfl _ _ (Blk.rec_rangeR (C:=rcellsR k g l id a len on s m) hR5) U.out.1 U.out.2 (ad5 k g l id a len on s m) ?_)
    |(refine wpList_store_mid (P:=prog) rfl 160 (.tmp 4) (.tmp 28) rfl (w.heap.size+1) 0 (rcellsR k g l id a len on s m) rfl rfl HX.out.1.rec_there (ad5 k g l id a len on s m) (am2 k g l id a len on s m) ?_)|fail)
   refine bodyPost_ret (v:= .tuple #[.agg (rcellsR k g l id a len on s m),O true]) (ad6 (p:=4) (u:=5) X rfl rfl HX.out.1.rec_over) rfl ⟨rfl,?_⟩;exact HX.out.2.trans ((Turn.setCells (L:=[w.heap.size+1]) _ sn 0 _).below sn HX.out.2.size)
end
theorem ab9 {w V:World} {b:Nat} {t:TypeId} {c0 c1 c2 c3:Value} (h:Blk t V b #[c0,c1,c2,c3]) (hb:Below w.heap.size w V) (hle:w.heap.size<=b) (v0 v1 v2 v3:Value):
  Blk t ((((V.setCell (Y b 0) v0).setCell (Y b 1) v1).setCell (Y b 2) v2).setCell (Y b 3) v3) b #[v0,v1,v2,v3]/\Bw w ((((V.setCell (Y b 0) v0).setCell (Y b 1) v1).setCell (Y b 2) v2).setCell (Y b 3) v3):=
 ⟨(((h.store 0 v0).store 1 v1).store 2 v2).store 3 v3,(((hb.setCell (p:=⟨b,0,none⟩) hle _).setCell (p:=⟨b,1,none⟩) hle _).setCell (p:=⟨b,2,none⟩) hle _).setCell (p:=⟨b,3,none⟩) hle _⟩
section
variable {w w':World} {d S M n:Nat} {safe:Nat->List UInt8} {wn:Int->Option (List UInt8)} {well:Int}
theorem at_at (h:Dk w d S M n safe wn well) {first size gen place:Nat} {z:Int} (hz:z=(place:Int)) (hi:first+place<n) {k:Int} {g l id a:Nat} {len:Int} {on:Bool} {s m:Nat} {ok:Bool} (hr:(recAt (synced safe wn (first+place))).getD Rm.zero=⟨k,g,l,id,a,len,on,s,m⟩) (hok:(recAt (synced safe wn (first+place))).isSome=ok) {q:Bool} (hq:(ok && (l==place))=q):
  Q 191 #[.agg #[K d,I first,I size,U gen],I z] w (Rr0 w (.tuple #[if q then .agg #[I k,U g,U l,U id,U a,I len,O on,U s,V m] else .agg #[I 0,U 0,U 0,U 0,U 0,I 0,O false,U 0,V 0],O q])):=by
 subst hz;exact cy1 h hi hr hok hq
theorem bj3 (h:Dk w d S M n safe wn well) {first size gen rid:Nat} (hi:first<n) {k:Int} {g l id a:Nat} {len:Int} {on:Bool} {s m:Nat} {ok:Bool} (hr:(recAt (synced safe wn first)).getD Rm.zero=⟨k,g,l,id,a,len,on,s,m⟩) (hok:(recAt (synced safe wn first)).isSome=ok) {q:Bool} (hq:((ok && (l==0)) && (k==1 && id==rid))=q):
  Q 167 #[.agg #[K d,I first,I size,U gen],U rid] w (Rr0 w (.tuple #[if q then .agg #[K d,I first,I size,U g] else .agg #[.pointer none,I 0,I 0,U 0],O q])):=by
 have hX:=Blk.new (w.alloc (.cells #[K d,I first,I size,U gen] 109)) 109 #[.pointer none,I 0,I 0,U 0];have hP:=(Blk.new w 109 #[K d,I first,I size,U gen]).more (.cells #[.pointer none,I 0,I 0,U 0] 109);have hb:=next (aa0 w (.cells #[K d,I first,I size,U gen] 109)) (aa0 _ (.cells #[.pointer none,I 0,I 0,U 0] 109));rw [aa1] at hX;have HD:=at_at (h.held hb) (size:=size) (gen:=gen) (z:=0) (place:=0) rfl (show first+0<n from hi) hr hok (q:=ok && (l==0)) rfl;go_enter Tryz.func167,Tryz.ntmps167;have HH:=H3 hX hP hb;clear h hX hb hP hr hok;go_wp2_with fail;generalize (w.alloc (.cells #[K d,I first,I size,U gen] 109)).alloc (.cells #[.pointer none,I 0,I 0,U 0] 109)=W at*;refine HD.mono ?_;rintro e w3 ⟨rfl,hb3⟩;have hX3:=HH.out.1.held hb3;have hP3:=HH.out.2.1.held hb3;have hbb:=next HH.out.2.2 hb3;clear HD HH hb3;generalize hq0:(ok && (l==0))=q0 at*
 cases q0 with
 |false=>
  obtain rfl:q=false:=hq.symm;simp only [Bool.false_eq_true,if_false];obtain ⟨hbn,hR⟩:=nw w3 160 #[I 0,U 0,U 0,U 0,U 0,I 0,O false,U 0,V 0];have HX:=H2 (hX3.held hbn) (next hbb hbn);have t0:=(hX3.held hbn).at_ 0;have t1:=(hX3.held hbn).at_ 1;have t2:=(hX3.held hbn).at_ 2;have t3:=(hX3.held hbn).at_ 3;have f0:=(hX3.held hbn).free 0;have f1:=(hX3.held hbn).free 1;have f2:=(hX3.held hbn).free 2;have f3:=(hX3.held hbn).free 3;clear hX3 hP3 hbb hbn hq hq0;go_wp2_with fail;obtain ⟨E4,hb4⟩:=ab9 HX.out.1 HX.out.2 G (.pointer none) (I 0) (I 0) (U 0);have e0:=E4.at_ 0;have e1:=E4.at_ 1;have e2:=E4.at_ 2;have e3:=E4.at_ 3;clear E4 t0 t1 t2 t3 f0 f1 f2 f3 hR;refine bodyPost_ret (v:= .tuple #[.agg #[.pointer none,I 0,I 0,U 0],O false]) ?_ rfl ⟨rfl,hb4⟩;clear hb4;generalize ((((w3.alloc (.cells #[I 0,U 0,U 0,U 0,U 0,I 0,O false,U 0,V 0] 160)).setCell (Y (w.heap.size+1) 0) (.pointer none)).setCell (Y (w.heap.size+1) 1) (I 0)).setCell (Y (w.heap.size+1) 2) (I 0)).setCell (Y (w.heap.size+1) 3) (U 0)=Z at*;simp [results,Tryz.results167,go_sem,e0,e1,e2,e3]
 |true=>
  simp only [if_true]
  cases hk:(k==1) with
  |false=>
   obtain rfl:q=false:=by rw [<- hq,hk]; rfl
   have dk:(k !=1)=true:=by rw [bne,hk]; rfl
   obtain ⟨hbn,hR⟩:=nw w3 160 #[I k,U g,U l,U id,U a,I len,O on,U s,V m];have HX:=H2 (hX3.held hbn) (next hbb hbn);have t0:=(hX3.held hbn).at_ 0;have t1:=(hX3.held hbn).at_ 1;have t2:=(hX3.held hbn).at_ 2;have t3:=(hX3.held hbn).at_ 3;have f0:=(hX3.held hbn).free 0;have f1:=(hX3.held hbn).free 1;have f2:=(hX3.held hbn).free 2;have f3:=(hX3.held hbn).free 3;have r0:=hR.at_ 0;clear hX3 hP3 hbb hbn hq hq0 hk;go_wp2_with fail;obtain ⟨E4,hb4⟩:=ab9 HX.out.1 HX.out.2 G (.pointer none) (I 0) (I 0) (U 0);have e0:=E4.at_ 0;have e1:=E4.at_ 1;have e2:=E4.at_ 2;have e3:=E4.at_ 3;clear E4 t0 t1 t2 t3 f0 f1 f2 f3 hR r0;refine bodyPost_ret (v:= .tuple #[.agg #[.pointer none,I 0,I 0,U 0],O false]) ?_ rfl ⟨rfl,hb4⟩;clear hb4;generalize ((((w3.alloc (.cells #[I k,U g,U l,U id,U a,I len,O on,U s,V m] 160)).setCell (Y (w.heap.size+1) 0) (.pointer none)).setCell (Y (w.heap.size+1) 1) (I 0)).setCell (Y (w.heap.size+1) 2) (I 0)).setCell (Y (w.heap.size+1) 3) (U 0)=Z at*;simp [results,Tryz.results167,go_sem,e0,e1,e2,e3]
  |true=>
   have dk:(k !=1)=false:=by rw [bne,hk]; rfl
   cases hd:(id==rid) with
   |false=>
    obtain rfl:q=false:=by rw [<- hq,hk,hd]; rfl
    have dd:((id:Int) !=(rid:Int))=true:=by simp at hd ⊢; omega
    obtain ⟨hbn,hR⟩:=nw w3 160 #[I k,U g,U l,U id,U a,I len,O on,U s,V m];have HX:=H2 (hX3.held hbn) (next hbb hbn);have t0:=(hX3.held hbn).at_ 0;have t1:=(hX3.held hbn).at_ 1;have t2:=(hX3.held hbn).at_ 2;have t3:=(hX3.held hbn).at_ 3;have f0:=(hX3.held hbn).free 0;have f1:=(hX3.held hbn).free 1;have f2:=(hX3.held hbn).free 2;have f3:=(hX3.held hbn).free 3;have r0:=hR.at_ 0;have r3:=hR.at_ 3;clear hX3 hP3 hbb hbn hq hq0 hk hd;go_wp2_with fail;obtain ⟨E4,hb4⟩:=ab9 HX.out.1 HX.out.2 G (.pointer none) (I 0) (I 0) (U 0);have e0:=E4.at_ 0;have e1:=E4.at_ 1;have e2:=E4.at_ 2;have e3:=E4.at_ 3;clear E4 t0 t1 t2 t3 f0 f1 f2 f3 hR r0 r3;refine bodyPost_ret (v:= .tuple #[.agg #[.pointer none,I 0,I 0,U 0],O false]) ?_ rfl ⟨rfl,hb4⟩;clear hb4;generalize ((((w3.alloc (.cells #[I k,U g,U l,U id,U a,I len,O on,U s,V m] 160)).setCell (Y (w.heap.size+1) 0) (.pointer none)).setCell (Y (w.heap.size+1) 1) (I 0)).setCell (Y (w.heap.size+1) 2) (I 0)).setCell (Y (w.heap.size+1) 3) (U 0)=Z at*;simp [results,Tryz.results167,go_sem,e0,e1,e2,e3]
   |true=>
    obtain rfl:q=true:=by rw [<- hq,hk,hd]; rfl
    have dd:((id:Int) !=(rid:Int))=false:=by simp at hd ⊢; omega
    obtain ⟨hbn,hR⟩:=nw w3 160 #[I k,U g,U l,U id,U a,I len,O on,U s,V m];have HX:=H2 (hX3.held hbn) (next hbb hbn);have t0:=(hX3.held hbn).at_ 0;have t1:=(hX3.held hbn).at_ 1;have t2:=(hX3.held hbn).at_ 2;have t3:=(hX3.held hbn).at_ 3;have f0:=(hX3.held hbn).free 0;have f1:=(hX3.held hbn).free 1;have f2:=(hX3.held hbn).free 2;have f3:=(hX3.held hbn).free 3;have r0:=hR.at_ 0;have r1:=hR.at_ 1;have r3:=hR.at_ 3;have hP4:=hP3.held hbn;have p0:=hP4.at_ 0;have p1:=hP4.at_ 1;have p2:=hP4.at_ 2;have p3:=hP4.at_ 3;have pf:=hP4.free 3;have HP:=Zq hP4;clear hX3 hP3 hP4 hbb hbn hq hq0 hk hd;have hX5:Blk 109 ((w3.alloc (.cells #[I k,U g,U l,U id,U a,I len,O on,U s,V m] 160)).setCell (Y w.heap.size 3) (U g)) (w.heap.size+1) #[.pointer none,I 0,I 0,U 0]:=(Below.heap_setCell _ _ _ _ sn).trans HX.out.1;have hb5:Below w.heap.size w ((w3.alloc (.cells #[I k,U g,U l,U id,U a,I len,O on,U s,V m] 160)).setCell (Y w.heap.size 3) (U g)):=HX.out.2.setCell (p:=⟨w.heap.size,3,none⟩) (Nat.le_refl _) _;obtain ⟨E4,hb4⟩:=ab9 hX5 hb5 G (K d) (I first) (I size) (U g);have e0:=E4.at_ 0;have e1:=E4.at_ 1;have e2:=E4.at_ 2;have e3:=E4.at_ 3;clear E4 hX5 hb5;have HE:=H5 e0 e1 e2 e3 hb4;clear e0 e1 e2 e3 hb4;go_wp2_with fail;obtain ⟨e0,e1,e2,e3,hb4⟩:=HE.out;refine bodyPost_ret (v:= .tuple #[.agg #[K d,I first,I size,U g],O true]) ?_ rfl ⟨rfl,hb4⟩;clear hb4 t0 t1 t2 t3 f0 f1 f2 f3 hR r0 r1 r3 p0 p1 p2 p3 pf;generalize (((((w3.alloc (.cells #[I k,U g,U l,U id,U a,I len,O on,U s,V m] 160)).setCell (Y w.heap.size 3) (U g)).setCell (Y (w.heap.size+1) 0) (K d)).setCell (Y (w.heap.size+1) 1) (I first)).setCell (Y (w.heap.size+1) 2) (I size)).setCell (Y (w.heap.size+1) 3) (U g)=Z at*;simp [results,Tryz.results167,go_sem,e0,e1,e2,e3]
end
end
end Go.Proofs.YtafkfnodcemefaaGreat
namespace Go.Proofs.YtafkfnodcemefaaGreat
open _root_.Go.Proofs.Tryz (prog)
open Go.RowKit Rm
theorem bw5:recAt (List.replicate 48 0)=none:=by
 unfold recAt Rm.of;rw [if_neg];intro h;have h2:=h.2.1;revert h2;decide+kernel
section
variable {w w':World} {d S M n:Nat} {safe:Nat->List UInt8} {wn:Int->Option (List UInt8)} {well:Int}
theorem au4 (h:Dk w d S M n safe wn well) {half:Nat} (hh:half=n / 2):
  Q 136 #[K d] w (Rr0 w (.agg #[K d,I 0,I half,U 0,K d,I half,I half,U 0])):=by
 have n2:=h.n2;have hq:((n:Int)).tdiv 2=(half:Int):=by rw [Int.tdiv_eq_ediv_of_nonneg G]; omega
 have hwh:wrap64 (half:Int)=(half:Int):=by unfold wrap64; omega
 go_enter Tryz.func136,Tryz.ntmps136;have HH:=Zq h;clear h hh;go_wp2_with fail;obtain ⟨hb,hX⟩:=nw w 236 #[.pointer none,I 0,I 0,U 0,.pointer none,I 0,I 0,U 0];generalize w.alloc _=W at*;refine (an2 (HH.out.held hb)).mono ?_;rintro e w1 ⟨rfl,rfl⟩;have c0:=hX.at_ 0;have c1:=hX.at_ 1;have c2:=hX.at_ 2;have c3:=hX.at_ 3;have c4:=hX.at_ 4;have c5:=hX.at_ 5;have c6:=hX.at_ 6;have c7:=hX.at_ 7;have f0:=hX.free 0;have f1:=hX.free 1;have f2:=hX.free 2;have f3:=hX.free 3;have f4:=hX.free 4;have f5:=hX.free 5;have f6:=hX.free 6;have f7:=hX.free 7;have HX:=H2 hX hb;clear hX hb;go_wp2_with fail;have E8:=((((((((HX.out.1.store 0 (K d)).store 1 (I 0)).store 2 (I half)).store 3 (U 0)).store 4 (K d)).store 5 (I half)).store 6 (I half)).store 7 (U 0));have e0:=E8.at_ 0;have e1:=E8.at_ 1;have e2:=E8.at_ 2;have e3:=E8.at_ 3;have e4:=E8.at_ 4;have e5:=E8.at_ 5;have e6:=E8.at_ 6;have e7:=E8.at_ 7;have hbb:Below w.heap.size w ((((((((W.setCell (Y w.heap.size 0) (K d)).setCell (Y w.heap.size 1) (I 0)).setCell (Y w.heap.size 2) (I half)).setCell (Y w.heap.size 3) (U 0)).setCell (Y w.heap.size 4) (K d)).setCell (Y w.heap.size 5) (I half)).setCell (Y w.heap.size 6) (I half)).setCell (Y w.heap.size 7) (U 0)):=
  (((((((HX.out.2.setCell (p:=⟨w.heap.size,0,none⟩) (Nat.le_refl _) _).setCell (p:=⟨w.heap.size,1,none⟩) (Nat.le_refl _) _).setCell (p:=⟨w.heap.size,2,none⟩) (Nat.le_refl _) _).setCell (p:=⟨w.heap.size,3,none⟩) (Nat.le_refl _) _).setCell (p:=⟨w.heap.size,4,none⟩) (Nat.le_refl _) _).setCell (p:=⟨w.heap.size,5,none⟩) (Nat.le_refl _) _).setCell (p:=⟨w.heap.size,6,none⟩) (Nat.le_refl _) _).setCell (p:=⟨w.heap.size,7,none⟩) (Nat.le_refl _) _
 refine bodyPost_ret (v:= .agg #[K d,I 0,I half,U 0,K d,I half,I half,U 0]) ?_ rfl ⟨rfl,hbb⟩;clear hbb E8 c0 c1 c2 c3 c4 c5 c6 c7 f0 f1 f2 f3 f4 f5 f6 f7;generalize ((((((((W.setCell (Y w.heap.size 0) (K d)).setCell (Y w.heap.size 1) (I 0)).setCell (Y w.heap.size 2) (I half)).setCell (Y w.heap.size 3) (U 0)).setCell (Y w.heap.size 4) (K d)).setCell (Y w.heap.size 5) (I half)).setCell (Y w.heap.size 6) (I half)).setCell (Y w.heap.size 7) (U 0))=Z at*;simp [results,Tryz.results136,go_sem,e0,e1,e2,e3,e4,e5,e6,e7]
end
end Go.Proofs.YtafkfnodcemefaaGreat
set_option maxRecDepth 20000
namespace Go.Proofs.YtafkfnodcemefaaGreat
open _root_.Go.Proofs.Tryz (prog)
open Go.RowKit Rm
theorem bw7 {k:Int} {g l i a:Nat} {n:Int} {o:Bool} {s m:Nat} {r:Bool} (ha:a<4294967296) (h:right ⟨k,g,l,i,a,n,o,s,m⟩=r) (w:World):
  Q 111 #[.agg (rcellsR k g l i a n o s m)] w (Rr0 w (O r)):=h ▸ am3 k g l i a n o s m ha w
end Go.Proofs.YtafkfnodcemefaaGreat
set_option maxRecDepth 20000
namespace Go.Proofs.YtafkfnodcemefaaGreat
open _root_.Go.Proofs.Tryz (prog)
section
open Go.RowKit
variable {left:Int->Bool}
section
variable {w:World} {d S M n:Nat} {safe:Nat->List UInt8} {wn:Int->Option (List UInt8)} {well:Int}
theorem dm4 (h:Dk w d S M n safe wn 0):Q 148 #[Pt d] w fun e w'=>
  e= .returned (I 4)/\Dk w' d S M n safe wn (-1)/\Turn [d,S,M] w w':=by
 have H:=Z h;clear h;go_enter Tryz.func148,Tryz.ntmps148;go_wp2_with fail;refine (dk6 H.out).mono ?_;rintro e w1 ⟨rfl,hD,hT,-⟩;have K:=H2 hD hT;clear hD hT;go_wp2;go_ret;exact ⟨rfl,K.out.1,K.out.2.mono sn⟩
def syncing (safe:Nat->List UInt8) (wn:Int->Option (List UInt8)) (left:Int->Bool) (i:Nat):List UInt8:=if left i then safe i else synced safe wn i
theorem az9:syncing safe wn (fun z=>((wn z).map fun s=>Value.agg (sec s).toArray).isSome)=safe:=by
 funext i;unfold syncing synced
 cases h:wn i<;>simp [h]
theorem bj7 (h:∀ z,left z=false):syncing safe wn left=synced safe wn:=by
 funext i;unfold syncing;simp [h]
theorem be5 {i:Nat} {s:List UInt8} (hl:left i=true) (hs:wn i=some s):syncing safe wn (fun z=>left z && !decide (z=(i:Int)))=fun j=>if j=i then s else syncing safe wn left j:=by
 funext j;unfold syncing synced;by_cases e:j=i
 ·subst e; simp [hs]
 ·have:¬ ((j:Int)=(i:Int)):=G
  simp [e,this]
theorem cz3 (h:Dk w d S M n safe wn well) (hw:well≠0):Q 148 #[Pt d] w fun e w'=>
  e= .returned (I 0)/\Dk w' d S M n (synced safe wn) (fun _=>none) (dec well)/\Turn [d,S,M] w w':=by
 have H:=Zq h;clear h;go_enter Tryz.func148,Tryz.ntmps148;go_wp2_with fail;refine (bt6 H.out hw).mono ?_;rintro e w1 ⟨rfl,hD,hT,-⟩;have cM:w1.cell? (Y d 1)=some (.map (some M)):=hD.head.at_ 1;obtain ⟨w2,cnt,hrun,hR,hg,hs⟩:=hD.map.range (t:=149) (e:=218) X X;have hr1:d<w1.heap.size:=hD.head.lt;have hr2:S<w1.heap.size:=hD.ltS;have hr3:M<w1.heap.size:=hD.map.lt;generalize hr:w1.heap.size=r at*;have K:=H6 hD hT hR hg hs hr;clear hD hT hR hg hs hr H;go_wp2_with fail;go_loopw [3] (fun _ u=>∃ (left:Int->Bool) (cnt:Nat),RgD prog 3 u M r (fun z=>(wn z).map fun s=> .agg (sec s).toArray) left cnt/\Dk u d S M n (syncing safe wn left) wn (dec well)/\Turn [d,S,M] w u/\w.heap.size<=r)
  (fun _ u=>u.rangeLeft M r)
 case atStart=>
  obtain ⟨hD,hT,hR,hg,hs,hr⟩:=K.out;refine ⟨_,cnt,hR,?_,?_,by rw [<- hr]; exact hT.size⟩
  ·rw [az9]
   exact hD.of_blocks (hg.block _ G sn) (hg.block _ G sn) (hg.block _ G sn)
  ·exact (hT.mono sn).trans ⟨hg.os,hg.tape,hg.output,hg.size,fun i hi _=>hg.block i hi sn⟩
 case round=>
  clear K hrun;obtain ⟨left,cnt,hR,hD,hT,hr⟩:=hrel;have cM:wr.cell? (Y d 1)=some (.map (some M)):=hD.head.at_ 1;rcases hR.next X 0 with ⟨h0,hl,hrun⟩|⟨z,v,w3,cnt',hlz,hfz,hrun,hR3,hlt,hg3,hs3,hen⟩
  ·rw [bj7 hl] at hD
   have Z:=H4 hR hD hT hr;obtain ⟨w4,hc,hM4,hg4,-⟩:=hD.map.clear (t:=149) (e:=218) X 0;have Z4:=H2 hM4 hg4;clear hR hD hT hr hl h0 hM4 hg4;go_wp2_with fail;go_ret;obtain ⟨hM4,hg4⟩:=Z4.out;obtain ⟨hR,hD,hT,hr⟩:=Z.out;refine ⟨rfl,⟨(hg4.block d hD.head.lt (by simpa using hD.dM)).trans hD.head,?_,hM4,hD.len,fun z s hz=>(by cases hz),hD.n1,hD.n2,hD.w1,hD.w2⟩,hT.trans (.of_grown hg4 sn)⟩;obtain ⟨C,h1,h2⟩:=hD.rows;exact ⟨C,(hg4.block S hD.ltS (by simpa using hD.SM)).trans h1,h2⟩
  ·obtain ⟨s,hs,rfl⟩:=Option.map_eq_some_iff.1 hfz
   obtain ⟨hz0,hz1,hslen⟩:=hD.wlen z s hs;obtain ⟨k,rfl⟩:=Int.eq_ofNat_of_zero_le hz0;have hk:k<n:=G
   have n2:=hD.n2;have hle:=hR.left_eq;have hrd:r≠d:=G
   have hrS:r≠S:=G
   have hrM:r≠M:=G
   have hD3:=hD.of_blocks (hg3.block _ hD.head.lt (by simpa using hrd.symm)) (hg3.block _ hD.ltS (by simpa using hrS.symm)) (hg3.block _ hD.map.lt (by simpa using hrM.symm));have hrlt:=hR3.lt;have hT3:Turn [d,S,M] w w3:=hT.fresh ⟨hg3.os,hg3.tape,hg3.output,hg3.size,fun i hi hn=>hg3.block i hi (by simpa using hn)⟩ hr;clear cM hR hD hT;have Z:=H9 hR3 hD3 hT3 hlz hs hrlt hr hlt hle;clear hR3 hD3 hT3 hlz hs hlt hr hz0 hz1 hle hfz hg3 hs3 hrlt;go_wp2_with (first|(refine wpList_store_mid (P:=prog) rfl 218 (.tmp 4) (.tmp 16) rfl _ 0 (sec s).toArray rfl rfl (aj9 _ _ hslen) (secInfo' hslen) (all_oneCell_toArray (ai7 s)) ?_));go_frame;obtain ⟨hN,hX,hNs⟩:=ak6 w3 218 hslen;dsimp only [z48] at hN hX hNs;generalize (World.setCells (w3.alloc _) w3.heap.size 0 (sec s))=w4 at*;obtain ⟨hR3,hD3,hT3,hlz,hs,hrlt,hr,hlt,hle⟩:=Z.out;have hD4:=(hD3.held hN).drew;have hD5:=hD4.row hk hslen;rw [<- be5 hlz hs] at hD5;have hT5:Turn [d,S,M] w (w4.drew.setCells S (k*48) (sec s)):=((hT3.and_below hN).drew).trans (Turn.setCells _ sn _ _);have hR5:RgD prog 3 (w4.drew.setCells S (k*48) (sec s)) M r (fun z=>(wn z).map fun s=> .agg (sec s).toArray) (fun z=>left z && !decide (z=(k:Int))) cnt':=by
    have hS5:Turn [S] w4.drew (w4.drew.setCells S (k*48) (sec s)):=Turn.setCells _ sn _ _;refine hR3.of_block ((hS5.block M hD4.map.lt (by simpa using hD4.SM.symm)).trans (hN.block _ hR3.mp.lt)) ((hS5.block r ?_ (by simpa using hrS)).trans (hN.block _ hrlt));show r<w4.heap.size;have:=hN.size;omega
   have hme:=hR5.left_eq;have c0:w4.cell? (Y d 0)=Xp S n n:=(hD3.held hN).head.at_ 0;have c5:(w4.drew.setCells S (k*48) (sec s)).cell? (Y d 0)=Xp S n n:=hD5.head.at_ 0;have r4:w4.drew.rangeAt w3.heap.size 0 (sec s):=fun j v hv=>by
    show w4.cell? _=_;rw [Nat.zero_add,hX.at_ j]; simpa using hv
   have r5:(w4.drew.setCells S (k*48) (sec s)).rangeAt w3.heap.size 0 (sec s):=World.rangeAt_setCells_apart r4 _ _ _ (.inl (Nat.ne_of_gt hD3.ltS));have es:(sec s).length=48:=by rw [aa8,hslen]
   have t4:w4.drew.there S (k*48) (sec s).length:=by rw [es]; exact hD4.there hk
   have t5:(w4.drew.setCells S (k*48) (sec s)).there S (k*48) (sec s).length:=by rw [es]; exact hD5.there hk
   have Z5:=H7 hR5 hD5 hT5 hr hme hle hlt;have hu:=ai6;have hi:=secInfo hslen;have ho:=ai7 s;clear hR3 hD3 hD4 hD5 hT3 hT5 hR5 hs hlz hlt hle hr hN hX hNs hme Z hrlt es;go_region_held3 (fun w'=>w'.cell? (Y d 0)=Xp S n n/\w'.rangeAt w3.heap.size 0 (sec s)/\w'.there S (k*48) (sec s).length) (exact ⟨by assumption,by assumption,by assumption⟩) (fail);go_roundw
   case rel=>
    obtain ⟨hR5,hD5,hT5,hr,-⟩:=Z5.out;exact ⟨_,_,_,_,_,_,_,_,_,_,_,_,_,_,⟨_,cnt',hR5,hD5,hT5,hr⟩,rfl⟩
   case measure=>
    obtain ⟨-,-,-,-,h1,h2,h3⟩:=Z5.out;rw [h1,h2]; exact h3
end
end
section
open Go.RowKit Rm
variable {w:World}{d id lease m n:Nat}{fl o:Option Nat}
section
variable {w w':World} {d S M n:Nat} {safe:Nat->List UInt8} {wn:Int->Option (List UInt8)} {well:Int}
end
def u8s (l:List Nat):List UInt8:=l.map UInt8.ofNat
theorem bu6 (l:List Nat):(u8s l).length=l.length:=by simp [u8s]
theorem df8 {b:Nat} {l:List Nat} (h:Blk 5 w b (cls l)) (hl:l.length=48) (hc:∀ c,c∈l->c<256):Bys w (some (Y b 0)) 48 (u8s l):=by
 refine ⟨by rw [bu6,hl],fun _=>⟨_,rfl,fun j v hj=>?_⟩⟩;rw [Addr.add_mid,Nat.zero_add,h.at_ j];rw [ba3] at hj;unfold u8s at hj;rw [List.getElem?_map] at hj;have hlt:j<l.length:=by
  rcases Nat.lt_or_ge j l.length with h'|h'
  ·exact h'
  ·rw [List.getElem?_eq_none h'] at hj; cases hj
 rw [List.getElem?_eq_getElem hlt] at hj;have:=hc l[j] (List.getElem_mem hlt);rw [ao3 l j hlt,<- hj];simp [List.getD,hlt,Nat.mod_eq_of_lt this,cell]
section
variable {w w':World} {d S M n:Nat} {safe:Nat->List UInt8} {wn:Int->Option (List UInt8)} {well:Int}
theorem bu4 (h:Dk w d S M n safe wn well) (hw:well≠0) {first size gen place:Nat} (hi:first+place<n) {k:Int} {g l id a:Nat} {len:Int} {on:Bool} {s m:Nat} (hf:(⟨k,gen,place,id,a,len,on,s,m⟩:Rc).Fits) (hr:right ⟨k,gen,place,id,a,len,on,s,m⟩=true):
  Q 147 #[.agg #[K d,I first,I size,U gen],I place,.agg #[I k,U g,U l,U id,U a,I len,O on,U s,V m]] w fun e w'=>e= .returned (I 0)/\
   Dk w' d S M n safe (updD wn ((first:Int)+place) (u8s (Rm.bytes ⟨k,gen,place,id,a,len,on,s,m⟩))) (dec well)/\Turn [d,M] w w':=by
 have n2:=h.n2;have hwp:IntKind.u32.wrap (place:Int)=(place:Int):=by simp [IntKind.wrap,IntKind.bits,IntKind.signed]; omega
 have hws:IntKind.i64.wrap ((first:Int)+(place:Int))=(first:Int)+(place:Int):=by simp only [IntKind.wrap,IntKind.bits,IntKind.signed]; simp; omega
 have hi0:(0:Int)<=(first:Int)+(place:Int):=G
 have hi1:(first:Int)+(place:Int)<n:=G
 go_enter Tryz.func147,Tryz.ntmps147;have HH:=H3 h hf hr;clear h hf hr;go_wp2_with fail;have hP:=(Blk.new w 109 #[K d,I first,I size,U gen]).more (.cells #[I k,U gen,U place,U id,U a,I len,O on,U s,V m] 160);have hB:=Blk.new (w.alloc (.cells #[K d,I first,I size,U gen] 109)) 160 #[I k,U gen,U place,U id,U a,I len,O on,U s,V m];have hb:=next (aa0 w (.cells #[K d,I first,I size,U gen] 109)) (aa0 _ (.cells #[I k,U gen,U place,U id,U a,I len,O on,U s,V m] 160));have hz:((w.alloc (.cells #[K d,I first,I size,U gen] 109)).alloc (.cells #[I k,U gen,U place,U id,U a,I len,O on,U s,V m] 160)).heap.size=w.heap.size+2:=by rw [aa1,aa1]
 rw [aa1] at hB;generalize (w.alloc (.cells #[K d,I first,I size,U gen] 109)).alloc (.cells #[I k,U gen,U place,U id,U a,I len,O on,U s,V m] 160)=W at*;have hD:=(HH.out.1.held hb).drew;have hlt:=HH.out.1.head.lt;have hltM:=HH.out.1.map.lt;have c0:W.drew.cell? (Y w.heap.size 0)=Np d:=hP.at_ 0;have c1:W.drew.cell? (Y w.heap.size 1)=some (I first):=hP.at_ 1;have r0:W.drew.cell? (Y (w.heap.size+1) 0)=some (I k):=hB.at_ 0;have r1:W.drew.cell? (Y (w.heap.size+1) 1)=some (U gen):=hB.at_ 1;have r2:W.drew.cell? (Y (w.heap.size+1) 2)=some (U place):=hB.at_ 2;have r3:W.drew.cell? (Y (w.heap.size+1) 3)=some (U id):=hB.at_ 3;have r4:W.drew.cell? (Y (w.heap.size+1) 4)=some (U a):=hB.at_ 4;have r5:W.drew.cell? (Y (w.heap.size+1) 5)=some (I len):=hB.at_ 5;have r6:W.drew.cell? (Y (w.heap.size+1) 6)=some (O on):=hB.at_ 6;have r7:W.drew.cell? (Y (w.heap.size+1) 7)=some (U s):=hB.at_ 7;have r8:W.drew.cell? (Y (w.heap.size+1) 8)=some (V m):=hB.at_ 8;have HB:=H3 hD hb hz;clear hP hB hD hb;go_region_held3 (fun w'=>w'.cell? (Y w.heap.size 0)=Np d/\w'.cell? (Y w.heap.size 1)=some (I first)/\w'.cell? (Y (w.heap.size+1) 0)=some (I k)/\w'.cell? (Y (w.heap.size+1) 1)=some (U gen)/\w'.cell? (Y (w.heap.size+1) 2)=some (U place)/\w'.cell? (Y (w.heap.size+1) 3)=some (U id)/\w'.cell? (Y (w.heap.size+1) 4)=some (U a)/\w'.cell? (Y (w.heap.size+1) 5)=some (I len)/\w'.cell? (Y (w.heap.size+1) 6)=some (O on)/\w'.cell? (Y (w.heap.size+1) 7)=some (U s)/\w'.cell? (Y (w.heap.size+1) 8)=some (V m))
  (first|exact ⟨c0,c1,r0,r1,r2,r3,r4,r5,r6,r7,r8⟩|exact ⟨held hb2 c0,held hb2 c1,held hb2 r0,held hb2 r1,held hb2 r2,held hb2 r3,held hb2 r4,held hb2 r5,held hb2 r6,held hb2 r7,held hb2 r8⟩|exact ⟨hT3.cell (held hb2 c0) (by simp; omega),hT3.cell (held hb2 c1) (by simp; omega),hT3.cell (held hb2 r0) (by simp; omega),hT3.cell (held hb2 r1) (by simp; omega),hT3.cell (held hb2 r2) (by simp; omega),hT3.cell (held hb2 r3) (by simp; omega),hT3.cell (held hb2 r4) (by simp; omega),hT3.cell (held hb2 r5) (by simp; omega),hT3.cell (held hb2 r6) (by simp; omega),hT3.cell (held hb2 r7) (by simp; omega),hT3.cell (held hb2 r8) (by simp; omega)⟩|go_keep)
  (first|(go_at_call 171; refine (ax8 k gen place id a len on s m HH.out.2.1 HH.out.2.2 _).mono ?_; rintro e w2 ⟨b,rfl,hge,hS2,hb2⟩)|(go_at_call 170; refine (co7 (HB.out.1.held hb2) hw hi0 hi1 (df8 hS2 (aj7 _) (bd6 _)) ?_).mono ?_; (· rintro ad ⟨⟩; intro e; dsimp only at e; have:=HB.out.2.1.size; have:W.drew.heap.size=W.heap.size:=rfl; omega); rintro e w3 ⟨rfl,hD3,hT3⟩))
 have hTT:=(Turn.of_below [d,M] (next HB.out.2.1.drew hb2)).trans hT3;clear c0 c1 r0 r1 r2 r3 r4 r5 r6 r7 r8;go_wp2_with fail;go_ret;exact ⟨rfl,hD3,hTT⟩
theorem dm0 (h:Dk w d S M n safe wn 0) {first size gen place:Nat} (hi:first+place<n) {k:Int} {g l id a:Nat} {len:Int} {on:Bool} {s m:Nat} (hf:(⟨k,gen,place,id,a,len,on,s,m⟩:Rc).Fits) (hr:right ⟨k,gen,place,id,a,len,on,s,m⟩=true):
  Q 147 #[.agg #[K d,I first,I size,U gen],I place,.agg #[I k,U g,U l,U id,U a,I len,O on,U s,V m]] w fun e w'=>e= .returned (I 4)/\
   Dk w' d S M n safe wn (-1)/\Turn [d,M] w w':=by
 have n2:=h.n2;have hwp:IntKind.u32.wrap (place:Int)=(place:Int):=by simp [IntKind.wrap,IntKind.bits,IntKind.signed]; omega
 have hws:IntKind.i64.wrap ((first:Int)+(place:Int))=(first:Int)+(place:Int):=by simp only [IntKind.wrap,IntKind.bits,IntKind.signed]; simp; omega
 have hi0:(0:Int)<=(first:Int)+(place:Int):=G
 have hi1:(first:Int)+(place:Int)<n:=G
 go_enter Tryz.func147,Tryz.ntmps147;have HH:=H3 h hf hr;clear h hf hr;go_wp2_with fail;have hP:=(Blk.new w 109 #[K d,I first,I size,U gen]).more (.cells #[I k,U gen,U place,U id,U a,I len,O on,U s,V m] 160);have hB:=Blk.new (w.alloc (.cells #[K d,I first,I size,U gen] 109)) 160 #[I k,U gen,U place,U id,U a,I len,O on,U s,V m];have hb:=next (aa0 w (.cells #[K d,I first,I size,U gen] 109)) (aa0 _ (.cells #[I k,U gen,U place,U id,U a,I len,O on,U s,V m] 160));have hz:((w.alloc (.cells #[K d,I first,I size,U gen] 109)).alloc (.cells #[I k,U gen,U place,U id,U a,I len,O on,U s,V m] 160)).heap.size=w.heap.size+2:=by rw [aa1,aa1]
 rw [aa1] at hB;generalize (w.alloc (.cells #[K d,I first,I size,U gen] 109)).alloc (.cells #[I k,U gen,U place,U id,U a,I len,O on,U s,V m] 160)=W at*;have hD:=(HH.out.1.held hb).drew;have hlt:=HH.out.1.head.lt;have hltM:=HH.out.1.map.lt;have c0:W.drew.cell? (Y w.heap.size 0)=Np d:=hP.at_ 0;have c1:W.drew.cell? (Y w.heap.size 1)=some (I first):=hP.at_ 1;have r0:W.drew.cell? (Y (w.heap.size+1) 0)=some (I k):=hB.at_ 0;have r1:W.drew.cell? (Y (w.heap.size+1) 1)=some (U gen):=hB.at_ 1;have r2:W.drew.cell? (Y (w.heap.size+1) 2)=some (U place):=hB.at_ 2;have r3:W.drew.cell? (Y (w.heap.size+1) 3)=some (U id):=hB.at_ 3;have r4:W.drew.cell? (Y (w.heap.size+1) 4)=some (U a):=hB.at_ 4;have r5:W.drew.cell? (Y (w.heap.size+1) 5)=some (I len):=hB.at_ 5;have r6:W.drew.cell? (Y (w.heap.size+1) 6)=some (O on):=hB.at_ 6;have r7:W.drew.cell? (Y (w.heap.size+1) 7)=some (U s):=hB.at_ 7;have r8:W.drew.cell? (Y (w.heap.size+1) 8)=some (V m):=hB.at_ 8;have HB:=H3 hD hb hz;clear hP hB hD hb;go_region_held3 (fun w'=>w'.cell? (Y w.heap.size 0)=Np d/\w'.cell? (Y w.heap.size 1)=some (I first)/\w'.cell? (Y (w.heap.size+1) 0)=some (I k)/\w'.cell? (Y (w.heap.size+1) 1)=some (U gen)/\w'.cell? (Y (w.heap.size+1) 2)=some (U place)/\w'.cell? (Y (w.heap.size+1) 3)=some (U id)/\w'.cell? (Y (w.heap.size+1) 4)=some (U a)/\w'.cell? (Y (w.heap.size+1) 5)=some (I len)/\w'.cell? (Y (w.heap.size+1) 6)=some (O on)/\w'.cell? (Y (w.heap.size+1) 7)=some (U s)/\w'.cell? (Y (w.heap.size+1) 8)=some (V m))
  (first|exact ⟨c0,c1,r0,r1,r2,r3,r4,r5,r6,r7,r8⟩|exact ⟨held hb2 c0,held hb2 c1,held hb2 r0,held hb2 r1,held hb2 r2,held hb2 r3,held hb2 r4,held hb2 r5,held hb2 r6,held hb2 r7,held hb2 r8⟩|exact ⟨hT3.cell (held hb2 c0) (by simp; omega),hT3.cell (held hb2 c1) (by simp; omega),hT3.cell (held hb2 r0) (by simp; omega),hT3.cell (held hb2 r1) (by simp; omega),hT3.cell (held hb2 r2) (by simp; omega),hT3.cell (held hb2 r3) (by simp; omega),hT3.cell (held hb2 r4) (by simp; omega),hT3.cell (held hb2 r5) (by simp; omega),hT3.cell (held hb2 r6) (by simp; omega),hT3.cell (held hb2 r7) (by simp; omega),hT3.cell (held hb2 r8) (by simp; omega)⟩|go_keep)
  (first|(go_at_call 171; refine (ax8 k gen place id a len on s m HH.out.2.1 HH.out.2.2 _).mono ?_; rintro e w2 ⟨b,rfl,hge,hS2,hb2⟩)|(go_at_call 170; refine (dk8 (HB.out.1.held hb2) hi0 hi1).mono ?_; rintro e w3 ⟨rfl,hD3,hT3⟩))
 have hTT:=(Turn.of_below [d,M] (next HB.out.2.1.drew hb2)).trans hT3;clear c0 c1 r0 r1 r2 r3 r4 r5 r6 r7 r8;go_wp2_with fail;go_ret;exact ⟨rfl,hD3,hTT⟩
end
section
variable {w w':World} {d S M n:Nat} {safe:Nat->List UInt8} {wn:Int->Option (List UInt8)} {well:Int}
theorem bq8 (h:Dk w d S M n safe wn well) (hw:well≠0) (hw2:dec well≠0) {first size gen place:Nat} (hi:first+place<n) {k:Int} {g l id a:Nat} {len:Int} {on:Bool} {s m:Nat} (hf:(⟨k,gen,place,id,a,len,on,s,m⟩:Rc).Fits) (hr:right ⟨k,gen,place,id,a,len,on,s,m⟩=true):
  Q 114 #[.agg #[K d,I first,I size,U gen],I place,.agg #[I k,U g,U l,U id,U a,I len,O on,U s,V m]] w fun e w'=>e= .returned (I 0)/\
   Dk w' d S M n (synced safe (updD wn ((first:Int)+place) (u8s (Rm.bytes ⟨k,gen,place,id,a,len,on,s,m⟩)))) (fun _=>none) (dec (dec well))/\Turn [d,S,M] w w':=by
 have hP:=(Blk.new w 109 #[K d,I first,I size,U gen]).more (.cells #[I k,U g,U l,U id,U a,I len,O on,U s,V m] 160);have hB:=Blk.new (w.alloc (.cells #[K d,I first,I size,U gen] 109)) 160 #[I k,U g,U l,U id,U a,I len,O on,U s,V m];have hb:=next (aa0 w (.cells #[K d,I first,I size,U gen] 109)) (aa0 _ (.cells #[I k,U g,U l,U id,U a,I len,O on,U s,V m] 160));rw [aa1] at hB;have hlt:=h.head.lt;have hltM:=h.map.lt;have c0:=hP.at_ 0;have c1:=hP.at_ 1;have c2:=hP.at_ 2;have c3:=hP.at_ 3;have r0:=hB.at_ 0;have r1:=hB.at_ 1;have r2:=hB.at_ 2;have r3:=hB.at_ 3;have r4:=hB.at_ 4;have r5:=hB.at_ 5;have r6:=hB.at_ 6;have r7:=hB.at_ 7;have r8:=hB.at_ 8;have HH:=H5 h hf hr hP hb;clear h hf hr hP hB hb;go_enter Tryz.func114,Tryz.ntmps114;go_wp2_with fail;generalize (w.alloc (.cells #[K d,I first,I size,U gen] 109)).alloc (.cells #[I k,U g,U l,U id,U a,I len,O on,U s,V m] 160)=W at*;refine (bu4 (HH.out.1.held HH.out.2.2.2.2) hw hi HH.out.2.1 HH.out.2.2.1).mono ?_;clear c0 c1 c2 c3 r0 r1 r2 r3 r4 r5 r6 r7 r8;rintro e w3 ⟨rfl,hD3,hT3⟩;have hP3:=HH.out.2.2.2.1.turn hT3 (by simp; omega);have c0:=hP3.at_ 0;have hTT:=(Turn.of_below [d,S,M] HH.out.2.2.2.2).trans (hT3.mono sn);have HT:=Z hTT;have HD:=Z hD3;clear hP3 hT3 hTT hD3;go_wp2_with fail;refine (cz3 HD.out hw2).mono ?_;rintro e w4 ⟨rfl,hD4,hT4⟩;have hTT:=HT.out.trans hT4;go_wp2_with fail;go_ret;exact ⟨rfl,hD4,hTT⟩
theorem dn8 (h:Dk w d S M n safe wn 1) {first size gen place:Nat} (hi:first+place<n) {k:Int} {g l id a:Nat} {len:Int} {on:Bool} {s m:Nat} (hf:(⟨k,gen,place,id,a,len,on,s,m⟩:Rc).Fits) (hr:right ⟨k,gen,place,id,a,len,on,s,m⟩=true):
  Q 114 #[.agg #[K d,I first,I size,U gen],I place,.agg #[I k,U g,U l,U id,U a,I len,O on,U s,V m]] w fun e w'=>e= .returned (I 4)/\
   Dk w' d S M n safe (updD wn ((first:Int)+place) (u8s (Rm.bytes ⟨k,gen,place,id,a,len,on,s,m⟩))) (-1)/\Turn [d,S,M] w w':=by
 have hP:=(Blk.new w 109 #[K d,I first,I size,U gen]).more (.cells #[I k,U g,U l,U id,U a,I len,O on,U s,V m] 160);have hB:=Blk.new (w.alloc (.cells #[K d,I first,I size,U gen] 109)) 160 #[I k,U g,U l,U id,U a,I len,O on,U s,V m];have hb:=next (aa0 w (.cells #[K d,I first,I size,U gen] 109)) (aa0 _ (.cells #[I k,U g,U l,U id,U a,I len,O on,U s,V m] 160));rw [aa1] at hB;have hlt:=h.head.lt;have hltM:=h.map.lt;have c0:=hP.at_ 0;have c1:=hP.at_ 1;have c2:=hP.at_ 2;have c3:=hP.at_ 3;have r0:=hB.at_ 0;have r1:=hB.at_ 1;have r2:=hB.at_ 2;have r3:=hB.at_ 3;have r4:=hB.at_ 4;have r5:=hB.at_ 5;have r6:=hB.at_ 6;have r7:=hB.at_ 7;have r8:=hB.at_ 8;have HH:=H5 h hf hr hP hb;clear h hf hr hP hB hb;go_enter Tryz.func114,Tryz.ntmps114;go_wp2_with fail;generalize (w.alloc (.cells #[K d,I first,I size,U gen] 109)).alloc (.cells #[I k,U g,U l,U id,U a,I len,O on,U s,V m] 160)=W at*;refine (bu4 (HH.out.1.held HH.out.2.2.2.2) (by decide) hi HH.out.2.1 HH.out.2.2.1).mono ?_;clear c0 c1 c2 c3 r0 r1 r2 r3 r4 r5 r6 r7 r8;rintro e w3 ⟨rfl,hD3,hT3⟩;have hP3:=HH.out.2.2.2.1.turn hT3 (by simp; omega);have c0:=hP3.at_ 0;have hTT:=(Turn.of_below [d,S,M] HH.out.2.2.2.2).trans (hT3.mono sn);have HT:=Z hTT;have HD:=Z hD3;clear hP3 hT3 hTT hD3;go_wp2_with fail;refine (dm4 HD.out).mono ?_;rintro e w4 ⟨rfl,hD4,hT4⟩;have hTT:=HT.out.trans hT4;go_wp2_with fail;go_ret;exact ⟨rfl,hD4,hTT⟩
theorem dn9 (h:Dk w d S M n safe wn 0) {first size gen place:Nat} (hi:first+place<n) {k:Int} {g l id a:Nat} {len:Int} {on:Bool} {s m:Nat} (hf:(⟨k,gen,place,id,a,len,on,s,m⟩:Rc).Fits) (hr:right ⟨k,gen,place,id,a,len,on,s,m⟩=true):
  Q 114 #[.agg #[K d,I first,I size,U gen],I place,.agg #[I k,U g,U l,U id,U a,I len,O on,U s,V m]] w fun e w'=>e= .returned (I 4)/\
   Dk w' d S M n safe wn (-1)/\Turn [d,S,M] w w':=by
 have hP:=(Blk.new w 109 #[K d,I first,I size,U gen]).more (.cells #[I k,U g,U l,U id,U a,I len,O on,U s,V m] 160);have hB:=Blk.new (w.alloc (.cells #[K d,I first,I size,U gen] 109)) 160 #[I k,U g,U l,U id,U a,I len,O on,U s,V m];have hb:=next (aa0 w (.cells #[K d,I first,I size,U gen] 109)) (aa0 _ (.cells #[I k,U g,U l,U id,U a,I len,O on,U s,V m] 160));rw [aa1] at hB;have hlt:=h.head.lt;have hltM:=h.map.lt;have c0:=hP.at_ 0;have c1:=hP.at_ 1;have c2:=hP.at_ 2;have c3:=hP.at_ 3;have r0:=hB.at_ 0;have r1:=hB.at_ 1;have r2:=hB.at_ 2;have r3:=hB.at_ 3;have r4:=hB.at_ 4;have r5:=hB.at_ 5;have r6:=hB.at_ 6;have r7:=hB.at_ 7;have r8:=hB.at_ 8;have HH:=H5 h hf hr hP hb;clear h hf hr hP hB hb;go_enter Tryz.func114,Tryz.ntmps114;go_wp2_with fail;generalize (w.alloc (.cells #[K d,I first,I size,U gen] 109)).alloc (.cells #[I k,U g,U l,U id,U a,I len,O on,U s,V m] 160)=W at*;refine (dm0 (HH.out.1.held HH.out.2.2.2.2) hi HH.out.2.1 HH.out.2.2.1).mono ?_;clear c0 c1 c2 c3 r0 r1 r2 r3 r4 r5 r6 r7 r8;rintro e w3 ⟨rfl,hD3,hT3⟩;have hTT:=(Turn.of_below [d,S,M] HH.out.2.2.2.2).trans (hT3.mono sn);go_wp2_with fail;go_ret;exact ⟨rfl,hD3,hTT⟩
end
variable {tS:TypeId} {XS:List Value}
theorem ci8 {own:Pk->Option Bool} {floor:Ky->Option (Nat×Nat)} (h:St tS XS w d o fl id lease n m own floor):Q 72 #[K d] w fun e w'=>e= .returned (U id)/\w=w':=by
 have c0:w.cell? (Y d 0)=some (U id):=h.head.at_ 0;clear h;go_enter Tryz.func72,Tryz.ntmps72;go_wp2;go_ret;exact ⟨rfl,rfl⟩
theorem cg0 {own:Pk->Option Bool} {floor:Ky->Option (Nat×Nat)} (h:St tS XS w d o fl id lease n m own floor) {ka:Nat} {kn:Int} (hk:Pk.ok ⟨ka,kn⟩) {v ok:Bool}
  (hv:((own ⟨ka,kn⟩).map ownV).getD (.agg #[O false])= .agg #[O v]) (ho:(own ⟨ka,kn⟩).isSome=ok):
  Q 80 #[K d,.agg #[U ka,I kn]] w (Rr0 w (.tuple #[O v,O ok])):=by
 have hlook:∀ w',Below w.heap.size w w'->(Instr.lookup 104 (.map o) (.agg #[U ka,I kn]) true).run prog w'= .ok (.tuple #[.agg #[O v],O ok]) w':=fun w' hb=>by
  have h2:=(h.held hb).owns.look_ok (t:=104) (e:=203) X co5 (i:=⟨ka,kn⟩) hk;rw [show ((own ⟨ka,kn⟩).map ownV).isSome=(own ⟨ka,kn⟩).isSome by cases own ⟨ka,kn⟩<;>rfl,hv,ho] at h2;exact h2
 have c2:w.cell? (Y d 2)=some (.map o):=h.head.at_ 2;have dl:d<w.heap.size:=h.head.lt;clear h hv ho;go_enter Tryz.func80,Tryz.ntmps80;go_wp2_with fail;obtain ⟨hb2,KB⟩:=nw w 28 #[U ka,I kn];have hz:=aa1 w (.cells #[U ka,I kn] 28);generalize w.alloc _=W at*;have fc:=held hb2 c2;have k0:=KB.at_ 0;have k1:=KB.at_ 1;have dW:d<W.heap.size:=G
 have kW:w.heap.size<W.heap.size:=G
 have fc3:=held (aa0 W (.cells #[O false] 203)) fc;have k03:=held (aa0 W (.cells #[O false] 203)) k0;have k13:=held (aa0 W (.cells #[O false] 203)) k1;have q1:=hlook _ hb2.drew;have q2:=hlook _ (next hb2 (aa0 W (.cells #[O false] 203))).drew;clear hlook c2;go_region;all_goals
  have hb4:=next hb2 (aa0 W (.cells #[O v] 203)).drew;clear q1 q2 fc3 k03 k13 fc k0 k1 KB hb2;go_wp2_with fail;refine bodyPost_ret (v:= .tuple #[O v,O ok]) ?_ rfl ⟨rfl,hb4⟩;simp [results,Tryz.results80,go_sem]
end
end Go.Proofs.YtafkfnodcemefaaGreat
