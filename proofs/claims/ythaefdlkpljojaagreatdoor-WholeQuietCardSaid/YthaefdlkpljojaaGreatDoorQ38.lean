import Derived.Test.YthaefdlkpljojaaGreatDoorQ25
import Derived.Test.YthaefdlkpljojaaGreatDoorQ36
set_option maxHeartbeats 8000000
namespace Go.Proofs.YthaefdlkpljojaaGreatDoor.Sp
open Go.RowKit Go.Maps Sc
def _root_.Go.Proofs.YthaefdlkpljojaaGreatDoor.Sc.scripted (n s:Int):Bool:=decide (1≤n) && decide (n≤8) && decide (1≤s) && decide (s≤512)
theorem scripted_any (n s:Int) (w:World):Calls Tryz.prog 23 #[.int .i64 n,.int .i64 s] w fun e w'=>e= .returned (.bool (Sc.scripted n s))∧w=w':=by
 unfold Sc.scripted
 cases h1:decide (1≤n)
 ·go_enter Tryz.func23,Tryz.ntmps23
  go_wp2_with fail
  go_ret
  exact ⟨rfl,rfl⟩
 cases h2:decide (n≤8)
 ·go_enter Tryz.func23,Tryz.ntmps23
  go_wp2_with fail
  go_ret
  exact ⟨rfl,rfl⟩
 cases h3:decide (1≤s)
 ·go_enter Tryz.func23,Tryz.ntmps23
  go_wp2_with fail
  go_ret
  exact ⟨rfl,rfl⟩
 ·go_enter Tryz.func23,Tryz.ntmps23
  go_wp2_with fail
  go_ret
  exact ⟨ret_bool (by simp),rfl⟩
theorem scripted_eq {n s:Int} {r:Bool} (h:Sc.scripted n s=r) (w:World):Calls Tryz.prog 23 #[.int .i64 n,.int .i64 s] w fun e w'=>e= .returned (.bool r)∧w=w':=h ▸ scripted_any n s w
theorem wrong_any (e:Ev) (ha:e.a<4294967296) (w:World):Calls Tryz.prog 25 #[.agg (ecs e)] w fun x w'=>x= .returned (.bool (!right e))∧Below w.heap.size w w':=by
 obtain ⟨r,hr⟩:∃ r,right e=r:=⟨_,rfl⟩
 have HR:∀ u:World,Calls Tryz.prog 44 #[.agg (ecs e)] u fun x w'=>x= .returned (.bool r)∧Below u.heap.size u w':=fun u=>eright_eq ha hr u
 rw [hr]
 obtain ⟨kind,i,k,n,a,len,p⟩:=e
 unfold ecs at HR ⊢
 simp only at HR ⊢
 generalize (⟨p.toArray⟩:ByteArray)=s at*
 clear hr ha
 have hb:=below_new w (.cells #[.int .i64 kind,.int .i64 i,.int .i64 k,.int .i64 n,.int .u32 (a:Nat),.int .i64 len,.string s] 37)
 have HB:=Lib.hid hb
 clear hb
 go_enter Tryz.func25,Tryz.ntmps25
 go_wp2_with (go_at_call 44; refine (HR _).mono ?_; rintro e w5 ⟨rfl,hb5⟩)
 go_ret
 exact ⟨rfl,next HB.out hb5⟩
def _root_.Go.Proofs.YthaefdlkpljojaaGreatDoor.Sc.allRight (l:List Ev):Bool:=l.all fun e=>right e
theorem index_any {A:Option Addr} {n cap:Nat} {es:List Ev} {w:World} (h:El w A n cap es):
  Calls Tryz.prog 43 #[.slice A n cap,Value.func (.func 25) #[] #[]] w fun x w'=>∃ z:Int,x= .returned (.int .i64 z)∧decide (0≤z)=!Sc.allRight es∧Below w.heap.size w w':=by
 have hn:=h.len
 have hmx:=h.max
 have hmx':n≤9223372036854775807:=by unfold maxLen at hmx; omega
 have H:=Lib.hid h
 clear h hmx
 go_enter Tryz.func43,Tryz.ntmps43
 go_wp2_with fail
 go_loopw [8] (fun v wr=>∃ k:Nat,v= .int .i64 (k:Nat)∧k≤n∧Hid ((∀ (j:Nat) (hj:j<es.length),j<k→right es[j]=true)∧Below w.heap.size w wr)) (fun v _=>n - (intOf v).toNat)
 case atStart=>exact ⟨0,rfl,Nat.zero_le _,Lib.hid ⟨fun j hj h=>absurd h (by omega),.refl _ _⟩⟩
 case round=>
  obtain ⟨k,rfl,hkn,R⟩:=hrel
  by_cases hlt:k<n
  ·have d1:decide ((k:Int)<(n:Int))=true:=decide_eq_true (by omega)
   have hk:k<es.length:=by omega
   obtain ⟨e,he⟩:∃ e,es[k]=e:=⟨_,rfl⟩
   obtain ⟨b,off,rfl⟩:=H.out.plain (by omega)
   have hfit:=(H.out.good e (by rw [← he]; exact List.getElem_mem hk)).fits
   obtain ⟨c0,c1,c2,c3,c4,c5,c6⟩:=(H.out.held R.out.2).at_ hk he
   have HW0:=fun u=>wrong_any e hfit.a u
   obtain ⟨r,hr⟩:∃ r,right e=r:=⟨_,rfl⟩
   rw [hr] at HW0
   have HW:∀ u,Calls Tryz.prog 25 #[.agg #[.int .i64 e.kind,.int .i64 e.i,.int .i64 e.k,.int .i64 e.n,.int .u32 (e.a:Nat),.int .i64 e.len,.string ⟨e.p.toArray⟩]] u fun x w'=>x= .returned (.bool (!r))∧Below u.heap.size u w':=HW0
   have EH:=Lib.hid (And.intro hk (And.intro he hr))
   clear HW0 hr he hfit
   generalize e.kind=y0 at*
   generalize e.i=y1 at*
   generalize e.k=y2 at*
   generalize e.n=y3 at*
   generalize e.a=y4 at*
   generalize e.len=y5 at*
   generalize (⟨e.p.toArray⟩:ByteArray)=s at*
   have i1:(k:Int)<(n:Int):=by omega
   cases r with
   |true=>
    go_wp2_with (go_at_call 25; refine (HW _).mono ?_; rintro e5 w5 ⟨rfl,hb5⟩)
    have R2:=Lib.hid (And.intro (show ∀ (j:Nat) (hj:j<es.length),j<k+1→right es[j]=true from fun j hj hjk=>by
     by_cases e1:j=k
     ·subst e1; rw [EH.out.2.1,EH.out.2.2]
     ·exact R.out.1 j hj (by omega)) (R.out.2.trans (hb5.mono R.out.2.size)))
    go_roundw
    case rel=>exact ⟨k+1,by go_num,by omega,R2⟩
    case measure=>simp [intOf]; omega
   |false=>
    go_wp2_with (go_at_call 25; refine (HW _).mono ?_; rintro e5 w5 ⟨rfl,hb5⟩)
    go_ret
    refine ⟨_,rfl,?_,R.out.2.trans (hb5.mono R.out.2.size)⟩
    rw [decide_eq_true (by omega)]
    symm
    rw [Bool.not_eq_true',allRight,List.all_eq_false]
    exact ⟨e,by rw [← EH.out.2.1]; exact List.getElem_mem _,by rw [EH.out.2.2]; simp⟩
  ·obtain rfl:k=n:=by omega
   have d1:decide ((k:Int)<(k:Int))=false:=decide_eq_false (by omega)
   go_wp2_with fail
   go_ret
   refine ⟨_,rfl,?_,R.out.2⟩
   rw [decide_eq_false (by omega)]
   symm
   rw [Bool.not_eq_false',allRight,List.all_eq_true]
   intro x hx
   obtain ⟨j,hj,rfl⟩:=List.getElem_of_mem hx
   exact R.out.1 j hj (by omega)
theorem contains_any {A:Option Addr} {n cap:Nat} {es:List Ev} {w:World} (h:El w A n cap es):
  Calls Tryz.prog 24 #[.slice A n cap,Value.func (.func 25) #[] #[]] w fun x w'=>x= .returned (.bool (!Sc.allRight es))∧Below w.heap.size w w':=by
 have HI:=index_any h
 clear h
 go_enter Tryz.func24,Tryz.ntmps24
 go_wp2_with (go_at_call 43; refine HI.mono ?_; rintro e5 w5 ⟨z,rfl,hz,hb5⟩)
 go_ret
 exact ⟨by first|rfl|exact ret_bool hz,hb5⟩
theorem take_snoc_flat {es:List Ev} {k:Nat} (hk:k<es.length):flat (es.take (k+1))=flat (es.take k)++ebytes es[k]:=by
 rw [List.take_succ_eq_append_getElem hk,flat_snoc]
theorem flat_take_le (es:List Ev) (k:Nat):(flat (es.take k)).length≤(flat es).length:=by
 have h:flat es=flat (es.take k)++flat (es.drop k):=by rw [← flat_append,List.take_append_drop]
 rw [h,List.length_append]; omega
theorem allRight_at {es:List Ev} (h:Sc.allRight es=true) {k:Nat} (hk:k<es.length):right es[k]=true:=by
 unfold Sc.allRight at h
 rw [List.all_eq_true] at h
 exact h _ (List.getElem_mem hk)
def z3:List Nat:=[0,0,0]
theorem make3 (w:World):(Instr.makeSlice 25 (.int .i64 3) (.int .i64 3)).run Tryz.prog w= .ok (.slice (some ⟨w.heap.size,0,none⟩) 3 3) (w.alloc (.cells (cls z3) 5)):=by kernel_rfl
set_option maxRecDepth 100000 in
theorem encode_good {A:Option Addr} {n cap:Nat} {es:List Ev} {nn ss:Nat} {w:World} (h:El w A n cap es) (hn:n≤8192) (hs:Sc.scripted nn ss=true) (hr:Sc.allRight es=true) (hbig:(flat es).length≤900000):
  Calls Tryz.prog 13 #[.int .i64 (nn:Nat),.int .i64 (ss:Nat),.slice A n cap] w fun x w'=>∃ g c q,x= .returned (.tuple #[.slice (some ⟨g,0,none⟩) q c,.int .i64 0])∧q=(script nn ss es).length∧Ob w.heap.size (.slice (some ⟨g,0,none⟩) q c) (script nn ss es) w'∧Below w.heap.size w w':=by
 have d1:decide ((8192:Int)<(n:Int))=false:=decide_eq_false (by omega)
 have HS:=fun u=>scripted_eq hs u
 have HC:=contains_any h
 rw [hr] at HC
 have hlen:=h.len
 unfold Sc.scripted at hs
 simp only [Bool.and_eq_true,decide_eq_true_eq] at hs
 obtain ⟨⟨⟨h1,h2⟩,h3⟩,h4⟩:=hs
 have h2':nn≤8:=by omega
 have h4':ss≤512:=by omega
 have H:=Lib.hid (And.intro h (And.intro hr (And.intro hbig hlen)))
 clear h hr hbig hlen h1 h2 h3 h4
 have mk:=make3
 go_enter Tryz.func13,Tryz.ntmps13
 go_upto_region 6 with (first|(go_at_call 23; refine (HS _).mono ?_; rintro e5 w5 ⟨rfl,rfl⟩)|(go_at_call 24; refine HC.mono ?_; rintro e6 w6 ⟨rfl,hb6⟩))
 have BG:=Blk.new w6 5 (cls z3)
 have hb7:=next hb6 (below_new w6 (.cells (cls z3) 5))
 have hG:w.heap.size≤w6.heap.size:=hb6.size
 generalize w6.alloc (.cells (cls z3) 5)=w7 at*
 generalize w6.heap.size=G at*
 have g0:w7.cell? ⟨G,0,none⟩=some (.int .u8 0):=BG.at_ 0
 have f0:=BG.free 0
 have BG8:=BG.bset 0 nn
 have hb8:=hb7.setCell (p:=⟨G,0,none⟩) hG (cell nn)
 unfold cell at BG8 hb8
 have Y:=Lib.hid (And.intro BG8 (And.intro hb8 hG))
 clear BG hb6 hb7 hG BG8 hb8 HS HC mk
 go_upto_region 7 with fail
 clear g0 f0
 generalize w7.setCell ⟨G,0,none⟩ (.int .u8 (nn:Int))=w8 at*
 have HP:=put_l2 G 1 2 ss (by omega) (z3.set 0 nn) w8 Y.out.1 (by simp [z3])
 have q1:IntKind.u32.wrap (ss:Int)=ss:=wrap32 (by omega)
 go_wp2_with (go_at_call 26; refine HP.mono ?_; rintro e9 w9 ⟨rfl,BG9,T9⟩)
 have hscr:((z3.set 0 nn).set 1 (ss / 256 % 256)).set (1+1) (ss % 256)=script nn ss []:=by
  show [nn,ss / 256 % 256,ss % 256]=[nn % 256,ss / 256 % 256,ss % 256]
  rw [Nat.mod_eq_of_lt (show nn<256 by omega)]
 rw [hscr] at BG9
 have hO9:=Ob.of_blk BG9 Y.out.2.2 (by simp [script,Sc.two,flat_nil]) (n:=3) (by simp [script,Sc.two,flat_nil])
 have hb9:=Y.out.2.1.trans (T9.below (B:=w.heap.size) (by simp; exact Y.out.2.2) Y.out.2.1.size)
 have S:=Lib.hid (And.intro hO9 hb9)
 clear HP BG9 T9 hscr hO9 hb9 Y q1
 go_loopw [8,34] (fun v i wr=>∃ k g q c:Nat,i= .int .i64 (k:Nat)∧v= .slice (some ⟨g,0,none⟩) q c∧k≤n∧Hid (q=(script nn ss (es.take k)).length∧Ob w.heap.size (.slice (some ⟨g,0,none⟩) q c) (script nn ss (es.take k)) wr∧Below w.heap.size w wr)) (fun _ i _=>n - (intOf i).toNat)
 case atStart=>exact ⟨0,G,3,3,rfl,rfl,Nat.zero_le _,Lib.hid ⟨by simp [script,Sc.two,flat_nil],S.out.1,S.out.2⟩⟩
 case round=>
  clear S
  obtain ⟨k,g,q,c,rfl,rfl,hkn,R⟩:=hrel
  by_cases hlt:k<n
  ·have d2:decide ((k:Int)<(n:Int))=true:=decide_eq_true (by omega)
   have hk:k<es.length:=by rw [H.out.2.2.2]; exact hlt
   obtain ⟨e,he⟩:∃ e,es[k]=e:=⟨_,rfl⟩
   obtain ⟨b,off,rfl⟩:=H.out.1.plain (by omega)
   have hfit:=(H.out.1.good e (by rw [← he]; exact List.getElem_mem hk)).fits
   obtain ⟨c0,c1,c2,c3,c4,c5,c6⟩:=(H.out.1.held R.out.2.2).at_ hk he
   have hright:right e=true:=by rw [← he]; exact allRight_at H.out.2.1 hk
   have HB:∀ u,Calls Tryz.prog 27 #[.agg #[.int .i64 e.kind,.int .i64 e.i,.int .i64 e.k,.int .i64 e.n,.int .u32 (e.a:Nat),.int .i64 e.len,.string ⟨e.p.toArray⟩]] u fun x w'=>∃ g cap q,x= .returned (.slice (some ⟨g,0,none⟩) q cap)∧q=(ebytes e).length∧Ob u.heap.size (.slice (some ⟨g,0,none⟩) q cap) (ebytes e) w'∧Below u.heap.size u w':=fun u=>ebytes_any hright hfit.a u
   have EH:=Lib.hid (And.intro hk he)
   have i1:(k:Int)<(n:Int):=by omega
   clear hright hfit he
   generalize hy0:e.kind=y0 at*
   generalize hy1:e.i=y1 at*
   generalize hy2:e.k=y2 at*
   generalize hy3:e.n=y3 at*
   generalize hy4:e.a=y4 at*
   generalize hy5:e.len=y5 at*
   generalize hy6:(⟨e.p.toArray⟩:ByteArray)=s at*
   clear hy0 hy1 hy2 hy3 hy4 hy5 hy6
   have hbx:=below_new wr (.cells #[.int .i64 y0,.int .i64 y1,.int .i64 y2,.int .i64 y3,.int .u32 (y4:Nat),.int .i64 y5,.string s] 37)
   have BX:=Blk.new wr 37 #[.int .i64 y0,.int .i64 y1,.int .i64 y2,.int .i64 y3,.int .u32 (y4:Nat),.int .i64 y5,.string s]
   have X:=Lib.hid (And.intro hbx BX)
   clear hbx BX
   go_upto_region 11 with fail
   generalize wr.alloc _=w10 at*
   have x0:w10.cell? ⟨wr.heap.size,0,none⟩=some (.int .i64 y0):=X.out.2.at_ 0
   have x1:w10.cell? ⟨wr.heap.size,1,none⟩=some (.int .i64 y1):=X.out.2.at_ 1
   have x2:w10.cell? ⟨wr.heap.size,2,none⟩=some (.int .i64 y2):=X.out.2.at_ 2
   have x3:w10.cell? ⟨wr.heap.size,3,none⟩=some (.int .i64 y3):=X.out.2.at_ 3
   have x4:w10.cell? ⟨wr.heap.size,4,none⟩=some (.int .u32 (y4:Nat)):=X.out.2.at_ 4
   have x5:w10.cell? ⟨wr.heap.size,5,none⟩=some (.int .i64 y5):=X.out.2.at_ 5
   have x6:w10.cell? ⟨wr.heap.size,6,none⟩=some (.string s):=X.out.2.at_ 6
   have HB10:=HB w10
   clear HB c0 c1 c2 c3 c4 c5 c6
   go_wp2_with fail
   refine HB10.mono ?_
   rintro e11 w11 ⟨g1,cp1,q1,rfl,hq1,hO1,hb11⟩
   have hbw:=R.out.2.2.trans (X.out.1.mono R.out.2.2.size)
   have hbw2:=hbw.trans (hb11.mono hbw.size)
   have hOb:=(R.out.2.1.held X.out.1).held hb11
   have hBy:=Ob.bytes hO1 (ebytes_lt e)
   have hstep:=take_snoc_flat EH.out.1
   rw [EH.out.2] at hstep
   have hsc:script nn ss (es.take (k+1))=script nn ss (es.take k)++ebytes e:=by
    unfold script
    rw [hstep]
    simp
   have hle:=flat_take_le es (k+1)
   have hl2:(script nn ss (es.take (k+1))).length=3+(flat (es.take (k+1))).length:=script_length _ _ _
   have hbg:=H.out.2.2.1
   have hlen2:(script nn ss (es.take k)).length+q1=(script nn ss (es.take (k+1))).length:=by rw [hsc,List.length_append,hq1]
   have hpos:0<q1:=by rw [hq1,ebytes_length]; omega
   obtain ⟨g',cap',w12,hrun,hO12,hgr,hat⟩:=Ob.app hOb hbw2.size hBy hpos (by omega) (c:=cp1) 25
   rw [← R.out.1] at hrun hO12
   rw [← hsc] at hO12
   have hb12:=hbw2.grown hgr hbw2.size (fun kk e5=>(hOb.lt e5).2)
   have Z:=Lib.hid (And.intro (show q+q1=(script nn ss (es.take (k+1))).length by rw [R.out.1]; exact hlen2) (And.intro hO12 hb12))
   clear HB10 hbw hbw2 hOb hBy hstep hsc hle hl2 hbg hlen2 hpos hO12 hgr hat hb12 hO1 hb11 hq1 X R x0 x1 x2 x3 x4 x5 x6
   go_wp2_with (first|(at_builtin; refine Lib.wpList_append_run _ rfl (.tmp 38) (.tmp 40) 25 25 rfl _ _ rfl rfl _ _ hrun ?_)|fail)
   go_roundw
   case rel=>exact ⟨k+1,g',q+q1,cap',by go_num,rfl,by omega,Z⟩
   case measure=>simp [intOf]; omega
  ·obtain rfl:k=n:=by omega
   have d2:decide ((k:Int)<(k:Int))=false:=decide_eq_false (by omega)
   have e1:es.take k=es:=List.take_of_length_le (by rw [H.out.2.2.2]; exact Nat.le_refl _)
   have R2:=R.out
   rw [e1] at R2
   have R3:=Lib.hid R2
   clear R R2 e1
   go_wp2_with fail
   go_ret2
   exact ⟨g,c,q,rfl,R3.out.1,R3.out.2.1,R3.out.2.2⟩
end Go.Proofs.YthaefdlkpljojaaGreatDoor.Sp
