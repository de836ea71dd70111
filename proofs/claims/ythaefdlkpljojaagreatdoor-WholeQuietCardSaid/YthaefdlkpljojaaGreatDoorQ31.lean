import Derived.Test.YthaefdlkpljojaaGreatDoorQ25
import Derived.Test.YthaefdlkpljojaaGreatDoorQ30
import Derived.Test.YthaefdlkpljojaaGreatDoorQ21
import Derived.Test.YthaefdlkpljojaaGreatDoorQ40
set_option maxHeartbeats 8000000
namespace Go.Proofs.YthaefdlkpljojaaGreatDoor
open Go.RowKit Go.Maps
attribute [local go_sem] Oper.semAt_some
theorem do_boot {i k n len:Int} {a:Nat} {p:List UInt8} (ha:a<4294967296) (hr:Sc.right ⟨0,i,k,n,a,len,p⟩=true) {N:Nat} {w:World} {Q:Int→World→Prop}
  (H:∀ w1,Below w.heap.size w w1→Calls Tryz.prog 77 #[.pointer (some ⟨N,0,none⟩),.int .i64 i] w1 fun x w'=>∃ z,x= .returned (.int .i64 z)∧Q z w'):
  Calls Tryz.prog 52 #[.pointer (some ⟨N,0,none⟩),.agg (Sp.ecs ⟨0,i,k,n,a,len,p⟩)] w fun x w'=>∃ z,x= .returned (.int .i64 z)∧Q z w':=by
 have HR:=Sp.eright_eq (e:=⟨0,i,k,n,a,len,p⟩) ha hr
 unfold Sp.ecs at HR ⊢
 simp only at HR ⊢
 clear hr
 obtain ⟨s,hs⟩:∃ s:ByteArray,(⟨p.toArray⟩:ByteArray)=s:=⟨_,rfl⟩
 rw [hs] at HR ⊢
 clear hs
 have hbs:=below_new w (.cells #[.int .i64 0,.int .i64 i,.int .i64 k,.int .i64 n,.int .u32 (a:Nat),.int .i64 len,.string s] 37)
 have BX:=Blk.new w 37 #[.int .i64 0,.int .i64 i,.int .i64 k,.int .i64 n,.int .u32 (a:Nat),.int .i64 len,.string s]
 go_enter Tryz.func52,Tryz.ntmps52
 go_upto_region 1 with fail
 generalize w.alloc _=w1 at*
 have c0:w1.cell? ⟨w.heap.size,0,none⟩=some (.int .i64 0):=BX.at_ 0
 have c1:w1.cell? ⟨w.heap.size,1,none⟩=some (.int .i64 i):=BX.at_ 1
 have c2:w1.cell? ⟨w.heap.size,2,none⟩=some (.int .i64 k):=BX.at_ 2
 have c3:w1.cell? ⟨w.heap.size,3,none⟩=some (.int .i64 n):=BX.at_ 3
 have c4:w1.cell? ⟨w.heap.size,4,none⟩=some (.int .u32 (a:Nat)):=BX.at_ 4
 have c5:w1.cell? ⟨w.heap.size,5,none⟩=some (.int .i64 len):=BX.at_ 5
 have c6:w1.cell? ⟨w.heap.size,6,none⟩=some (.string s):=BX.at_ 6
 have HR1:=HR w1
 clear BX HR
 go_upto_region 3 with (go_at_call 44; refine HR1.mono ?_; rintro x w2 ⟨rfl,hb2⟩; clear HR1)
 replace c0:=held hb2 c0
 replace c1:=held hb2 c1
 replace c2:=held hb2 c2
 replace c3:=held hb2 c3
 replace c4:=held hb2 c4
 replace c5:=held hb2 c5
 have HC:=H w2 (next hbs hb2)
 clear H hb2 hbs c6
 go_upto_region 5 with fail
 go_wp2_with fail
 refine HC.mono ?_
 rintro x w3 ⟨z,rfl,hQ⟩
 clear HC
 go_wp2_with fail
 go_ret
 exact ⟨z,rfl,hQ⟩
theorem do_link {i k n len:Int} {a:Nat} {p:List UInt8} (ha:a<4294967296) (hr:Sc.right ⟨3,i,k,n,a,len,p⟩=true) {N:Nat} {w:World} {Q:Int→World→Prop}
  (H:∀ w1,Below w.heap.size w w1→Calls Tryz.prog 81 #[.pointer (some ⟨N,0,none⟩),.int .i64 i,.int .i64 k,.int .i64 n] w1 fun x w'=>∃ z,x= .returned (.int .i64 z)∧Q z w'):
  Calls Tryz.prog 52 #[.pointer (some ⟨N,0,none⟩),.agg (Sp.ecs ⟨3,i,k,n,a,len,p⟩)] w fun x w'=>∃ z,x= .returned (.int .i64 z)∧Q z w':=by
 have HR:=Sp.eright_eq (e:=⟨3,i,k,n,a,len,p⟩) ha hr
 unfold Sp.ecs at HR ⊢
 simp only at HR ⊢
 clear hr
 obtain ⟨s,hs⟩:∃ s:ByteArray,(⟨p.toArray⟩:ByteArray)=s:=⟨_,rfl⟩
 rw [hs] at HR ⊢
 clear hs
 have hbs:=below_new w (.cells #[.int .i64 3,.int .i64 i,.int .i64 k,.int .i64 n,.int .u32 (a:Nat),.int .i64 len,.string s] 37)
 have BX:=Blk.new w 37 #[.int .i64 3,.int .i64 i,.int .i64 k,.int .i64 n,.int .u32 (a:Nat),.int .i64 len,.string s]
 go_enter Tryz.func52,Tryz.ntmps52
 go_upto_region 1 with fail
 generalize w.alloc _=w1 at*
 have c0:w1.cell? ⟨w.heap.size,0,none⟩=some (.int .i64 3):=BX.at_ 0
 have c1:w1.cell? ⟨w.heap.size,1,none⟩=some (.int .i64 i):=BX.at_ 1
 have c2:w1.cell? ⟨w.heap.size,2,none⟩=some (.int .i64 k):=BX.at_ 2
 have c3:w1.cell? ⟨w.heap.size,3,none⟩=some (.int .i64 n):=BX.at_ 3
 have c4:w1.cell? ⟨w.heap.size,4,none⟩=some (.int .u32 (a:Nat)):=BX.at_ 4
 have c5:w1.cell? ⟨w.heap.size,5,none⟩=some (.int .i64 len):=BX.at_ 5
 have c6:w1.cell? ⟨w.heap.size,6,none⟩=some (.string s):=BX.at_ 6
 have HR1:=HR w1
 clear BX HR
 go_upto_region 3 with (go_at_call 44; refine HR1.mono ?_; rintro x w2 ⟨rfl,hb2⟩; clear HR1)
 replace c0:=held hb2 c0
 replace c1:=held hb2 c1
 replace c2:=held hb2 c2
 replace c3:=held hb2 c3
 replace c4:=held hb2 c4
 replace c5:=held hb2 c5
 have HC:=H w2 (next hbs hb2)
 clear H hb2 hbs c6
 go_upto_region 11 with fail
 go_wp2_with fail
 refine HC.mono ?_
 rintro x w3 ⟨z,rfl,hQ⟩
 clear HC
 go_wp2_with fail
 go_ret
 exact ⟨z,rfl,hQ⟩
theorem do_own {i k n len:Int} {a:Nat} {p:List UInt8} (ha:a<4294967296) (hr:Sc.right ⟨4,i,k,n,a,len,p⟩=true) {N:Nat} {w:World} {Q:Int→World→Prop}
  (H:∀ w1,Below w.heap.size w w1→Calls Tryz.prog 82 #[.pointer (some ⟨N,0,none⟩),.int .i64 i,.agg #[.int .u32 a,.int .i64 len],.bool true] w1 fun x w'=>∃ z,x= .returned (.int .i64 z)∧Q z w'):
  Calls Tryz.prog 52 #[.pointer (some ⟨N,0,none⟩),.agg (Sp.ecs ⟨4,i,k,n,a,len,p⟩)] w fun x w'=>∃ z,x= .returned (.int .i64 z)∧Q z w':=by
 have HR:=Sp.eright_eq (e:=⟨4,i,k,n,a,len,p⟩) ha hr
 unfold Sp.ecs at HR ⊢
 simp only at HR ⊢
 clear hr
 obtain ⟨s,hs⟩:∃ s:ByteArray,(⟨p.toArray⟩:ByteArray)=s:=⟨_,rfl⟩
 rw [hs] at HR ⊢
 clear hs
 have hbs:=below_new w (.cells #[.int .i64 4,.int .i64 i,.int .i64 k,.int .i64 n,.int .u32 (a:Nat),.int .i64 len,.string s] 37)
 have BX:=Blk.new w 37 #[.int .i64 4,.int .i64 i,.int .i64 k,.int .i64 n,.int .u32 (a:Nat),.int .i64 len,.string s]
 go_enter Tryz.func52,Tryz.ntmps52
 go_upto_region 1 with fail
 generalize w.alloc _=w1 at*
 have c0:w1.cell? ⟨w.heap.size,0,none⟩=some (.int .i64 4):=BX.at_ 0
 have c1:w1.cell? ⟨w.heap.size,1,none⟩=some (.int .i64 i):=BX.at_ 1
 have c2:w1.cell? ⟨w.heap.size,2,none⟩=some (.int .i64 k):=BX.at_ 2
 have c3:w1.cell? ⟨w.heap.size,3,none⟩=some (.int .i64 n):=BX.at_ 3
 have c4:w1.cell? ⟨w.heap.size,4,none⟩=some (.int .u32 (a:Nat)):=BX.at_ 4
 have c5:w1.cell? ⟨w.heap.size,5,none⟩=some (.int .i64 len):=BX.at_ 5
 have c6:w1.cell? ⟨w.heap.size,6,none⟩=some (.string s):=BX.at_ 6
 have HR1:=HR w1
 clear BX HR
 go_upto_region 3 with (go_at_call 44; refine HR1.mono ?_; rintro x w2 ⟨rfl,hb2⟩; clear HR1)
 replace c0:=held hb2 c0
 replace c1:=held hb2 c1
 replace c2:=held hb2 c2
 replace c3:=held hb2 c3
 replace c4:=held hb2 c4
 replace c5:=held hb2 c5
 have HC:=H w2 (next hbs hb2)
 clear H hb2 hbs c6
 go_upto_region 14 with fail
 go_wp2_with fail
 refine HC.mono ?_
 rintro x w3 ⟨z,rfl,hQ⟩
 clear HC
 go_wp2_with fail
 go_ret
 exact ⟨z,rfl,hQ⟩
theorem do_round {i k n len:Int} {a:Nat} {p:List UInt8} (ha:a<4294967296) (hr:Sc.right ⟨10,i,k,n,a,len,p⟩=true) {N:Nat} {w:World} {Q:Int→World→Prop}
  (H:∀ w1,Below w.heap.size w w1→Calls Tryz.prog 87 #[.pointer (some ⟨N,0,none⟩)] w1 fun x w'=>x= .returned (.tuple #[])∧Q 0 w'):
  Calls Tryz.prog 52 #[.pointer (some ⟨N,0,none⟩),.agg (Sp.ecs ⟨10,i,k,n,a,len,p⟩)] w fun x w'=>∃ z,x= .returned (.int .i64 z)∧Q z w':=by
 have HR:=Sp.eright_eq (e:=⟨10,i,k,n,a,len,p⟩) ha hr
 unfold Sp.ecs at HR ⊢
 simp only at HR ⊢
 clear hr
 obtain ⟨s,hs⟩:∃ s:ByteArray,(⟨p.toArray⟩:ByteArray)=s:=⟨_,rfl⟩
 rw [hs] at HR ⊢
 clear hs
 have hbs:=below_new w (.cells #[.int .i64 10,.int .i64 i,.int .i64 k,.int .i64 n,.int .u32 (a:Nat),.int .i64 len,.string s] 37)
 have BX:=Blk.new w 37 #[.int .i64 10,.int .i64 i,.int .i64 k,.int .i64 n,.int .u32 (a:Nat),.int .i64 len,.string s]
 go_enter Tryz.func52,Tryz.ntmps52
 go_upto_region 1 with fail
 generalize w.alloc _=w1 at*
 have c0:w1.cell? ⟨w.heap.size,0,none⟩=some (.int .i64 10):=BX.at_ 0
 have c1:w1.cell? ⟨w.heap.size,1,none⟩=some (.int .i64 i):=BX.at_ 1
 have c2:w1.cell? ⟨w.heap.size,2,none⟩=some (.int .i64 k):=BX.at_ 2
 have c3:w1.cell? ⟨w.heap.size,3,none⟩=some (.int .i64 n):=BX.at_ 3
 have c4:w1.cell? ⟨w.heap.size,4,none⟩=some (.int .u32 (a:Nat)):=BX.at_ 4
 have c5:w1.cell? ⟨w.heap.size,5,none⟩=some (.int .i64 len):=BX.at_ 5
 have c6:w1.cell? ⟨w.heap.size,6,none⟩=some (.string s):=BX.at_ 6
 have HR1:=HR w1
 clear BX HR
 go_upto_region 3 with (go_at_call 44; refine HR1.mono ?_; rintro x w2 ⟨rfl,hb2⟩; clear HR1)
 replace c0:=held hb2 c0
 replace c1:=held hb2 c1
 replace c2:=held hb2 c2
 replace c3:=held hb2 c3
 replace c4:=held hb2 c4
 replace c5:=held hb2 c5
 have HC:=H w2 (next hbs hb2)
 clear H hb2 hbs c6
 go_upto_region 24 with fail
 go_wp2_with fail
 refine HC.mono ?_
 rintro x w3 ⟨rfl,hQ⟩
 clear HC
 go_wp2_with fail
 go_ret
 exact ⟨0,rfl,hQ⟩
end Go.Proofs.YthaefdlkpljojaaGreatDoor
namespace Go.Proofs.YthaefdlkpljojaaGreatDoor
open Go.RowKit Go.Maps Rm Fm Sb
attribute [local go_sem] Oper.semAt_some
def icl (z:Int):List Value:=[.int .i64 z]
theorem elemI:Elem Tryz.prog 56 38 icl 1 8:=⟨by kernel_rfl,elem_info (z:= .int .i64 0) (by kernel_rfl) rfl,by omega,fun _=>rfl,fun x v hv=>by simp only [icl,List.mem_cons,List.not_mem_nil,or_false] at hv; rcases hv with rfl; rfl,by omega⟩
theorem Ol.blk {α:Type} {e:TypeId} {cl:α→List Value} {k B:Nat} {v:Value} {xs:List α} {W:World} (h:Ol e cl k B v xs W) {b:Nat} (hb:v.ownBlock=some b):∃ C,Blk e W b C:=by
 rcases h.2 with ⟨rfl,-⟩|⟨g,cap,cur,rfl,h4,h5,-⟩
 ·cases hb
 ·have:g=b:=by simpa [Value.ownBlock] using hb
  subst this
  exact ⟨_,h5⟩
def Ov (w:World) (v:Value):Nat→Prop:=fun x=>w.heap.size≤x∧v.ownBlock≠some x
section
variable {w w2 w3 wr:World} {N nn:Nat} {st:Nat→Sv} {os:List Dg} {v:Value} {zs:List Int}
theorem Bo.here {O:Nat→Prop} (h:Bo O w2 w3 N nn st os):Bo O w3 w3 N nn st os:=h.beside (.refl [] _) (fun x hx=>by cases hx) (fun _ _ h=>h) h.tu.wide
theorem came_push (hO:Ol 38 icl 1 w.heap.size v zs w3) (hB:Below w.heap.size w w3) (hN:Bo (Ov w v) w2 w3 N nn st os) (z:Int) (hbig:zs.length≤100000):
  ∃ g' cap' W',(Builtin.append_ #[56,56] 56 #[v,.slice (some ⟨w3.heap.size,0,none⟩) 1 1]).run Tryz.prog (w3.alloc (.cells #[.int .i64 z] 38))= .ok (.slice (some ⟨g',0,none⟩) (zs.length+1) cap') W'∧
   Ol 38 icl 1 w.heap.size (.slice (some ⟨g',0,none⟩) (zs.length+1) cap') (zs++[z]) W'∧Bo (Ov w (.slice (some ⟨g',0,none⟩) (zs.length+1) cap')) W' W' N nn st os∧Below w.heap.size w W':=by
 obtain ⟨g',cap',W',hrun,h6,t,hat⟩:=hO.push1 elemI hB.size z (by omega) 56
 have hb:(Value.slice (some ⟨g',0,none⟩) (zs.length+1) cap').ownBlock=some g':=rfl
 have hg:=h6.lt hb
 refine ⟨g',cap',W',hrun,h6,hN.beside t (fun x hx=>?_) (fun x hx ho=>⟨ho.1,fun e=>?_⟩) (fun x hx=>⟨Nat.le_trans hB.size (Nat.le_trans t.size hx),fun e=>?_⟩),own_below hO hB hB.size t⟩
 ·have hx':v.ownBlock=some x:=by simpa using hx
  obtain ⟨C,hC⟩:=hO.blk hx'
  exact ⟨fun ho=>ho.2 hx',_,C,by decide,hC⟩
 ·rw [hb] at e
  injection e with e
  rcases hat with h|h
  ·exact ho.2 (by rw [h,e])
  ·omega
 ·rw [hb] at e
  injection e with e
  omega
structure EvR (P:Nat→List Int→(Nat→Sv)→List Dg→Prop) (w:World) (N nn k:Nat) (v:Value) (wr:World):Prop where
 ex:∃ zs st os,P k zs st os∧zs.length=k∧Bo (Ov w v) wr wr N nn st os∧Ol 38 icl 1 w.heap.size v zs wr∧Below w.heap.size w wr
theorem EvR.below {P:Nat→List Int→(Nat→Sv)→List Dg→Prop} {k:Nat} (h:EvR P w N nn k v wr):Below w.heap.size w wr:=by
 obtain ⟨_,_,_,-,-,-,-,h⟩:=h.ex
 exact h
theorem EvR.next {P:Nat→List Int→(Nat→Sv)→List Dg→Prop} {k:Nat} (h:EvR P w N nn k v wr) {ev:Value} {w1:World} (hb:Below wr.heap.size wr w1)
  (hs:∀ zs st os O wx,P k zs st os→Bo O wx wx N nn st os→Calls Tryz.prog 52 #[.pointer (some ⟨N,0,none⟩),ev] wx fun x w'=>∃ z,x= .returned (.int .i64 z)∧∃ st' os',P (k+1) (zs++[z]) st' os'∧Bo O wx w' N nn st' os') (hk:k≤100000):
  Calls Tryz.prog 52 #[.pointer (some ⟨N,0,none⟩),ev] w1 fun x w'=>∃ z,x= .returned (.int .i64 z)∧∃ g' cap' W',(Builtin.append_ #[56,56] 56 #[v,.slice (some ⟨w'.heap.size,0,none⟩) 1 1]).run Tryz.prog (w'.alloc (.cells #[.int .i64 z] 38))= .ok (.slice (some ⟨g',0,none⟩) (k+1:Nat) cap') W'∧
   Hid (EvR P w N nn (k+1) (.slice (some ⟨g',0,none⟩) (k+1:Nat) cap') W'):=by
 obtain ⟨zs,st,os,hP,rfl,hN,hO,hB⟩:=h.ex
 refine (hs zs st os _ w1 hP (hN.held hb).here).mono ?_
 rintro x w' ⟨z,rfl,st',os',hP',hN'⟩
 have T:=hN'.tu
 have hB1:=hB.trans (hb.mono hB.size)
 have hB':Below w.heap.size w w':=hB1.trans ⟨T.os,T.tape,T.output,T.size,fun i hi=>T.block i (Nat.lt_of_lt_of_le hi hB1.size) (fun ho=>by have:=ho.1; omega)⟩
 have hO':=(hO.held hb).of_block (W':=w') (fun b e=>T.block b ((hO.held hb).lt e).1 (fun ho=>ho.2 e))
 obtain ⟨g',cap',W',hrun,h6,h7,h8⟩:=came_push hO' hB' hN' z hk
 exact ⟨z,rfl,g',cap',W',hrun,Lib.hid ⟨zs++[z],st',os',hP',by simp,h7,h6,h8⟩⟩
end
set_option maxRecDepth 100000 in
theorem events_any {A:Option Addr} {n cap nn sec:Nat} {es:List Sc.Ev} {w:World} (hE:Sp.El w A n cap es) (hn:n≤100000) (h1:1≤nn) (h8:nn≤8) (hs1:4≤sec) (hs2:sec≤512) {P:(Nat→Nat)→Nat→List Int→(Nat→Sv)→List Dg→Prop}
  (h0:∀ d,P d 0 [] (fun i=>⟨d i,none,fun _=>0,⟨i+1,sec / 2 - 1,sm0⟩⟩) [])
  (hs:∀ (N:Nat) (d:Nat→Nat) (k:Nat) zs st os O wx (hk:k<es.length),P d k zs st os→Bo O wx wx N nn st os→Calls Tryz.prog 52 #[.pointer (some ⟨N,0,none⟩),.agg (Sp.ecs es[k])] wx fun x w'=>∃ z,x= .returned (.int .i64 z)∧∃ st' os',P d (k+1) (zs++[z]) st' os'∧Bo O wx w' N nn st' os'):
  Calls Tryz.prog 33 #[.int .i64 (nn:Nat),.int .i64 (sec:Nat),.slice A n cap] w fun x w'=>∃ N d v,x= .returned (.tuple #[.pointer (some ⟨N,0,none⟩),v])∧EvR (P d) w N nn n v w':=by
 have HN:=bo_new nn h1 h8 sec hs1 hs2 w
 have hlen:=hE.len
 have H:=Lib.hid (And.intro hE (And.intro h0 (And.intro hs hlen)))
 clear hE h0 hs hlen
 go_enter Tryz.func33,Tryz.ntmps33
 go_wp2_with fail
 refine HN.mono ?_
 rintro x w1 ⟨N,d,rfl,h1⟩
 have R0:Hid (EvR (P d) w N nn 0 (.slice none 0 0) w1):=Lib.hid ⟨[],_,[],H.out.2.1 d,rfl,h1.beside (.refl [] _) (fun x hx=>by cases hx) (fun x hx ho=>⟨ho,fun e=>by cases e⟩) (fun x hx=>⟨Nat.le_trans h1.tu.size hx,fun e=>by cases e⟩),Ol.nil _ _,h1.tu.below⟩
 clear HN h1
 go_wp2_with fail
 go_loopw [9,17] (fun v i wr=>∃ k:Nat,i= .int .i64 (k:Nat)∧k≤n∧Hid (EvR (P d) w N nn k v wr)) (fun _ i _=>n - (intOf i).toNat)
 case atStart=>exact ⟨0,rfl,Nat.zero_le _,R0⟩
 case round=>
  clear R0
  rename_i v i wr
  obtain ⟨k,rfl,hkn,R⟩:=hrel
  by_cases hlt:k<n
  ·have hk:k<es.length:=by rw [H.out.2.2.2]; exact hlt
   obtain ⟨b,off,rfl⟩:=H.out.1.plain (by omega)
   have hEw:=H.out.1.held (w':=wr) (by have:=R.out.below; exact this)
   have HD:=fun (w10:World) (hb:Below wr.heap.size wr w10)=>R.out.next (w1:=w10) hb (fun zs st os O wx h1 h2=>H.out.2.2.1 N d k zs st os O wx hk h1 h2) (by omega)
   obtain ⟨e,he⟩:∃ e,es[k]=e:=⟨_,rfl⟩
   obtain ⟨c0,c1,c2,c3,c4,c5,c6⟩:=hEw.at_ hk he
   rw [he] at HD
   unfold Sp.ecs at HD
   have i1:(k:Int)<(n:Int):=by omega
   clear hEw he
   generalize hy0:e.kind=y0 at*
   generalize hy1:e.i=y1 at*
   generalize hy2:e.k=y2 at*
   generalize hy3:e.n=y3 at*
   generalize hy4:e.a=y4 at*
   generalize hy5:e.len=y5 at*
   generalize hy6:(⟨e.p.toArray⟩:ByteArray)=s at*
   clear hy0 hy1 hy2 hy3 hy4 hy5 hy6
   have hbx:=below_new wr (.cells #[.int .i64 y0,.int .i64 y1,.int .i64 y2,.int .i64 y3,.int .u32 (y4:Nat),.int .i64 y5,.string s] 37)
   have BX:=Blk.new wr 37 #[.int .i64 y0,.int .i64 y1,.int .i64 y2,.int .i64 y3,.int .u32 (y4:Nat),.int .i64 y5,.string s]
   have X:=Lib.hid (And.intro hbx BX)
   clear hbx BX
   go_upto_region 6 with fail
   generalize wr.alloc _=w10 at*
   have x0:w10.cell? ⟨wr.heap.size,0,none⟩=some (.int .i64 y0):=X.out.2.at_ 0
   have x1:w10.cell? ⟨wr.heap.size,1,none⟩=some (.int .i64 y1):=X.out.2.at_ 1
   have x2:w10.cell? ⟨wr.heap.size,2,none⟩=some (.int .i64 y2):=X.out.2.at_ 2
   have x3:w10.cell? ⟨wr.heap.size,3,none⟩=some (.int .i64 y3):=X.out.2.at_ 3
   have x4:w10.cell? ⟨wr.heap.size,4,none⟩=some (.int .u32 (y4:Nat)):=X.out.2.at_ 4
   have x5:w10.cell? ⟨wr.heap.size,5,none⟩=some (.int .i64 y5):=X.out.2.at_ 5
   have x6:w10.cell? ⟨wr.heap.size,6,none⟩=some (.string s):=X.out.2.at_ 6
   have HD10:=HD w10 X.out.1
   clear HD c0 c1 c2 c3 c4 c5 c6 R X
   go_wp2_with fail
   refine HD10.mono ?_
   rintro x w11 ⟨z,rfl,g',cap',W',hrun,R'⟩
   clear HD10 x0 x1 x2 x3 x4 x5 x6
   go_wp2_with (first|(at_builtin; refine Lib.wpList_append_run _ rfl (.tmp 21) (.tmp 25) 56 56 rfl _ _ rfl rfl _ _ hrun ?_)|fail)
   go_roundw
   case rel=>exact ⟨k+1,by go_num,by omega,R'⟩
   case measure=>simp [intOf]; omega
  ·obtain rfl:k=n:=by omega
   go_wp2_with fail
   go_ret2
   exact ⟨N,d,_,rfl,R.out⟩
end Go.Proofs.YthaefdlkpljojaaGreatDoor
namespace Go.Proofs.YthaefdlkpljojaaGreatDoor
open Go.RowKit Go.Maps Rm Fm Sb
def alE:List Sc.Ev:=[⟨0,0,0,0,0,0,[]⟩,⟨0,1,0,0,0,0,[]⟩,⟨0,2,0,0,0,0,[]⟩,⟨3,0,1,4,0,0,[]⟩,⟨3,1,2,5,0,0,[]⟩,⟨4,2,0,0,167772160+2*65536,16,[]⟩,⟨10,0,0,0,0,0,[]⟩,⟨10,0,0,0,0,0,[]⟩]
def alD (d:Nat→Nat) (i:Nat):Sv:=⟨d i,none,fun _=>0,z63 i⟩
def alU (d:Nat→Nat) (i:Nat) (c:Nat→Int):Sv:=svS (d i) (i+1) 63 90000 c fN 0 (z63 i)
def c00:Nat→Int:=fun _=>0
def alS (d:Nat→Nat):Nat→(Nat→Sv)
 |0=>three (alD d 0) (alD d 1) (alD d 2)
 |1=>three (alU d 0 c00) (alD d 1) (alD d 2)
 |2=>three (alU d 0 c00) (alU d 1 c00) (alD d 2)
 |3=>three (alU d 0 c00) (alU d 1 c00) (alU d 2 c00)
 |4=>three (alU d 0 (cL 1 4)) (alU d 1 (cL 0 4)) (alU d 2 c00)
 |5=>three (alU d 0 (cL 1 4)) (alU d 1 c102) (alU d 2 (cL 1 5))
 |6=>three (al0 d 63 90000 fN 0) (al1 d 63 90000 fN 0) (al2 d 62 90000 0 0 0 0)
 |7=>three (al0 d 62 90000 fN 1) (al1 d 62 89000 (w2 4) 1) (al2 d 61 90000 1 1 1 8)
 |_=>three (al0 d 61 89000 w0f 2) (al1f d 60 88000 (w2 5) 2) (al2 d 61 89000 2 1 1 8)
def alP (d:Nat→Nat) (k:Nat) (zs:List Int) (st:Nat→Sv) (os:List Dg):Prop:=zs=List.replicate k 0∧os=[]∧∀ i,i<3→st i=alS d k i
section
variable {O:Nat→Prop} {w0 w:World} {N:Nat} {d:Nat→Nat}
theorem al_boot {st:Nat→Sv} (h:Bo O w0 w N 3 st []) {i:Nat} (hi:i<3) (hs:st i=alD d i):Calls Tryz.prog 77 #[.pointer (some ⟨N,0,none⟩),.int .i64 i] w fun e w'=>e= .returned (.int .i64 0)∧Bo O w0 w' N 3 (sets st i (alU d i c00)) []:=by
 refine (bo_boot h hi (d:=d i) (room:=63) (sm:=sm0) (c:=fun _=>0) hs (fun _=>⟨by decide,by decide⟩)).mono ?_
 rintro e w' ⟨rfl,h2⟩
 rw [mrB_zero] at h2
 exact ⟨rfl,h2⟩
end
theorem al_set {d:Nat→Nat} {k j:Nat} {st:Nat→Sv} {s:Sv} (h:∀ i,i<3→st i=alS d k i) (hs:s=alS d (k+1) j) (ho:∀ i,i<3→i≠j→alS d k i=alS d (k+1) i):∀ i,i<3→sets st j s i=alS d (k+1) i:=fun i hi=>by
 by_cases e:i=j
 ·subst e; rw [sets_same,hs]
 ·rw [sets_other e,h i hi,ho i hi e]
theorem rep_snoc (k:Nat):List.replicate k (0:Int)++[0]=List.replicate (k+1) 0:=by rw [List.replicate_succ']
theorem al_boots {O:Nat→Prop} {wx:World} {N:Nat} {d:Nat→Nat} {k:Nat} {st:Nat→Sv} (hk:k<3) (hst:∀ i,i<3→st i=alS d k i) (hB:Bo O wx wx N 3 st []):
  Calls Tryz.prog 52 #[.pointer (some ⟨N,0,none⟩),.agg (Sp.ecs ⟨0,(k:Nat),0,0,0,0,[]⟩)] wx fun x w'=>∃ z,x= .returned (.int .i64 z)∧∃ st' os',alP d (k+1) (List.replicate k 0++[z]) st' os'∧Bo O wx w' N 3 st' os':=by
 have hk3:k=0∨k=1∨k=2:=by omega
 refine do_boot (Q:=fun z w'=>∃ st' os',alP d (k+1) (List.replicate k 0++[z]) st' os'∧Bo O wx w' N 3 st' os') (by decide) (by rcases hk3 with rfl|rfl|rfl<;>decide+kernel) (fun w1 hb=>?_)
 refine (al_boot (hB.held hb) (i:=k) hk (by rw [hst k hk]; rcases hk3 with rfl|rfl|rfl<;>rfl)).mono ?_
 rintro e w' ⟨rfl,h2⟩
 refine ⟨0,rfl,_,_,⟨rep_snoc k,rfl,al_set hst ?_ ?_⟩,h2⟩
 ·rcases hk3 with rfl|rfl|rfl<;>rfl
 ·intro i hi hne
  have:i=0∨i=1∨i=2:=by omega
  rcases hk3 with rfl|rfl|rfl<;>rcases this with rfl|rfl|rfl<;>first|rfl|exact absurd rfl hne
theorem al_link {O:Nat→Prop} {wx:World} {N:Nat} {d:Nat→Nat} {st:Nat→Sv} (hst:∀ i,i<3→st i=alS d 3 i) (hB:Bo O wx wx N 3 st []):
  Calls Tryz.prog 52 #[.pointer (some ⟨N,0,none⟩),.agg (Sp.ecs ⟨3,0,1,4,0,0,[]⟩)] wx fun x w'=>∃ z,x= .returned (.int .i64 z)∧∃ st' os',alP d 4 (List.replicate 3 0++[z]) st' os'∧Bo O wx w' N 3 st' os':=by
 refine do_link (Q:=fun z w'=>∃ st' os',alP d 4 (List.replicate 3 0++[z]) st' os'∧Bo O wx w' N 3 st' os') (by decide) (by decide+kernel) (fun w1 hb=>?_)
 have hS:Bo O wx w1 N 3 (alS d 3) []:=(hB.held hb).same hst
 refine Calls.mono (show Calls Tryz.prog 81 #[.pointer (some ⟨N,0,none⟩),.int .i64 0,.int .i64 1,.int .i64 4] w1 _ from bo_link hS (a:=0) (b:=1) (by omega) (by omega) (by omega) (cost:=4) (by decide) (by decide)) ?_
 rintro e w' ⟨rfl,h2⟩
 refine ⟨0,rfl,_,_,⟨rep_snoc 3,rfl,fun i hi=>?_⟩,h2⟩
 have:i=0∨i=1∨i=2:=by omega
 rcases this with rfl|rfl|rfl
 ·show Sv.mk _ (some ⟨_,_,Mr.link (Ms (d 0) 1 c00 fN 0) 1 4⟩) _ _=_
  rw [show fN=fun _=>none from rfl,link_ms]; rfl
 ·show Sv.mk _ (some ⟨_,_,Mr.link (Ms (d 1) 2 c00 fN 0) 0 4⟩) _ _=_
  rw [show fN=fun _=>none from rfl,link_ms]; rfl
 ·rfl
section
variable {O:Nat→Prop} {wx:World} {N:Nat} {d:Nat→Nat} {st:Nat→Sv}
theorem al_link2 (hst:∀ i,i<3→st i=alS d 4 i) (hB:Bo O wx wx N 3 st []):
  Calls Tryz.prog 52 #[.pointer (some ⟨N,0,none⟩),.agg (Sp.ecs ⟨3,1,2,5,0,0,[]⟩)] wx fun x w'=>∃ z,x= .returned (.int .i64 z)∧∃ st' os',alP d 5 (List.replicate 4 0++[z]) st' os'∧Bo O wx w' N 3 st' os':=by
 refine do_link (Q:=fun z w'=>∃ st' os',alP d 5 (List.replicate 4 0++[z]) st' os'∧Bo O wx w' N 3 st' os') (by decide) (by decide+kernel) (fun w1 hb=>?_)
 have hS:Bo O wx w1 N 3 (alS d 4) []:=(hB.held hb).same hst
 refine Calls.mono (show Calls Tryz.prog 81 #[.pointer (some ⟨N,0,none⟩),.int .i64 1,.int .i64 2,.int .i64 5] w1 _ from bo_link hS (a:=1) (b:=2) (by omega) (by omega) (by omega) (cost:=5) (by decide) (by decide)) ?_
 rintro e w' ⟨rfl,h2⟩
 refine ⟨0,rfl,_,_,⟨rep_snoc 4,rfl,fun i hi=>?_⟩,h2⟩
 have:i=0∨i=1∨i=2:=by omega
 rcases this with rfl|rfl|rfl
 ·rfl
 ·show Sv.mk _ (some ⟨_,_,Mr.link (Ms (d 1) 2 (cL 0 4) fN 0) 2 5⟩) _ _=_
  rw [show fN=fun _=>none from rfl,link_ms]; rfl
 ·show Sv.mk _ (some ⟨_,_,Mr.link (Ms (d 2) 3 c00 fN 0) 1 5⟩) _ _=_
  rw [show fN=fun _=>none from rfl,link_ms]; rfl
theorem al_round (k:Nat) (hk:k=6∨k=7) (hst:∀ i,i<3→st i=alS d k i) (hB:Bo O wx wx N 3 st []):
  Calls Tryz.prog 52 #[.pointer (some ⟨N,0,none⟩),.agg (Sp.ecs ⟨10,0,0,0,0,0,[]⟩)] wx fun x w'=>∃ z,x= .returned (.int .i64 z)∧∃ st' os',alP d (k+1) (List.replicate k 0++[z]) st' os'∧Bo O wx w' N 3 st' os':=by
 refine do_round (Q:=fun z w'=>∃ st' os',alP d (k+1) (List.replicate k 0++[z]) st' os'∧Bo O wx w' N 3 st' os') (by decide) (by decide+kernel) (fun w1 hb=>?_)
 have hS:Bo O wx w1 N 3 (alS d k) []:=(hB.held hb).same hst
 rcases hk with rfl|rfl
 ·refine (al_round1 hS).mono ?_
  rintro e w' ⟨rfl,h2⟩
  exact ⟨rfl,_,_,⟨rep_snoc 6,rfl,fun i hi=>rfl⟩,h2⟩
 ·refine (al_round2 hS).mono ?_
  rintro e w' ⟨rfl,h2⟩
  exact ⟨rfl,_,_,⟨rep_snoc 7,rfl,fun i hi=>rfl⟩,h2⟩
theorem al_own (hst:∀ i,i<3→st i=alS d 5 i) (hB:Bo O wx wx N 3 st []):
  Calls Tryz.prog 52 #[.pointer (some ⟨N,0,none⟩),.agg (Sp.ecs ⟨4,2,0,0,167772160+2*65536,16,[]⟩)] wx fun x w'=>∃ z,x= .returned (.int .i64 z)∧∃ st' os',alP d 6 (List.replicate 5 0++[z]) st' os'∧Bo O wx w' N 3 st' os':=by
 refine do_own (Q:=fun z w'=>∃ st' os',alP d 6 (List.replicate 5 0++[z]) st' os'∧Bo O wx w' N 3 st' os') (by decide) (by decide+kernel) (fun w1 hb=>?_)
 have hS:Bo O wx w1 N 3 (alS d 5) []:=(hB.held hb).same hst
 refine Calls.mono (show Calls Tryz.prog 82 #[.pointer (some ⟨N,0,none⟩),.int .i64 2,.agg #[.int .u32 ((167772160+2*65536:Nat):Int),.int .i64 16],.bool true] w1 _ from bo_own_ms hS (i:=2) (by omega) (room:=62) rfl (k:=2) (by omega)) ?_
 rintro e w' ⟨rfl,h2⟩
 refine ⟨0,rfl,_,_,⟨rep_snoc 5,rfl,fun i hi=>?_⟩,h2⟩
 have:i=0∨i=1∨i=2:=by omega
 rcases this with rfl|rfl|rfl<;>rfl
end
end Go.Proofs.YthaefdlkpljojaaGreatDoor
