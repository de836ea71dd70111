import Derived.Test.YthaefdlkpljojaaGreatDoorQ21
import Derived.Laws.ResultCell
import Derived.Deep.Cut
import Derived.Deep.CutRange
import Derived.Deep.DeepCutAuto
import Derived.Maps.Own
import Derived.Lib.AppendZeros
set_option maxHeartbeats 8000000
namespace Go.Proofs.YthaefdlkpljojaaGreatDoor.Sp
open Go.RowKit Go.Maps Sc
theorem ok_nats {e:Ev} (h:right e=true):∃ kd i k n l:Nat,e.kind=kd∧e.i=i∧e.k=k∧e.n=n∧e.len=l∧kd≤10∧i≤65536∧k≤65536∧n≤65536∧l≤32∧e.p.length≤240:=by
 have O:=right_ok h
 have:=O.kind1; have:=O.kind2; have:=O.i1; have:=O.i2; have:=O.k1; have:=O.k2; have:=O.n1; have:=O.n2; have:=O.len1; have:=O.len2; have:=O.few
 exact ⟨e.kind.toNat,e.i.toNat,e.k.toNat,e.n.toNat,e.len.toNat,by omega,by omega,by omega,by omega,by omega,by omega,by omega,by omega,by omega,by omega,by omega⟩
theorem Ob.of_blk {W:World} {B g:Nat} {bs:List Nat} (h:Blk 5 W g (cls bs)) (hB:B≤g) (hl:bs.length≤5000) {n:Nat} (hn:n=bs.length):Ob B (.slice (some ⟨g,0,none⟩) n n) bs W:=by
 subst hn
 exact ⟨by rw [flat_bcl]; simp,.inr ⟨g,bs.length,cls bs,rfl,hB,h,Nat.le_refl _,maxLen_small hl,by simp [cls],by rw [flat_bcl]; simp [cls,List.take_of_length_le]⟩⟩
theorem cut_low (A:Option Addr) (n cap k:Nat) (hk:k≤n) (hcap:n≤cap) (w:World) {z:Int} (hz:z=k) {A':Option Addr} (hA:A'=if cap=k then A else A.map (·.add k)) {m c:Nat} (hm:m=n - k) (hc:c=cap - k):
  (Instr.slice 25 (.slice A n cap) (some (.int .i64 z)) none none).run Tryz.prog w= .ok (.slice A' m c) w:=by
 subst hA hm hc
 have d1:(k:Int)≤(n:Int):=by omega
 subst hz
 by_cases e:cap=k
 ·rw [if_pos e]; subst e; go_simp
 ·rw [if_neg e]; go_simp
theorem cut_both (b off n cap k l:Nat) (hk:k<l) (hl:l≤cap) (w:World) {z y:Int} (hz:z=k) (hy:y=l) {o' m c:Nat} (ho:o'=off+k) (hm:m=l - k) (hc:c=cap - k):
  (Instr.slice 25 (.slice (some ⟨b,off,none⟩) n cap) (some (.int .i64 z)) (some (.int .i64 y)) none).run Tryz.prog w= .ok (.slice (some ⟨b,o',none⟩) m c) w:=by
 subst hm hc ho
 have d1:(k:Int)≤(l:Int):=by omega
 have d2:(l:Int)≤(cap:Int):=by omega
 have d3:¬ cap=k:=by omega
 subst hz hy
 go_simp
theorem wrap64b {m:Nat} (h:m<256):IntKind.i64.wrap (16+(m:Int))=16+m:=by rw [IntKind.wrap_i64]; omega
theorem wrap32 {x:Nat} (h:x<4294967296):IntKind.u32.wrap (x:Int)=x:=by simp [IntKind.wrap,IntKind.bits,IntKind.signed]; omega
theorem cls_set (l:List Nat) (i v:Nat):(cls l).setIfInBounds i (cell v)=cls (l.set i v):=by simp [cls,List.map_set]
theorem _root_.Go.Proofs.YthaefdlkpljojaaGreatDoor.Blk.bset {w:World} {g:Nat} {l:List Nat} (h:Blk 5 w g (cls l)) (i v:Nat):Blk 5 (w.setCell ⟨g,i,none⟩ (cell v)) g (cls (l.set i v)):=by
 rw [← cls_set]; exact h.store i (cell v)
theorem put_l3 (g off cap v:Nat) (hv:v<16777216) (l:List Nat) (w:World) (h:Blk 5 w g (cls l)) (hs:off+3≤l.length):
  Calls Tryz.prog 26 #[.slice (some ⟨g,off,none⟩) 3 cap,.int .u32 v] w fun e w'=>e= .returned (.tuple #[])∧Blk 5 w' g (cls (((l.set off (v / 65536 % 256)).set (off+1) (v / 256 % 256)).set (off+2) (v % 256)))∧Turn [g] w w':=by
 refine (put_three g off cap v hv (cls l) w h (by simpa [cls] using hs)).mono ?_
 rintro e w' ⟨rfl,rfl⟩
 exact ⟨rfl,((h.bset _ _).bset _ _).bset _ _,((Turn.setCell _ (by simp) _).trans (Turn.setCell _ (by simp) _)).trans (Turn.setCell _ (by simp) _)⟩
theorem put_l2 (g off cap v:Nat) (hv:v<65536) (l:List Nat) (w:World) (h:Blk 5 w g (cls l)) (hs:off+2≤l.length):
  Calls Tryz.prog 26 #[.slice (some ⟨g,off,none⟩) 2 cap,.int .u32 v] w fun e w'=>e= .returned (.tuple #[])∧Blk 5 w' g (cls ((l.set off (v / 256 % 256)).set (off+1) (v % 256)))∧Turn [g] w w':=by
 refine (put_two g off cap v hv (cls l) w h (by simpa [cls] using hs)).mono ?_
 rintro e w' ⟨rfl,rfl⟩
 exact ⟨rfl,(h.bset _ _).bset _ _,(Turn.setCell _ (by simp) _).trans (Turn.setCell _ (by simp) _)⟩
theorem put_l4 (g off cap v:Nat) (hv:v<4294967296) (l:List Nat) (w:World) (h:Blk 5 w g (cls l)) (hs:off+4≤l.length):
  Calls Tryz.prog 26 #[.slice (some ⟨g,off,none⟩) 4 cap,.int .u32 v] w fun e w'=>e= .returned (.tuple #[])∧Blk 5 w' g (cls ((((l.set off (v / 16777216 % 256)).set (off+1) (v / 65536 % 256)).set (off+2) (v / 256 % 256)).set (off+3) (v % 256)))∧Turn [g] w w':=by
 refine (put_four g off cap v hv (cls l) w h (by simpa [cls] using hs)).mono ?_
 rintro e w' ⟨rfl,rfl⟩
 exact ⟨rfl,(((h.bset _ _).bset _ _).bset _ _).bset _ _,(((Turn.setCell _ (by simp) _).trans (Turn.setCell _ (by simp) _)).trans (Turn.setCell _ (by simp) _)).trans (Turn.setCell _ (by simp) _)⟩
def z16:List Nat:=List.replicate 16 0
theorem make16 (w:World):(Instr.makeSlice 25 (.int .i64 16) (.int .i64 16)).run Tryz.prog w= .ok (.slice (some ⟨w.heap.size,0,none⟩) 16 16) (w.alloc (.cells (cls z16) 5)):=by kernel_rfl
set_option maxRecDepth 100000 in
theorem ebytes_any {e:Ev} (h:right e=true) (ha:e.a<4294967296) (w:World):
  Calls Tryz.prog 27 #[.agg (ecs e)] w fun x w'=>∃ g cap q,x= .returned (.slice (some ⟨g,0,none⟩) q cap)∧q=(ebytes e).length∧Ob w.heap.size (.slice (some ⟨g,0,none⟩) q cap) (ebytes e) w'∧Below w.heap.size w w':=by
 obtain ⟨kd,i,k,n,l,e0,e1,e2,e3,e4,h0,h1,h2,h3,h4,h5⟩:=ok_nats h
 obtain ⟨kind,ii,kk,nn,a,ll,p⟩:=e
 simp only at e0 e1 e2 e3 e4 h5 ha
 subst e0 e1 e2 e3 e4
 obtain ⟨s,hs⟩:∃ s:ByteArray,s=⟨p.toArray⟩:=⟨_,rfl⟩
 obtain ⟨X,hX⟩:∃ X,X=ecs ⟨kd,i,k,n,a,l,p⟩:=⟨_,rfl⟩
 have hX2:X=#[.int .i64 (kd:Int),.int .i64 (i:Int),.int .i64 (k:Int),.int .i64 (n:Int),.int .u32 (a:Int),.int .i64 (l:Int),.string s]:=by rw [hX,hs]; rfl
 obtain ⟨m,hm⟩:∃ m,m=p.length:=⟨_,rfl⟩
 have hsz:s.size=m:=by rw [hs,hm]; exact str_size p
 rw [← hm] at h5
 have EB:Hid (ebytes ⟨kd,i,k,n,a,l,p⟩=[kd % 256,i / 65536 % 256,i / 256 % 256,i % 256,k / 65536 % 256,k / 256 % 256,k % 256,n / 65536 % 256,n / 256 % 256,n % 256,a / 16777216 % 256,a / 65536 % 256,a / 256 % 256,a % 256,l % 256,m % 256]++Sc.nats p):=Lib.hid (by rw [hm]; rfl)
 have HS:=Lib.hid (And.intro hs (And.intro hm hsz))
 rw [← hX,hX2]
 clear h hX hX2 hs hm X
 go_enter Tryz.func27,Tryz.ntmps27
 have mk:=make16
 go_upto_region 2 with fail
 have BE:=Blk.new w 37 #[.int .i64 (kd:Int),.int .i64 (i:Int),.int .i64 (k:Int),.int .i64 (n:Int),.int .u32 (a:Int),.int .i64 (l:Int),.string s]
 have hb1:=below_new w (.cells #[.int .i64 (kd:Int),.int .i64 (i:Int),.int .i64 (k:Int),.int .i64 (n:Int),.int .u32 (a:Int),.int .i64 (l:Int),.string s] 37)
 have hs1:=size_new w (.cells #[.int .i64 (kd:Int),.int .i64 (i:Int),.int .i64 (k:Int),.int .i64 (n:Int),.int .u32 (a:Int),.int .i64 (l:Int),.string s] 37)
 generalize w.alloc (.cells #[.int .i64 (kd:Int),.int .i64 (i:Int),.int .i64 (k:Int),.int .i64 (n:Int),.int .u32 (a:Int),.int .i64 (l:Int),.string s] 37)=w1 at*
 have BG:=Blk.new w1 5 (cls z16)
 have BE2:=BE.more (.cells (cls z16) 5)
 have hb2:=next hb1 (below_new w1 (.cells (cls z16) 5))
 rw [hs1] at BG
 generalize w1.alloc (.cells (cls z16) 5)=w2 at*
 have c0:w2.cell? ⟨w.heap.size,0,none⟩=some (.int .i64 (kd:Int)):=BE2.at_ 0
 have g0:w2.cell? ⟨w.heap.size+1,0,none⟩=some (.int .u8 0):=BG.at_ 0
 have f0:=BG.free 0
 have Y2:=Lib.hid (And.intro BE2 (And.intro BG hb2))
 clear BE hb1 hs1 BG BE2 hb2 mk
 go_upto_region 3 with fail
 have BE3:=Y2.out.1.away (p:=⟨w.heap.size+1,0,none⟩) (by show ¬ w.heap.size=w.heap.size+1; omega) (cell kd)
 have BG3:=Y2.out.2.1.bset 0 kd
 have hb3:=Y2.out.2.2.setCell (p:=⟨w.heap.size+1,0,none⟩) (by show w.heap.size≤w.heap.size+1; omega) (cell kd)
 unfold cell at BE3 BG3 hb3
 generalize w2.setCell ⟨w.heap.size+1,0,none⟩ (.int .u8 (kd:Int))=w3 at*
 obtain ⟨l3,hl3⟩:∃ l3,l3=z16.set 0 kd:=⟨_,rfl⟩
 rw [← hl3] at BG3
 have hn3:l3.length=16:=by rw [hl3]; rfl
 clear c0 g0 f0 Y2
 have d3:w3.drew.cell? ⟨w.heap.size,1,none⟩=some (.int .i64 (i:Int)):=BE3.at_ 1
 have HP3:=put_l3 (w.heap.size+1) 1 15 i (by omega) l3 w3.drew BG3.drew (by omega)
 have Y3:=Lib.hid (And.intro BE3 (And.intro hb3 (And.intro hl3 hn3)))
 clear BE3 BG3 hb3 hl3 hn3
 refine wp_region_held_drew (S:=fun u=>u.cell? ⟨w.heap.size,1,none⟩=some (.int .i64 (i:Int))) (by kernel_rfl) d3 (fun hHeld=>?_)
 refine take_list (i:=0) (v:= .slice (some ⟨w.heap.size+1,0,none⟩) 16 16) rfl (by kernel_rfl) (by kernel_rfl) (by kernel_rfl) (fun _ _ _ h=>h) (.inl ⟨rfl,?_⟩) hHeld ?_
 ·(intro w hSw; go_simp)
 go_frame
 refine take_list (i:=1) (v:= .slice (some ⟨w.heap.size+1,1,none⟩) 3 15) rfl (by kernel_rfl) (by kernel_rfl) (by kernel_rfl) (fun _ _ _ h=>h) (.inl ⟨rfl,?_⟩) hHeld ?_
 ·(intro w hSw; go_simp)
 go_frame
 refine take_list (i:=2) (v:= .pointer (some ⟨w.heap.size,1,none⟩)) rfl (by kernel_rfl) (by kernel_rfl) (by kernel_rfl) (fun _ _ _ h=>h) (.inl ⟨rfl,?_⟩) hHeld ?_
 ·(intro w hSw; go_simp)
 go_frame
 refine take_list (i:=3) (v:= .int .i64 (i:Int)) rfl (by kernel_rfl) (by kernel_rfl) (by kernel_rfl) (fun _ _ _ h=>h) (.inl ⟨rfl,?_⟩) hHeld ?_
 ·(intro w hSw; go_simp)
 go_frame
 refine take_list (i:=4) (v:= .int .u32 (i:Int)) rfl (by kernel_rfl) (by kernel_rfl) (by kernel_rfl) (fun _ _ _ h=>h) (.inl ⟨rfl,?_⟩) hHeld ?_
 ·(intro w hSw; go_simp; exact wrap32 (by omega))
 go_frame
 refine ready_list (i:=5) rfl (by kernel_rfl) (fun K hK=>?_)
 go_simp
 refine HP3.mono ?_
 rintro e w4 ⟨rfl,BG4,T4⟩
 refine hK.out _ _ (T4.cell d3 (by simp)) (fun hHeld=>?_)
 have BE4:=Y3.out.1.drew.turn T4 (by simp)
 have hb4:=Y3.out.2.1.drew.trans (T4.below (B:=w.heap.size) (by simp) Y3.out.2.1.size)
 obtain ⟨l4,hl4⟩:∃ l4,l4=((l3.set 1 (i / 65536 % 256)).set 2 (i / 256 % 256)).set 3 (i % 256):=⟨_,rfl⟩
 rw [← hl4] at BG4
 have hn4:l4.length=16:=by rw [hl4]; simpa using Y3.out.2.2.2
 rw [Y3.out.2.2.1] at hl4
 clear hK K HP3 d3 T4 Y3 hHeld
 refine wpAnyH_done (by kernel_rfl) ?_ _
 try go_frame
 go_upto_region 4 with fail
 have d4:w4.drew.cell? ⟨w.heap.size,2,none⟩=some (.int .i64 (k:Int)):=BE4.at_ 2
 have HP4:=put_l3 (w.heap.size+1) 4 12 k (by omega) l4 w4.drew BG4.drew (by omega)
 have Y4:=Lib.hid (And.intro BE4 (And.intro hb4 (And.intro hl4 hn4)))
 clear BE4 BG4 hb4 hl4 hn4
 refine wp_region_held_drew (S:=fun u=>u.cell? ⟨w.heap.size,2,none⟩=some (.int .i64 (k:Int))) (by kernel_rfl) d4 (fun hHeld=>?_)
 refine take_list (i:=0) (v:= .slice (some ⟨w.heap.size+1,0,none⟩) 16 16) rfl (by kernel_rfl) (by kernel_rfl) (by kernel_rfl) (fun _ _ _ h=>h) (.inl ⟨rfl,?_⟩) hHeld ?_
 ·(intro w hSw; go_simp)
 go_frame
 refine take_list (i:=1) (v:= .slice (some ⟨w.heap.size+1,4,none⟩) 3 12) rfl (by kernel_rfl) (by kernel_rfl) (by kernel_rfl) (fun _ _ _ h=>h) (.inl ⟨rfl,?_⟩) hHeld ?_
 ·(intro w hSw; go_simp)
 go_frame
 refine take_list (i:=2) (v:= .pointer (some ⟨w.heap.size,2,none⟩)) rfl (by kernel_rfl) (by kernel_rfl) (by kernel_rfl) (fun _ _ _ h=>h) (.inl ⟨rfl,?_⟩) hHeld ?_
 ·(intro w hSw; go_simp)
 go_frame
 refine take_list (i:=3) (v:= .int .i64 (k:Int)) rfl (by kernel_rfl) (by kernel_rfl) (by kernel_rfl) (fun _ _ _ h=>h) (.inl ⟨rfl,?_⟩) hHeld ?_
 ·(intro w hSw; go_simp)
 go_frame
 refine take_list (i:=4) (v:= .int .u32 (k:Int)) rfl (by kernel_rfl) (by kernel_rfl) (by kernel_rfl) (fun _ _ _ h=>h) (.inl ⟨rfl,?_⟩) hHeld ?_
 ·(intro w hSw; go_simp; exact wrap32 (by omega))
 go_frame
 refine ready_list (i:=5) rfl (by kernel_rfl) (fun K hK=>?_)
 go_simp
 refine HP4.mono ?_
 rintro e w5 ⟨rfl,BG5,T5⟩
 refine hK.out _ _ (T5.cell d4 (by simp)) (fun hHeld=>?_)
 have BE5:=Y4.out.1.drew.turn T5 (by simp)
 have hb5:=Y4.out.2.1.drew.trans (T5.below (B:=w.heap.size) (by simp) Y4.out.2.1.size)
 obtain ⟨l5,hl5⟩:∃ l5,l5=((l4.set 4 (k / 65536 % 256)).set 5 (k / 256 % 256)).set 6 (k % 256):=⟨_,rfl⟩
 rw [← hl5] at BG5
 have hn5:l5.length=16:=by rw [hl5]; simpa using Y4.out.2.2.2
 rw [Y4.out.2.2.1] at hl5
 clear hK K HP4 d4 T5 Y4 hHeld
 refine wpAnyH_done (by kernel_rfl) ?_ _
 try go_frame
 go_upto_region 5 with fail
 have d5:w5.drew.cell? ⟨w.heap.size,3,none⟩=some (.int .i64 (n:Int)):=BE5.at_ 3
 have HP5:=put_l3 (w.heap.size+1) 7 9 n (by omega) l5 w5.drew BG5.drew (by omega)
 have Y5:=Lib.hid (And.intro BE5 (And.intro hb5 (And.intro hl5 hn5)))
 clear BE5 BG5 hb5 hl5 hn5
 refine wp_region_held_drew (S:=fun u=>u.cell? ⟨w.heap.size,3,none⟩=some (.int .i64 (n:Int))) (by kernel_rfl) d5 (fun hHeld=>?_)
 refine take_list (i:=0) (v:= .slice (some ⟨w.heap.size+1,0,none⟩) 16 16) rfl (by kernel_rfl) (by kernel_rfl) (by kernel_rfl) (fun _ _ _ h=>h) (.inl ⟨rfl,?_⟩) hHeld ?_
 ·(intro w hSw; go_simp)
 go_frame
 refine take_list (i:=1) (v:= .slice (some ⟨w.heap.size+1,7,none⟩) 3 9) rfl (by kernel_rfl) (by kernel_rfl) (by kernel_rfl) (fun _ _ _ h=>h) (.inl ⟨rfl,?_⟩) hHeld ?_
 ·(intro w hSw; go_simp)
 go_frame
 refine take_list (i:=2) (v:= .pointer (some ⟨w.heap.size,3,none⟩)) rfl (by kernel_rfl) (by kernel_rfl) (by kernel_rfl) (fun _ _ _ h=>h) (.inl ⟨rfl,?_⟩) hHeld ?_
 ·(intro w hSw; go_simp)
 go_frame
 refine take_list (i:=3) (v:= .int .i64 (n:Int)) rfl (by kernel_rfl) (by kernel_rfl) (by kernel_rfl) (fun _ _ _ h=>h) (.inl ⟨rfl,?_⟩) hHeld ?_
 ·(intro w hSw; go_simp)
 go_frame
 refine take_list (i:=4) (v:= .int .u32 (n:Int)) rfl (by kernel_rfl) (by kernel_rfl) (by kernel_rfl) (fun _ _ _ h=>h) (.inl ⟨rfl,?_⟩) hHeld ?_
 ·(intro w hSw; go_simp; exact wrap32 (by omega))
 go_frame
 refine ready_list (i:=5) rfl (by kernel_rfl) (fun K hK=>?_)
 go_simp
 refine HP5.mono ?_
 rintro e w6 ⟨rfl,BG6,T6⟩
 refine hK.out _ _ (T6.cell d5 (by simp)) (fun hHeld=>?_)
 have BE6:=Y5.out.1.drew.turn T6 (by simp)
 have hb6:=Y5.out.2.1.drew.trans (T6.below (B:=w.heap.size) (by simp) Y5.out.2.1.size)
 obtain ⟨l6,hl6⟩:∃ l6,l6=((l5.set 7 (n / 65536 % 256)).set 8 (n / 256 % 256)).set 9 (n % 256):=⟨_,rfl⟩
 rw [← hl6] at BG6
 have hn6:l6.length=16:=by rw [hl6]; simpa using Y5.out.2.2.2
 rw [Y5.out.2.2.1] at hl6
 clear hK K HP5 d5 T6 Y5 hHeld
 refine wpAnyH_done (by kernel_rfl) ?_ _
 try go_frame
 go_upto_region 6 with fail
 have d6:w6.drew.cell? ⟨w.heap.size,4,none⟩=some (.int .u32 (a:Int)):=BE6.at_ 4
 have HP6:=put_l4 (w.heap.size+1) 10 6 a (by omega) l6 w6.drew BG6.drew (by omega)
 have Y6:=Lib.hid (And.intro BE6 (And.intro hb6 (And.intro hl6 hn6)))
 clear BE6 BG6 hb6 hl6 hn6
 refine wp_region_held_drew (S:=fun u=>u.cell? ⟨w.heap.size,4,none⟩=some (.int .u32 (a:Int))) (by kernel_rfl) d6 (fun hHeld=>?_)
 refine take_list (i:=0) (v:= .slice (some ⟨w.heap.size+1,0,none⟩) 16 16) rfl (by kernel_rfl) (by kernel_rfl) (by kernel_rfl) (fun _ _ _ h=>h) (.inl ⟨rfl,?_⟩) hHeld ?_
 ·(intro w hSw; go_simp)
 go_frame
 refine take_list (i:=1) (v:= .slice (some ⟨w.heap.size+1,10,none⟩) 4 6) rfl (by kernel_rfl) (by kernel_rfl) (by kernel_rfl) (fun _ _ _ h=>h) (.inl ⟨rfl,?_⟩) hHeld ?_
 ·(intro w hSw; go_simp)
 go_frame
 refine take_list (i:=2) (v:= .pointer (some ⟨w.heap.size,4,none⟩)) rfl (by kernel_rfl) (by kernel_rfl) (by kernel_rfl) (fun _ _ _ h=>h) (.inl ⟨rfl,?_⟩) hHeld ?_
 ·(intro w hSw; go_simp)
 go_frame
 refine take_list (i:=3) (v:= .pointer (some ⟨w.heap.size,4,none⟩)) rfl (by kernel_rfl) (by kernel_rfl) (by kernel_rfl) (fun _ _ _ h=>h) (.inl ⟨rfl,?_⟩) hHeld ?_
 ·(intro w hSw; go_simp)
 go_frame
 refine take_list (i:=4) (v:= .int .u32 (a:Int)) rfl (by kernel_rfl) (by kernel_rfl) (by kernel_rfl) (fun _ _ _ h=>h) (.inl ⟨rfl,?_⟩) hHeld ?_
 ·(intro w hSw; go_simp)
 go_frame
 refine ready_list (i:=5) rfl (by kernel_rfl) (fun K hK=>?_)
 go_simp
 refine HP6.mono ?_
 rintro e w7 ⟨rfl,BG7,T7⟩
 refine hK.out _ _ (T7.cell d6 (by simp)) (fun hHeld=>?_)
 have BE7:=Y6.out.1.drew.turn T7 (by simp)
 have hb7:=Y6.out.2.1.drew.trans (T7.below (B:=w.heap.size) (by simp) Y6.out.2.1.size)
 obtain ⟨l7,hl7⟩:∃ l7,l7=(((l6.set 10 (a / 16777216 % 256)).set 11 (a / 65536 % 256)).set 12 (a / 256 % 256)).set 13 (a % 256):=⟨_,rfl⟩
 rw [← hl7] at BG7
 have hn7:l7.length=16:=by rw [hl7]; simpa using Y6.out.2.2.2
 rw [Y6.out.2.2.1] at hl7
 clear hK K HP6 d6 T7 Y6 hHeld
 refine wpAnyH_done (by kernel_rfl) ?_ _
 try go_frame
 go_upto_region 7 with fail
 obtain ⟨y,hy⟩:∃ y:Nat,l7[14]?=some y:=⟨l7[14]'(by omega),by simp⟩
 obtain ⟨y5,hy5⟩:∃ y:Nat,l7[15]?=some y:=⟨l7[15]'(by omega),by simp⟩
 have c5:w7.cell? ⟨w.heap.size,5,none⟩=some (.int .i64 (l:Int)):=BE7.at_ 5
 have g5:w7.cell? ⟨w.heap.size+1,14,none⟩=some (cell y):=(BG7.at_ 14).trans (by simp [cls,hy])
 have f5:=BG7.free 14
 have BE8:=BE7.away (p:=⟨w.heap.size+1,14,none⟩) (by show ¬ w.heap.size=w.heap.size+1; omega) (cell l)
 have BG8:=BG7.bset 14 l
 have hb8:=hb7.setCell (p:=⟨w.heap.size+1,14,none⟩) (by show w.heap.size≤w.heap.size+1; omega) (cell l)
 unfold cell at BE8 BG8 hb8 g5
 have Y7:=Lib.hid (And.intro BE8 (And.intro BG8 (And.intro hb8 (And.intro hl7 (And.intro hn7 hy5)))))
 clear BE7 BG7 hb7 hl7 hn7 hy hy5 BE8 BG8 hb8
 go_upto_region 8 with fail
 clear c5 g5 f5
 generalize w7.setCell ⟨w.heap.size+1,14,none⟩ (.int .u8 (l:Int))=w8 at*
 have c6:w8.cell? ⟨w.heap.size,6,none⟩=some (.string s):=Y7.out.1.at_ 6
 have g6:w8.cell? ⟨w.heap.size+1,15,none⟩=some (cell y5):=(Y7.out.2.1.at_ 15).trans (by simp [cls,Y7.out.2.2.2.2.2])
 have f6:=Y7.out.2.1.free 15
 have BE9:=Y7.out.1.away (p:=⟨w.heap.size+1,15,none⟩) (by show ¬ w.heap.size=w.heap.size+1; omega) (cell m)
 have BG9:=Y7.out.2.1.bset 15 m
 have hb9:=Y7.out.2.2.1.setCell (p:=⟨w.heap.size+1,15,none⟩) (by show w.heap.size≤w.heap.size+1; omega) (cell m)
 unfold cell at BE9 BG9 hb9 g6
 have Y8:=Lib.hid (And.intro BE9 (And.intro BG9 (And.intro hb9 Y7.out.2.2.2)))
 clear BE9 BG9 hb9 Y7
 go_upto_region 9 with fail
 clear c6 g6 f6
 generalize w8.setCell ⟨w.heap.size+1,15,none⟩ (.int .u8 (m:Int))=w9 at*
 have c7:w9.cell? ⟨w.heap.size,6,none⟩=some (.string s):=Y8.out.1.at_ 6
 have hl:(l7.set 14 l).set 15 m=[kd,i / 65536 % 256,i / 256 % 256,i % 256,k / 65536 % 256,k / 256 % 256,k % 256,n / 65536 % 256,n / 256 % 256,n % 256,a / 16777216 % 256,a / 65536 % 256,a / 256 % 256,a % 256,l,m]:=by rw [Y8.out.2.2.2.1]; rfl
 have hE:=EB.out
 rw [Nat.mod_eq_of_lt (show kd<256 by omega),Nat.mod_eq_of_lt (show l<256 by omega),Nat.mod_eq_of_lt (show m<256 by omega),← hl] at hE
 have hlen:((l7.set 14 l).set 15 m).length=16:=by simpa using Y8.out.2.2.2.2.1
 have BG:=Y8.out.2.1
 generalize (l7.set 14 l).set 15 m=hd16 at*
 obtain ⟨g,cap,w10,hrun,hO,hgr⟩:=(Ob.of_blk BG (B:=w.heap.size) (by omega) (by omega) hlen.symm).str Y8.out.2.2.1.size (by omega) p (by have:=HS.out.2.1; omega) 25
 have hb10:=Y8.out.2.2.1.grown hgr Y8.out.2.2.1.size (fun kk e=>by simp [Value.ownBlock] at e; omega)
 obtain ⟨q,hq⟩:∃ q,q=hd16.length+p.length:=⟨_,rfl⟩
 rw [← hq] at hrun hO
 rw [← HS.out.1] at hrun
 have Z:=Lib.hid (And.intro hE (And.intro hq (And.intro hO hb10)))
 clear Y8 hl hE hlen BG hO hgr hb10 hq EB
 go_wp2_with (first|(at_builtin; refine Lib.wpList_append_run _ rfl (.tmp 46) (.tmp 48) 25 9 rfl _ _ rfl rfl _ _ hrun ?_)|fail)
 go_ret
 refine ⟨g,cap,q,rfl,?_,?_,Z.out.2.2.2⟩
 ·rw [Z.out.1,Z.out.2.1,List.length_append,Sc.nats_length]
 ·rw [Z.out.1]; exact Z.out.2.2.1
end Go.Proofs.YthaefdlkpljojaaGreatDoor.Sp
