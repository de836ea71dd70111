import Derived.Test.YtafkfnodcemefaaGreatB05
set_option maxHeartbeats 8000000
namespace Go.Proofs.YtafkfnodcemefaaGreat
open _root_.Go.Proofs.Tryz (prog)
section
open Go.RowKit
variable {m s:Int}{r:Option Nat}{d j n:Nat}{T:TypeId}{w:World}
theorem nan32 (x:Int) (w:World):Q 164 #[U x] w fun e w'=>e= .returned (O false)/\w=w':=by
 go_enter Tryz.func164,Tryz.ntmps164;go_wp2;go_ret;exact ⟨by simp,rfl⟩
theorem cmp32 (x y:Int) (w:World):Q 133 #[U x,U y] w fun e w'=>e= .returned (I (cmpI x y))/\w=w':=by
 rcases Int.lt_trichotomy x y with h|h|h
 ·have F:=Z (bn9 h)
  go_enter Tryz.func133,Tryz.ntmps133;go_wp2_with (go_at_call 164; refine (nan32 _ _).mono ?_; rintro e w' ⟨rfl,rfl⟩);go_ret;exact ⟨ab0 F.out.symm,rfl⟩
 ·subst h
  have F:=Z (aw6 x);go_enter Tryz.func133,Tryz.ntmps133;go_wp2_with (go_at_call 164; refine (nan32 _ _).mono ?_; rintro e w' ⟨rfl,rfl⟩);go_ret;exact ⟨ab0 F.out.symm,rfl⟩
 ·have F:=Z (bo0 h)
  go_enter Tryz.func133,Tryz.ntmps133;go_wp2_with (go_at_call 164; refine (nan32 _ _).mono ?_; rintro e w' ⟨rfl,rfl⟩);go_ret;exact ⟨ab0 F.out.symm,rfl⟩
theorem nan16 (x:Int) (w:World):Q 207 #[V x] w fun e w'=>e= .returned (O false)/\w=w':=by
 go_enter Tryz.func207,Tryz.ntmps207;go_wp2;go_ret;exact ⟨by simp,rfl⟩
theorem cmp16 (x y:Int) (w:World):Q 190 #[V x,V y] w fun e w'=>e= .returned (I (cmpI x y))/\w=w':=by
 rcases Int.lt_trichotomy x y with h|h|h
 ·have F:=Z (bn9 h)
  go_enter Tryz.func190,Tryz.ntmps190;go_wp2_with (go_at_call 207; refine (nan16 _ _).mono ?_; rintro e w' ⟨rfl,rfl⟩);go_ret;exact ⟨ab0 F.out.symm,rfl⟩
 ·subst h
  have F:=Z (aw6 x);go_enter Tryz.func190,Tryz.ntmps190;go_wp2_with (go_at_call 207; refine (nan16 _ _).mono ?_; rintro e w' ⟨rfl,rfl⟩);go_ret;exact ⟨ab0 F.out.symm,rfl⟩
 ·have F:=Z (bo0 h)
  go_enter Tryz.func190,Tryz.ntmps190;go_wp2_with (go_at_call 207; refine (nan16 _ _).mono ?_; rintro e w' ⟨rfl,rfl⟩);go_ret;exact ⟨ab0 F.out.symm,rfl⟩
theorem cg2 (b:Nat) (x y:Int) (w:World) (h0:w.cell? (Y b 0)=some (I x)) (h1:w.cell? (Y b 1)=some (I y)):
  Q 132 #[Lt b 2 2] w fun e w'=>e= .returned (I (or2 x y))/\w=w':=by
 by_cases hx:x=0
 ·subst hx
  have F:Hid (or2 0 y=y):=Z rfl;by_cases hy:y=0
  ·subst hy
   go_enter Tryz.func132,Tryz.ntmps132;go_wp2;refine wp_loop_rounds 3 ?_;rw [rounds_succ];go_wp2;rw [rounds_succ];go_wp2;rw [rounds_succ];go_wp2;go_ret;exact ⟨ab0 F.out.symm,rfl⟩
  ·have hy':(y !=0)=true:=by simpa using hy
   clear hy;go_enter Tryz.func132,Tryz.ntmps132;go_wp2;refine wp_loop_rounds 3 ?_;rw [rounds_succ];go_wp2;rw [rounds_succ];go_wp2;go_ret;exact ⟨ab0 F.out.symm,rfl⟩
 ·have F:Hid (or2 x y=x):=Z (if_neg hx)
  have hx':(x !=0)=true:=by simpa using hx
  clear hx;go_enter Tryz.func132,Tryz.ntmps132;go_wp2;refine wp_loop_rounds 3 ?_;rw [rounds_succ];go_wp2;go_ret;exact ⟨ab0 F.out.symm,rfl⟩
def dcmp (s m s' m':Int):Int:=if cmpI s s'=0 then cmpI m' m else cmpI s s'
theorem cv2 (s m s' m':Int) (w:World):
  Q 166 #[.agg #[U s,V m],.agg #[U s',V m']] w (Rr0 w (I (dcmp s m s' m'))):=by
 have D:Hid (or2 (cmpI s s') (cmpI m' m)=dcmp s m s' m'):=Z rfl;go_enter Tryz.func166,Tryz.ntmps166;go_wp2_with fail;have hb:Below w.heap.size w ((w.alloc (Obj.cells #[Value.int IntKind.u32 s,Value.int IntKind.u16 m] 69)).alloc (Obj.cells #[Value.int IntKind.u32 s',Value.int IntKind.u16 m'] 69)):=
  ((Below.refl _ _).alloc (Nat.le_refl _) _).alloc sn _
 have c0:((w.alloc (Obj.cells #[Value.int IntKind.u32 s,Value.int IntKind.u16 m] 69)).alloc (Obj.cells #[Value.int IntKind.u32 s',Value.int IntKind.u16 m'] 69)).cell? (Y w.heap.size 0)=some (U s):=by go_simp
 have c1:((w.alloc (Obj.cells #[Value.int IntKind.u32 s,Value.int IntKind.u16 m] 69)).alloc (Obj.cells #[Value.int IntKind.u32 s',Value.int IntKind.u16 m'] 69)).cell? (Y w.heap.size 1)=some (V m):=by go_simp
 have c2:((w.alloc (Obj.cells #[Value.int IntKind.u32 s,Value.int IntKind.u16 m] 69)).alloc (Obj.cells #[Value.int IntKind.u32 s',Value.int IntKind.u16 m'] 69)).cell? (Y (w.heap.size+1) 0)=some (U s'):=by go_simp
 have c3:((w.alloc (Obj.cells #[Value.int IntKind.u32 s,Value.int IntKind.u16 m] 69)).alloc (Obj.cells #[Value.int IntKind.u32 s',Value.int IntKind.u16 m'] 69)).cell? (Y (w.heap.size+1) 1)=some (V m'):=by go_simp
 generalize ((w.alloc (Obj.cells #[Value.int IntKind.u32 s,Value.int IntKind.u16 m] 69)).alloc (Obj.cells #[Value.int IntKind.u32 s',Value.int IntKind.u16 m'] 69))=w2 at hb c0 c1 c2 c3 ⊢;have HB:=Z hb;clear hb;go_region_held3 (fun w'=>w'.cell? (Y w.heap.size 0)=some (U s)/\w'.cell? (Y w.heap.size 1)=some (V m)/\w'.cell? (Y (w.heap.size+1) 0)=some (U s')/\w'.cell? (Y (w.heap.size+1) 1)=some (V m')) (go_keep)
  (first|(go_at_call 133; refine (cmp32 _ _ _).mono ?_; rintro e w' ⟨rfl,rfl⟩)|(go_at_call 190; refine (cmp16 _ _ _).mono ?_; rintro e w' ⟨rfl,rfl⟩)|(go_at_call 132; go_loud (refine (cg2 _ (cmpI s s') (cmpI m' m) _ ?_ ?_).mono ?_; (· exact (ab3 _ _ _ _).trans rfl); (· exact (ab3 _ _ _ _).trans rfl); rintro e w' ⟨rfl,rfl⟩)))
 go_wp2;go_ret;exact ⟨ab0 D.out,(HB.out.alloc HB.out.size _).drew⟩
theorem bc4 (s m:Int) (w:World):Q 70 #[.agg #[U s,V m]] w (Rr0 w (O (m==65535))):=by
 go_enter Tryz.func70,Tryz.ntmps70;go_wp2;go_ret;exact ⟨rfl,(Below.refl _ _).alloc (Nat.le_refl _) _⟩
def better (s m s' m':Int):Bool:=decide (s'<s\/s=s'/\m<m')
theorem bn3 {s' m' r:Int} (h:dcmp s m s' m'=r) (w:World):
  Q 166 #[.agg #[U s,V m],.agg #[U s',V m']] w (Rr0 w (I r)):=h ▸ cv2 s m s' m' w
theorem af6 {r:Bool} (h:(m==65535)=r) (w:World):
  Q 70 #[.agg #[U s,V m]] w (Rr0 w (O r)):=h ▸ bc4 s m w
variable {tS:TypeId} {XS:List Value}
def ownV (b:Bool):Value:= .agg #[O b]
def dV (d:Nat×Nat):Value:= .agg #[U d.1,V d.2]
def Mo {P:Program} {k:TypeId} {α:Type} (E:Ke P k α) (w:World) (r:Option Nat) (n:Nat) (f:α->Option Value):Prop:=
 match r with
 |none=>n=0/\∀ x,f x=none
 |some b=>Mk E w b n f
section
variable {P:Program} {k t e:TypeId} {α:Type} {E:Ke P k α} {w w':World} {r:Option Nat} {n:Nat} {f:α->Option Value}
theorem Mo.of_block (h:Mo E w r n f) (hb:∀ b,r=some b->w'.heap[b]?=w.heap[b]?):Mo E w' r n f:=by
 cases r with
 |none=>exact h
 |some b=>exact Mk.of_block h (hb b rfl)
theorem Mo.lt (h:Mo E w r n f) {b:Nat} (hb:r=some b):b<w.heap.size:=by subst hb; exact Mk.lt h
theorem Mo.isMap (h:Mo E w r n f) {b:Nat} (hb:r=some b):∃ es clock,w.heap[b]?=some (.map es clock):=by subst hb; exact Mk.isMap h
theorem Mo.look_ok (h:Mo E w r n f) (ht:P.underlying t=some (.map k e)) {z:Value} (hz:∀ w,(zeroValue e).run P w= .ok z w) {i:α} (hw:E.ok i):
  (Instr.lookup t (.map r) (E.enc i) true).run P w= .ok (.tuple #[(f i).getD z,O (f i).isSome]) w:=by
 cases r with
 |none=>
  rw [bm0 ht (hz w) hw,h.2 i];rfl
 |some b=>exact Mk.look_ok h ht (hz w) hw
end
structure St (tS:TypeId) (XS:List Value) (w:World) (d:Nat) (o fl:Option Nat) (id lease n m:Nat) (own:Pk->Option Bool) (floor:Ky->Option (Nat×Nat)):Prop where
 head:Blk tS w d (Value.int .u32 id::Value.int .u32 lease::Value.map o::Value.map fl::XS).toArray
 owns:Mo pkE w o n (fun x=>(own x).map ownV)
 floors:Mo kyE w fl m (fun x=>(floor x).map dV)
 apart:∀ a b,o=some a->fl=some b->a≠b
 small:∀ k f,floor k=some f->f.1<4294967296/\f.2<65536
 lease_lt:lease<4294967296
 counts:n+m<=1000000000
def fp (d:Nat) (o fl:Option Nat):List Nat:=d::(o.toList++fl.toList)
theorem ab6 {o fl:Option Nat} {x:Nat}:x∈fp d o fl↔x=d\/o=some x\/fl=some x:=by
 cases o<;>cases fl<;>simp [fp,eq_comm]
section
variable {w w':World} {d:Nat} {o fl:Option Nat} {id lease n m:Nat} {own:Pk->Option Bool} {floor:Ky->Option (Nat×Nat)}
theorem St.turn {L:List Nat} (h:St tS XS w d o fl id lease n m own floor) (t:Turn L w w') (hL:∀ x,x∈fp d o fl->x∉L):St tS XS w' d o fl id lease n m own floor:=
 ⟨h.head.turn t (hL _ (ab6.2 (.inl rfl))),h.owns.of_block (fun b hb=>t.block b (h.owns.lt hb) (hL _ (ab6.2 (.inr (.inl hb))))),h.floors.of_block (fun b hb=>t.block b (h.floors.lt hb) (hL _ (ab6.2 (.inr (.inr hb))))),h.apart,h.small,h.lease_lt,h.counts⟩
theorem St.held (h:St tS XS w d o fl id lease n m own floor) (hb:Below w.heap.size w w'):St tS XS w' d o fl id lease n m own floor:=h.turn (L:=[]) (.of_below _ hb) sn
theorem St.drew (h:St tS XS w d o fl id lease n m own floor):St tS XS w.drew d o fl id lease n m own floor:=⟨h.head,h.owns.of_block (fun _ _=>rfl),h.floors.of_block (fun _ _=>rfl),h.apart,h.small,h.lease_lt,h.counts⟩
theorem St.lt (h:St tS XS w d o fl id lease n m own floor) {x:Nat} (hx:x∈fp d o fl):x<w.heap.size:=by
 rcases ab6.1 hx with rfl|h1|h1
 ·exact h.head.lt
 ·exact h.owns.lt h1
 ·exact h.floors.lt h1
theorem St.head_ne (h:St tS XS w d o fl id lease n m own floor) {b:Nat} (hb:o=some b\/fl=some b):d≠b:=by
 intro e;have h1:=h.head;unfold Blk at h1;rcases hb with hb|hb
 ·obtain ⟨es,c,h2⟩:=h.owns.isMap hb
  rw [e,h2] at h1
  cases h1
 ·obtain ⟨es,c,h2⟩:=h.floors.isMap hb
  rw [e,h2] at h1
  cases h1
end
theorem ca9 (w:World):(zeroValue 69).run prog w= .ok (.agg #[U 0,V 0]) w:=X
theorem co5 (w:World):(zeroValue 203).run prog w= .ok (.agg #[O false]) w:=X
theorem ch2 (id:Nat) (w:World):Q 137 #[U id] w fun e w'=>
  e= .returned (K w.heap.size)/\St 107 [] w' w.heap.size none none id 0 0 0 (fun _=>none) (fun _=>none)/\Bw w w':=by
 go_enter Tryz.func137,Tryz.ntmps137;go_wp2;go_ret;exact ⟨rfl,⟨Blk.new w _ _,⟨rfl,fun _=>rfl⟩,⟨rfl,fun _=>rfl⟩,sn,sn,G,G⟩,aa0 _ _⟩
section
variable {w:World} {d:Nat} {o fl:Option Nat} {id lease n m:Nat} {own:Pk->Option Bool} {floor:Ky->Option (Nat×Nat)}
theorem an8 (h:St tS XS w d o fl id lease n m own floor):Q 25 #[K d] w fun e w'=>e= .returned (U lease)/\w=w':=by
 have c1:w.cell? (Y d 1)=some (U lease):=h.head.at_ 1;clear h;go_enter Tryz.func25,Tryz.ntmps25;go_wp2;go_ret;exact ⟨rfl,rfl⟩
def bet (f:Option (Nat×Nat)) (s m:Nat):Bool:=match f with|none=>true|some g=>decide (0<dcmp s m g.1 g.2)
theorem bo6 (h:St tS XS w d o fl id lease n m own floor) (k:Ky) (hk:k.ok) (s x:Nat):
  Q 135 #[K d,k.enc,.agg #[U s,V x]] w (Rr0 w (O (bet (floor k) s x))):=by
 have hlook:∀ w',Below w.heap.size w w'->(Instr.lookup 105 (.map fl) k.enc true).run prog w'= .ok (.tuple #[((floor k).map dV).getD (.agg #[U 0,V 0]),O (floor k).isSome]) w':=fun w' hb=>by
  have h2:=(h.held hb).floors.look_ok (t:=105) (e:=69) X ca9 (i:=k) hk;rw [show ((floor k).map dV).isSome=(floor k).isSome by cases floor k<;>rfl] at h2;exact h2
 have hd:=h.head;have hsm:∀ f,floor k=some f->f.1<4294967296/\f.2<65536:=h.small k;clear h;obtain ⟨ka,kn,kid⟩:=k;show Calls _ _ #[_,.agg #[U ka,I kn,U kid],_] _ _;change ∀ w',Below w.heap.size w w'->(Instr.lookup _ (.map fl) (.agg #[U ka,I kn,U kid]) true).run prog w'=_ at hlook
 cases hf:floor ⟨ka,kn,kid⟩ with
 |none=>
  rw [hf] at hlook;have hlook:∀ w',Below w.heap.size w w'->(Instr.lookup 105 (.map fl) (.agg #[U ka,I kn,U kid]) true).run prog w'= .ok (.tuple #[.agg #[U 0,V 0],O false]) w':=hlook;clear hsm;go_enter Tryz.func135,Tryz.ntmps135;go_wp2_with fail;have c3:w.cell? (Y d 3)=some (.map fl):=hd.at_ 3;have dl:d<w.heap.size:=hd.lt;clear hd;have B2:∀ A B:Obj,Below w.heap.size w ((w.alloc A).alloc B):=fun A B=>next (aa0 _ _) (aa0 _ _)
  have B3:∀ A B C:Obj,Below w.heap.size w (((w.alloc A).alloc B).alloc C):=fun A B C=>next (B2 _ _) (aa0 _ _)
  have l1:=hlook (((w.alloc (.cells #[U ka,I kn,U kid] 185)).alloc (.cells #[U s,V x] 69)).drew) (B2 _ _).drew;have l2:=hlook ((((w.alloc (.cells #[U ka,I kn,U kid] 185)).alloc (.cells #[U s,V x] 69)).alloc (.cells #[U 0,V 0] 69)).drew) (B3 _ _ _).drew;have k2:=held (B2 (.cells #[U ka,I kn,U kid] 185) (.cells #[U s,V x] 69)) c3;have k3:=held (B3 (.cells #[U ka,I kn,U kid] 185) (.cells #[U s,V x] 69) (.cells #[U 0,V 0] 69)) c3;clear hlook hf;go_region;all_goals
   go_wp2_with fail;go_ret;exact ⟨rfl,(B3 _ _ _).drew⟩
 |some f=>
  obtain ⟨fs,fm⟩:=f;obtain ⟨hfs,hfm⟩:=hsm _ hf;rw [hf] at hlook;have hlook:∀ w',Below w.heap.size w w'->(Instr.lookup 105 (.map fl) (.agg #[U ka,I kn,U kid]) true).run prog w'= .ok (.tuple #[.agg #[U fs,V fm],O true]) w':=hlook;go_enter Tryz.func135,Tryz.ntmps135;go_wp2_with fail;have c3:w.cell? (Y d 3)=some (.map fl):=hd.at_ 3;have dl:d<w.heap.size:=hd.lt;clear hd;have B2:∀ A B:Obj,Below w.heap.size w ((w.alloc A).alloc B):=fun A B=>next (aa0 _ _) (aa0 _ _)
  have B3:∀ A B C:Obj,Below w.heap.size w (((w.alloc A).alloc B).alloc C):=fun A B C=>next (B2 _ _) (aa0 _ _)
  have l1:=hlook (((w.alloc (.cells #[U ka,I kn,U kid] 185)).alloc (.cells #[U s,V x] 69)).drew) (B2 _ _).drew;have l2:=hlook ((((w.alloc (.cells #[U ka,I kn,U kid] 185)).alloc (.cells #[U s,V x] 69)).alloc (.cells #[U 0,V 0] 69)).drew) (B3 _ _ _).drew;have k2:=held (B2 (.cells #[U ka,I kn,U kid] 185) (.cells #[U s,V x] 69)) c3;have k3:=held (B3 (.cells #[U ka,I kn,U kid] 185) (.cells #[U s,V x] 69) (.cells #[U 0,V 0] 69)) c3;clear hlook hf;generalize hr:dcmp (s:Int) x fs fm=r;go_region;all_goals
   go_wp2_with fail;refine (bn3 hr _).mono ?_;rintro e w' ⟨rfl,hb⟩;have hB:=next (B3 _ _ _).drew hb;clear hb l1 l2 k2 k3 c3;go_wp2_with fail;go_ret;exact ⟨by rw [<- hr]; rfl,hB⟩
def fea (f:Option (Nat×Nat)) (s x:Nat):Bool:=(x==65535)||bet f s x
def cov (f:Option (Nat×Nat)) (s x:Nat):Bool:=(x==65535)||!bet f s x
theorem al8 (h:St tS XS w d o fl id lease n m own floor) (k:Ky) (hk:k.ok) (s x:Nat) {r:Bool} (hr:bet (floor k) s x=r) {ka:Nat} {kn:Int} {kid:Nat} (e:k=⟨ka,kn,kid⟩):
  Q 135 #[K d,.agg #[U ka,I kn,U kid],.agg #[U s,V x]] w (Rr0 w (O r)):=by
 subst hr e;exact bo6 h _ hk s x
theorem bi1 (h:St tS XS w d o fl id lease n m own floor) (k:Ky) (hk:k.ok) (s x:Nat):
  Q 106 #[Pt d,k.enc,.agg #[U s,V x]] w (Rr0 w (O (fea (floor k) s x))):=by
 have hB:∀ w',Below w.heap.size w w'->∀ {r:Bool},bet (floor k) s x=r->∀ {ka:Nat} {kn:Int} {kid:Nat},k=⟨ka,kn,kid⟩->_:=fun w' hb r hr ka kn kid e=>al8 (h.held hb) k hk s x hr e
 have hs:∀ b,bet (floor k) s x=b->fea (floor k) s x=((x==65535)||b):=fun b e=>by unfold fea; rw [e]
 clear h;obtain ⟨ka,kn,kid⟩:=k;show Calls _ _ #[_,.agg #[U ka,I kn,U kid],_] _ _;generalize bet (floor ⟨ka,kn,kid⟩) s x=r at*;have hs:=Z (hs r rfl);generalize fea (floor ⟨ka,kn,kid⟩) s x=R at*;have B2:∀ A B:Obj,Below w.heap.size w ((w.alloc A).alloc B):=fun A B=>next (aa0 _ _) (aa0 _ _)
 cases hx:((x:Int)==65535) with
 |true=>
  go_enter Tryz.func106,Tryz.ntmps106;go_wp2_with fail;refine (af6 hx _).mono ?_;rintro e w' ⟨rfl,hb⟩;have hb':=next (B2 _ _) hb;clear hb;go_wp2_with fail;go_ret;refine ⟨?_,hb'⟩;have hx2:(x==65535)=true:=by have:=eq_of_beq hx; exact beq_iff_eq.2 G
  rw [hs.out,hx2];rfl
 |false=>
  go_enter Tryz.func106,Tryz.ntmps106;go_wp2_with fail;refine (af6 hx _).mono ?_;rintro e w' ⟨rfl,hb⟩;have hb':=next (B2 _ _) hb;have K:=((Blk.new w 185 #[U ka,I kn,U kid]).more (.cells #[U s,V x] 69)).held hb;have D:=(Blk.new (w.alloc (.cells #[U ka,I kn,U kid] 185)) 69 #[U s,V x]).held hb;rw [aa1] at D;have k0:=K.at_ 0;have k1:=K.at_ 1;have k2:=K.at_ 2;have d0:=D.at_ 0;have d1:=D.at_ 1;clear hb K D;go_wp2_with fail;refine (hB _ (by assumption) rfl rfl).mono ?_;rintro e w3 ⟨rfl,hb⟩;have hb3:=next hb' hb;clear hb hb' k0 k1 k2 d0 d1;go_wp2_with fail;go_ret;refine ⟨?_,hb3⟩;have hx2:(x==65535)=false:=by have:=ne_of_beq_false hx; exact beq_eq_false_iff_ne.2 G
  rw [hs.out,hx2]
  cases r<;>rfl
theorem bz9 (h:St tS XS w d o fl id lease n m own floor) (k:Ky) (hk:k.ok) (s x:Nat):
  Q 173 #[Pt d,k.enc,.agg #[U s,V x]] w (Rr0 w (O (cov (floor k) s x))):=by
 have hB:∀ w',Below w.heap.size w w'->∀ {r:Bool},bet (floor k) s x=r->∀ {ka:Nat} {kn:Int} {kid:Nat},k=⟨ka,kn,kid⟩->_:=fun w' hb r hr ka kn kid e=>al8 (h.held hb) k hk s x hr e
 have hs:∀ b,bet (floor k) s x=b->cov (floor k) s x=((x==65535)||!b):=fun b e=>by unfold cov; rw [e]
 clear h;obtain ⟨ka,kn,kid⟩:=k;show Calls _ _ #[_,.agg #[U ka,I kn,U kid],_] _ _;generalize bet (floor ⟨ka,kn,kid⟩) s x=r at*;have hs:=Z (hs r rfl);generalize cov (floor ⟨ka,kn,kid⟩) s x=R at*;have B2:∀ A B:Obj,Below w.heap.size w ((w.alloc A).alloc B):=fun A B=>next (aa0 _ _) (aa0 _ _)
 cases hx:((x:Int)==65535) with
 |true=>
  go_enter Tryz.func173,Tryz.ntmps173;go_wp2_with fail;refine (af6 hx _).mono ?_;rintro e w' ⟨rfl,hb⟩;have hb':=next (B2 _ _) hb;clear hb;go_wp2_with fail;go_ret;refine ⟨?_,hb'⟩;have hx2:(x==65535)=true:=by have:=eq_of_beq hx; exact beq_iff_eq.2 G
  rw [hs.out,hx2];rfl
 |false=>
  go_enter Tryz.func173,Tryz.ntmps173;go_wp2_with fail;refine (af6 hx _).mono ?_;rintro e w' ⟨rfl,hb⟩;have hb':=next (B2 _ _) hb;have K:=((Blk.new w 185 #[U ka,I kn,U kid]).more (.cells #[U s,V x] 69)).held hb;have D:=(Blk.new (w.alloc (.cells #[U ka,I kn,U kid] 185)) 69 #[U s,V x]).held hb;rw [aa1] at D;have k0:=K.at_ 0;have k1:=K.at_ 1;have k2:=K.at_ 2;have d0:=D.at_ 0;have d1:=D.at_ 1;clear hb K D;go_wp2_with fail;refine (hB _ (by assumption) rfl rfl).mono ?_;rintro e w3 ⟨rfl,hb⟩;have hb3:=next hb' hb;clear hb hb' k0 k1 k2 d0 d1;go_wp2_with fail;go_ret;refine ⟨?_,hb3⟩;have hx2:(x==65535)=false:=by have:=ne_of_beq_false hx; exact beq_eq_false_iff_ne.2 G
  rw [hs.out,hx2]
  cases r<;>rfl
end
theorem cz6 {cs:Array Value} {f:Pk->Option Value} (hd:Blk T w d cs) (hj:cs[j]?=some (.map r)) (hm:Mo pkE w r n f) (hne:∀ b,r=some b->d≠b) (hn:n<maxLen) (k:Pk) (hk:k.ok) (v:Bool):
  Q 149 #[Qt d j,k.enc,.agg #[O v]] w fun e w'=>e= .returned (.tuple #[])/\∃ b n',Blk T w' d (cs.setIfInBounds j (.map (some b)))/\Mk pkE w' b n' (upd f k (.agg #[O v]))/\n'<=n+1/\Turn (d::r.toList) w w'/\(r=some b\/w.heap.size<=b):=by
 have hcell:w.cell? (Y d j)=some (.map r):=(hd.at_ j).trans hj;have hfr:=hd.free j;have hlt:=hd.lt;obtain ⟨ka,kn⟩:=k;show Calls _ _ #[_,.agg #[U ka,I kn],_] _ _;have KV:=H2 hd hm;clear hm hd;have q:∀ (w:World) (r:Option Nat),(binOp .eql 104 (.map r) (.map none)).run prog w= .ok (O r.isNone) w:=fun w r=>run_eql_map_nil w _ _ _ r Tryz.underlying104
 cases r with
 |none=>
  go_enter Tryz.func149,Tryz.ntmps149;have hmm:= @run_makeMap prog;have f3:=(((KV.out.1.more (.cells #[U ka,I kn] 28)).more (.cells #[O v] 203)).more (.map #[] 0)).free j;have k3:=held (next (next (aa0 w (.cells #[U ka,I kn] 28)) (aa0 _ (.cells #[O v] 203))) (aa0 _ (.map #[] 0))) hcell;go_wp2_with fail;obtain ⟨hd,rfl,hf0⟩:=KV.out;obtain rfl:f=fun _=>none:=funext hf0
  have HB:Blk T (((((w.alloc (.cells #[U ka,I kn] 28)).alloc (.cells #[O v] 203)).alloc (.map #[] 0))).setCell (Y d j) (.map (some (w.heap.size+1+1)))) d (cs.setIfInBounds j (.map (some (w.heap.size+1+1)))):=(((hd.more _).more _).more _).store j _;have gne:w.heap.size+1+1≠d:=G
  have HM:Mk pkE (((((w.alloc (.cells #[U ka,I kn] 28)).alloc (.cells #[O v] 203)).alloc (.map #[] 0))).setCell (Y d j) (.map (some (w.heap.size+1+1)))) (w.heap.size+1+1) 0 (fun _=>none):=by
   have h0:=Mk.new pkE ((w.alloc (.cells #[U ka,I kn] 28)).alloc (.cells #[O v] 203));rw [aa1,aa1] at h0;exact h0.of_block (Below.heap_setCell _ _ _ _ gne)
  have KB:Blk 28 (((((w.alloc (.cells #[U ka,I kn] 28)).alloc (.cells #[O v] 203)).alloc (.map #[] 0))).setCell (Y d j) (.map (some (w.heap.size+1+1)))) w.heap.size #[U ka,I kn]:=(((Blk.new w 28 #[U ka,I kn]).more _).more _).away (p:=⟨d,j,none⟩) (by show w.heap.size≠d; omega) _;have VB:Blk 203 (((((w.alloc (.cells #[U ka,I kn] 28)).alloc (.cells #[O v] 203)).alloc (.map #[] 0))).setCell (Y d j) (.map (some (w.heap.size+1+1)))) (w.heap.size+1) #[O v]:=by
   have h0:=Blk.new (w.alloc (.cells #[U ka,I kn] 28)) 203 #[O v];rw [aa1] at h0;exact (h0.more _).away (p:=⟨d,j,none⟩) (by show w.heap.size+1≠d; omega) _
  have HT:Turn [d] w (((((w.alloc (.cells #[U ka,I kn] 28)).alloc (.cells #[O v] 203)).alloc (.map #[] 0))).setCell (Y d j) (.map (some (w.heap.size+1+1)))):=((((Turn.refl [d] w).alloc _).alloc _).alloc _).trans (Turn.setCell _ (p:=⟨d,j,none⟩) sn _);have hjs:j<cs.size:=by
   rcases Nat.lt_or_ge j cs.size with h|h
   ·exact h
   ·rw [Array.getElem?_eq_none h] at hj; cases hj
  generalize (((((w.alloc (.cells #[U ka,I kn] 28)).alloc (.cells #[O v] 203)).alloc (.map #[] 0))).setCell (Y d j) (.map (some (w.heap.size+1+1))))=W at*;have hW:W.cell? (Y d j)=some (.map (some (w.heap.size+1+1))):=(HB.at_ j).trans (by simp [hjs]);obtain ⟨w4,hu,hM4,hg4,-⟩:=(HM.of_block (w':=W.drew) rfl).store (t:=104) (e:=203) X hn (i:=⟨ka,kn⟩) hk (.agg #[O v]);have hu:(Instr.mapUpdate 104 (.map (some (w.heap.size+1+1))) (.agg #[U ka,I kn]) (.agg #[O v])).run prog W.drew= .ok () w4:=hu;have k0:=KB.at_ 0;have k1:=KB.at_ 1;have v0:=VB.at_ 0;have HT4:Turn [d] w w4:=HT.drew.fresh (Turn.of_grown hg4 (List.mem_singleton.2 rfl)) G;have HB4:=HB.drew.turn (Turn.of_grown hg4 (List.mem_singleton.2 rfl)) (by simp; omega);have Z:=H3 HB4 hM4 HT4;clear HB4 hM4 HT4 hg4 HT HM HB KB VB KV hd hf0 k3 f3 hcell hfr q hmm;go_region;all_goals
   refine bodyPost_end (v:= .tuple #[]) (results_none rfl _ _ _) rfl ?_;refine ⟨rfl,_,_,Z.out.1,Z.out.2.1,?_,Z.out.2.2,.inr G⟩;split<;>omega
 |some b=>
  go_enter Tryz.func149,Tryz.ntmps149;have k2:=held (next (aa0 w (.cells #[U ka,I kn] 28)) (aa0 _ (.cells #[O v] 203))) hcell;go_wp2_with fail;obtain ⟨hd,hm⟩:=KV.out;have hm:Mk pkE w b n f:=hm;have hdb:=hne b rfl;have HB:Blk T ((w.alloc (.cells #[U ka,I kn] 28)).alloc (.cells #[O v] 203)) d cs:=(hd.more _).more _;have HM:Mk pkE ((w.alloc (.cells #[U ka,I kn] 28)).alloc (.cells #[O v] 203)) b n f:=hm.held (next (aa0 _ _) (aa0 _ _));have KB:Blk 28 ((w.alloc (.cells #[U ka,I kn] 28)).alloc (.cells #[O v] 203)) w.heap.size #[U ka,I kn]:=(Blk.new w 28 #[U ka,I kn]).more _;have VB:Blk 203 ((w.alloc (.cells #[U ka,I kn] 28)).alloc (.cells #[O v] 203)) (w.heap.size+1) #[O v]:=by
   have h0:=Blk.new (w.alloc (.cells #[U ka,I kn] 28)) 203 #[O v];rw [aa1] at h0;exact h0
  have HT:Turn [d,b] w ((w.alloc (.cells #[U ka,I kn] 28)).alloc (.cells #[O v] 203)):=((Turn.refl _ w).alloc _).alloc _;generalize ((w.alloc (.cells #[U ka,I kn] 28)).alloc (.cells #[O v] 203))=W at*;obtain ⟨w4,hu,hM4,hg4,-⟩:=(HM.of_block (w':=W.drew) rfl).store (t:=104) (e:=203) X hn (i:=⟨ka,kn⟩) hk (.agg #[O v]);have hu:(Instr.mapUpdate 104 (.map (some b)) (.agg #[U ka,I kn]) (.agg #[O v])).run prog W.drew= .ok () w4:=hu;have k0:=KB.at_ 0;have k1:=KB.at_ 1;have v0:=VB.at_ 0;have HT4:Turn [d,b] w w4:=HT.drew.trans (Turn.of_grown hg4 sn);have HB4:=HB.drew.turn (Turn.of_grown hg4 (List.mem_singleton.2 rfl)) (by simpa using hdb);have hset:cs.setIfInBounds j (.map (some b))=cs:=by
   apply Array.ext sn;intro i h1 h2;simp only [Array.getElem_setIfInBounds h2];split
   ·next e=>
    subst e;rw [Array.getElem?_eq_getElem h2] at hj;exact (Option.some.inj hj).symm
   ·rfl
  rw [<- hset] at HB4;have Z:=H3 HB4 hM4 HT4;clear HB4 hM4 HT4 hg4 HT HM HB KB VB KV hd hm hcell hfr q hset;go_region;all_goals
   refine bodyPost_end (v:= .tuple #[]) (results_none rfl _ _ _) rfl ?_;refine ⟨rfl,_,_,Z.out.1,Z.out.2.1,?_,Z.out.2.2,.inl rfl⟩;split<;>omega
theorem cd2 {cs:Array Value} {f:Ky->Option Value} (hd:Blk T w d cs) (hj:cs[j]?=some (.map r)) (hm:Mo kyE w r n f) (hne:∀ b,r=some b->d≠b) (hn:n<maxLen) (k:Ky) (hk:k.ok) (s x:Nat):
  Q 150 #[Qt d j,k.enc,.agg #[U s,V x]] w fun e w'=>e= .returned (.tuple #[])/\∃ b n',Blk T w' d (cs.setIfInBounds j (.map (some b)))/\Mk kyE w' b n' (upd f k (.agg #[U s,V x]))/\n'<=n+1/\Turn (d::r.toList) w w'/\(r=some b\/w.heap.size<=b):=by
 have hcell:w.cell? (Y d j)=some (.map r):=(hd.at_ j).trans hj;have hfr:=hd.free j;have hlt:=hd.lt;obtain ⟨ka,kn,kid⟩:=k;show Calls _ _ #[_,.agg #[U ka,I kn,U kid],_] _ _;have KV:=H2 hd hm;clear hm hd;have q:∀ (w:World) (r:Option Nat),(binOp .eql 105 (.map r) (.map none)).run prog w= .ok (O r.isNone) w:=fun w r=>run_eql_map_nil w _ _ _ r Tryz.underlying105
 cases r with
 |none=>
  go_enter Tryz.func150,Tryz.ntmps150;have hmm:= @run_makeMap prog;have f3:=(((KV.out.1.more (.cells #[U ka,I kn,U kid] 185)).more (.cells #[U s,V x] 69)).more (.map #[] 0)).free j;have k3:=held (next (next (aa0 w (.cells #[U ka,I kn,U kid] 185)) (aa0 _ (.cells #[U s,V x] 69))) (aa0 _ (.map #[] 0))) hcell;go_wp2_with fail;obtain ⟨hd,rfl,hf0⟩:=KV.out;obtain rfl:f=fun _=>none:=funext hf0
  have HB:Blk T (((((w.alloc (.cells #[U ka,I kn,U kid] 185)).alloc (.cells #[U s,V x] 69)).alloc (.map #[] 0))).setCell (Y d j) (.map (some (w.heap.size+1+1)))) d (cs.setIfInBounds j (.map (some (w.heap.size+1+1)))):=(((hd.more _).more _).more _).store j _;have gne:w.heap.size+1+1≠d:=G
  have HM:Mk kyE (((((w.alloc (.cells #[U ka,I kn,U kid] 185)).alloc (.cells #[U s,V x] 69)).alloc (.map #[] 0))).setCell (Y d j) (.map (some (w.heap.size+1+1)))) (w.heap.size+1+1) 0 (fun _=>none):=by
   have h0:=Mk.new kyE ((w.alloc (.cells #[U ka,I kn,U kid] 185)).alloc (.cells #[U s,V x] 69));rw [aa1,aa1] at h0;exact h0.of_block (Below.heap_setCell _ _ _ _ gne)
  have KB:Blk 185 (((((w.alloc (.cells #[U ka,I kn,U kid] 185)).alloc (.cells #[U s,V x] 69)).alloc (.map #[] 0))).setCell (Y d j) (.map (some (w.heap.size+1+1)))) w.heap.size #[U ka,I kn,U kid]:=(((Blk.new w 185 #[U ka,I kn,U kid]).more _).more _).away (p:=⟨d,j,none⟩) (by show w.heap.size≠d; omega) _;have VB:Blk 69 (((((w.alloc (.cells #[U ka,I kn,U kid] 185)).alloc (.cells #[U s,V x] 69)).alloc (.map #[] 0))).setCell (Y d j) (.map (some (w.heap.size+1+1)))) (w.heap.size+1) #[U s,V x]:=by
   have h0:=Blk.new (w.alloc (.cells #[U ka,I kn,U kid] 185)) 69 #[U s,V x];rw [aa1] at h0;exact (h0.more _).away (p:=⟨d,j,none⟩) (by show w.heap.size+1≠d; omega) _
  have HT:Turn [d] w (((((w.alloc (.cells #[U ka,I kn,U kid] 185)).alloc (.cells #[U s,V x] 69)).alloc (.map #[] 0))).setCell (Y d j) (.map (some (w.heap.size+1+1)))):=((((Turn.refl [d] w).alloc _).alloc _).alloc _).trans (Turn.setCell _ (p:=⟨d,j,none⟩) sn _);have hjs:j<cs.size:=by
   rcases Nat.lt_or_ge j cs.size with h|h
   ·exact h
   ·rw [Array.getElem?_eq_none h] at hj; cases hj
  generalize (((((w.alloc (.cells #[U ka,I kn,U kid] 185)).alloc (.cells #[U s,V x] 69)).alloc (.map #[] 0))).setCell (Y d j) (.map (some (w.heap.size+1+1))))=W at*;have hW:W.cell? (Y d j)=some (.map (some (w.heap.size+1+1))):=(HB.at_ j).trans (by simp [hjs]);obtain ⟨w4,hu,hM4,hg4,-⟩:=(HM.of_block (w':=W.drew) rfl).store (t:=105) (e:=69) X hn (i:=⟨ka,kn,kid⟩) hk (.agg #[U s,V x]);have hu:(Instr.mapUpdate 105 (.map (some (w.heap.size+1+1))) (.agg #[U ka,I kn,U kid]) (.agg #[U s,V x])).run prog W.drew= .ok () w4:=hu;have k0:=KB.at_ 0;have k1:=KB.at_ 1;have k2:=KB.at_ 2;have v0:=VB.at_ 0;have v1:=VB.at_ 1;have HT4:Turn [d] w w4:=HT.drew.fresh (Turn.of_grown hg4 (List.mem_singleton.2 rfl)) G;have HB4:=HB.drew.turn (Turn.of_grown hg4 (List.mem_singleton.2 rfl)) (by simp; omega);have Z:=H3 HB4 hM4 HT4;clear HB4 hM4 HT4 hg4 HT HM HB KB VB KV hd hf0 k3 f3 hcell hfr q hmm;go_region;all_goals
   refine bodyPost_end (v:= .tuple #[]) (results_none rfl _ _ _) rfl ?_;refine ⟨rfl,_,_,Z.out.1,Z.out.2.1,?_,Z.out.2.2,.inr G⟩;split<;>omega
 |some b=>
  go_enter Tryz.func150,Tryz.ntmps150;have k2:=held (next (aa0 w (.cells #[U ka,I kn,U kid] 185)) (aa0 _ (.cells #[U s,V x] 69))) hcell;go_wp2_with fail;obtain ⟨hd,hm⟩:=KV.out;have hm:Mk kyE w b n f:=hm;have hdb:=hne b rfl;have HB:Blk T ((w.alloc (.cells #[U ka,I kn,U kid] 185)).alloc (.cells #[U s,V x] 69)) d cs:=(hd.more _).more _;have HM:Mk kyE ((w.alloc (.cells #[U ka,I kn,U kid] 185)).alloc (.cells #[U s,V x] 69)) b n f:=hm.held (next (aa0 _ _) (aa0 _ _));have KB:Blk 185 ((w.alloc (.cells #[U ka,I kn,U kid] 185)).alloc (.cells #[U s,V x] 69)) w.heap.size #[U ka,I kn,U kid]:=(Blk.new w 185 #[U ka,I kn,U kid]).more _;have VB:Blk 69 ((w.alloc (.cells #[U ka,I kn,U kid] 185)).alloc (.cells #[U s,V x] 69)) (w.heap.size+1) #[U s,V x]:=by
   have h0:=Blk.new (w.alloc (.cells #[U ka,I kn,U kid] 185)) 69 #[U s,V x];rw [aa1] at h0;exact h0
  have HT:Turn [d,b] w ((w.alloc (.cells #[U ka,I kn,U kid] 185)).alloc (.cells #[U s,V x] 69)):=((Turn.refl _ w).alloc _).alloc _;generalize ((w.alloc (.cells #[U ka,I kn,U kid] 185)).alloc (.cells #[U s,V x] 69))=W at*;obtain ⟨w4,hu,hM4,hg4,-⟩:=(HM.of_block (w':=W.drew) rfl).store (t:=105) (e:=69) X hn (i:=⟨ka,kn,kid⟩) hk (.agg #[U s,V x]);have hu:(Instr.mapUpdate 105 (.map (some b)) (.agg #[U ka,I kn,U kid]) (.agg #[U s,V x])).run prog W.drew= .ok () w4:=hu;have k0:=KB.at_ 0;have k1:=KB.at_ 1;have k2:=KB.at_ 2;have v0:=VB.at_ 0;have v1:=VB.at_ 1;have HT4:Turn [d,b] w w4:=HT.drew.trans (Turn.of_grown hg4 sn);have HB4:=HB.drew.turn (Turn.of_grown hg4 (List.mem_singleton.2 rfl)) (by simpa using hdb);have hset:cs.setIfInBounds j (.map (some b))=cs:=by
   apply Array.ext sn;intro i h1 h2;simp only [Array.getElem_setIfInBounds h2];split
   ·next e=>
    subst e;rw [Array.getElem?_eq_getElem h2] at hj;exact (Option.some.inj hj).symm
   ·rfl
  rw [<- hset] at HB4;have Z:=H3 HB4 hM4 HT4;clear HB4 hM4 HT4 hg4 HT HM HB KB VB KV hd hm hcell hfr q hset;go_region;all_goals
   refine bodyPost_end (v:= .tuple #[]) (results_none rfl _ _ _) rfl ?_;refine ⟨rfl,_,_,Z.out.1,Z.out.2.1,?_,Z.out.2.2,.inl rfl⟩;split<;>omega
end
section
open Go.RowKit Rm
variable {W w y:World}{N b d id lease m n n' off:Nat}{fl o:Option Nat}{rs:List Rc}
variable {tS:TypeId} {XS:List Value}
structure Sm where
 lease:Nat
 own:Pk->Option Bool
 floor:Ky->Option (Nat×Nat)
def sm0:Sm:=⟨0,fun _=>none,fun _=>none⟩
def app (S:Sm) (r:Rc):Sm:=
 if r.kind=2 then ⟨S.lease,fun p=>if p=⟨r.a,r.len⟩ then some r.on else S.own p,S.floor⟩
 else if r.kind=3 then ⟨max S.lease r.seq,S.own,S.floor⟩
 else if r.kind=4 then (if bet (S.floor ⟨r.a,r.len,r.id⟩) r.seq r.met then ⟨S.lease,S.own,fun k=>if k=⟨r.a,r.len,r.id⟩ then some (r.seq,r.met) else S.floor k⟩ else S)
 else S
theorem cy6 (own:Pk->Option Bool) (p:Pk) (b:Bool):upd (fun x=>(own x).map ownV) p (.agg #[O b])=fun x=>((fun z=>if z=p then some b else own z) x).map ownV:=by
 funext x;unfold upd;by_cases h:x=p
 ·simp [h,ownV]
 ·simp [h]
theorem cb8 (fl:Ky->Option (Nat×Nat)) (k:Ky) (s x:Nat):upd (fun x=>(fl x).map dV) k (.agg #[U s,V x])=fun z=>((fun z=>if z=k then some (s,x) else fl z) z).map dV:=by
 funext z;unfold upd;by_cases h:z=k
 ·simp [h,dV]
 ·simp [h]
def Notes (tS:TypeId) (XS:List Value) (w:World) (d:Nat) (o fl:Option Nat) (id N:Nat) (S:Sm):Prop:=∃ n m,n+m<=N/\St tS XS w d o fl id S.lease n m S.own S.floor
theorem St.setOwn {own:Pk->Option Bool} {floor:Ky->Option (Nat×Nat)} (hS:St tS XS W d o fl id lease n m own floor) (hb:Below w.heap.size w W) (hnm:n+m<=N) (hN:N<1000000000) (p:Pk) (v:Bool)
  (hB:Blk tS y d ((Value.int .u32 id::Value.int .u32 lease::Value.map o::Value.map fl::XS).toArray.setIfInBounds 2 (.map (some b)))) (hM:Mk pkE y b n' (upd (fun x=>(own x).map ownV) p (.agg #[O v]))) (hn:n'<=n+1) (t:Turn (d::o.toList) W y) (ho:o=some b\/W.heap.size<=b):
  ∃ o' fl',Notes tS XS y d o' fl' id (N+1) ⟨lease,fun z=>if z=p then some v else own z,floor⟩/\Turn (fp d o fl) w y/\∀ z,z∈fp d o' fl'->z∈fp d o fl\/w.heap.size<=z:=by
 have hsz:=hb.size;refine ⟨some b,fl,⟨n',m,G,hB,?_,?_,?_,hS.small,hS.lease_lt,G⟩,(Turn.of_below _ hb).trans (t.mono fun i hi=>?_),fun z hz=>?_⟩
 ·rw [cy6] at hM
  exact hM
 ·refine hS.floors.of_block fun b' hb'=>t.block b' (hS.floors.lt hb') fun hi=>?_
  rcases List.mem_cons.1 hi with rfl|hi
  ·exact hS.head_ne (.inr hb') rfl
  ·exact hS.apart b' b' (by simpa using hi) hb' rfl
 ·intro x z hx hz
  cases hx;rcases ho with ho|ho
  ·exact hS.apart _ _ ho hz
  ·have:=hS.floors.lt hz
   omega
 ·rcases List.mem_cons.1 hi with rfl|hi
  ·exact ab6.2 (.inl rfl)
  ·exact ab6.2 (.inr (.inl (by simpa using hi)))
 ·rcases ab6.1 hz with rfl|h1|h1
  ·exact .inl (ab6.2 (.inl rfl))
  ·cases h1
   rcases ho with ho|ho
   ·exact .inl (ab6.2 (.inr (.inl ho)))
   ·exact .inr G
  ·exact .inl (ab6.2 (.inr (.inr h1)))
theorem St.setFloor {own:Pk->Option Bool} {floor:Ky->Option (Nat×Nat)} (hS:St tS XS W d o fl id lease n m own floor) (hb:Below w.heap.size w W) (hnm:n+m<=N) (hN:N<1000000000) (k:Ky) (s x:Nat) (hs:s<4294967296) (hx:x<65536)
  (hB:Blk tS y d ((Value.int .u32 id::Value.int .u32 lease::Value.map o::Value.map fl::XS).toArray.setIfInBounds 3 (.map (some b)))) (hM:Mk kyE y b n' (upd (fun x=>(floor x).map dV) k (.agg #[U s,V x]))) (hn:n'<=m+1) (t:Turn (d::fl.toList) W y) (ho:fl=some b\/W.heap.size<=b):
  ∃ o' fl',Notes tS XS y d o' fl' id (N+1) ⟨lease,own,fun z=>if z=k then some (s,x) else floor z⟩/\Turn (fp d o fl) w y/\∀ z,z∈fp d o' fl'->z∈fp d o fl\/w.heap.size<=z:=by
 have hsz:=hb.size;refine ⟨o,some b,⟨n,n',G,hB,?_,?_,?_,?_,hS.lease_lt,G⟩,(Turn.of_below _ hb).trans (t.mono fun i hi=>?_),fun z hz=>?_⟩
 ·refine hS.owns.of_block fun b' hb'=>t.block b' (hS.owns.lt hb') fun hi=>?_
  rcases List.mem_cons.1 hi with rfl|hi
  ·exact hS.head_ne (.inl hb') rfl
  ·exact hS.apart b' b' hb' (by simpa using hi) rfl
 ·rw [cb8] at hM
  exact hM
 ·intro x z hx hz
  cases hz;rcases ho with ho|ho
  ·exact hS.apart _ _ hx ho
  ·have:=hS.owns.lt hx
   omega
 ·intro z f hf
  have hf:(if z=k then some (s,x) else floor z)=some f:=hf;by_cases h:z=k
  ·rw [if_pos h] at hf
   cases hf;exact ⟨hs,hx⟩
  ·rw [if_neg h] at hf
   exact hS.small z f hf
 ·rcases List.mem_cons.1 hi with rfl|hi
  ·exact ab6.2 (.inl rfl)
  ·exact ab6.2 (.inr (.inr (by simpa using hi)))
 ·rcases ab6.1 hz with rfl|h1|h1
  ·exact .inl (ab6.2 (.inl rfl))
  ·exact .inl (ab6.2 (.inr (.inl h1)))
  ·cases h1
   rcases ho with ho|ho
   ·exact .inl (ab6.2 (.inr (.inr ho)))
   ·exact .inr G
theorem St.setLease {q:Nat} {z:Int} {own:Pk->Option Bool} {floor:Ky->Option (Nat×Nat)} (hS:St tS XS W d o fl id lease n m own floor) (hb:Below w.heap.size w W) (hnm:n+m<=N) (hq:q<4294967296) (hz:z=q):
  ∃ o' fl',Notes tS XS (W.setCell (Y d 1) (U z)) d o' fl' id N ⟨q,own,floor⟩/\Turn (fp d o fl) w (W.setCell (Y d 1) (U z))/\∀ y,y∈fp d o' fl'->y∈fp d o fl\/w.heap.size<=y:=by
 subst hz;refine ⟨o,fl,⟨n,m,hnm,hS.head.store 1 _,hS.owns.of_block fun b hb'=>?_,hS.floors.of_block fun b hb'=>?_,hS.apart,hS.small,hq,hS.counts⟩,(Turn.of_below _ hb).trans (Turn.setCell _ (p:=⟨d,1,none⟩) (ab6.2 (.inl rfl)) _),fun y hy=> .inl hy⟩
 ·exact Below.heap_setCell _ _ _ _ (Ne.symm (hS.head_ne (.inl hb')))
 ·exact Below.heap_setCell _ _ _ _ (Ne.symm (hS.head_ne (.inr hb')))
theorem cn8 {S:Sm} (h:Notes tS XS w d o fl id N S) (hN:N<1000000000) (g l i a:Nat) (n:Int) (b:Bool) (s x:Nat) (hk:Pk.ok ⟨a,n⟩):
  Q 116 #[K d,.agg #[I 2,U g,U l,U i,U a,I n,O b,U s,V x]] w fun e w'=>e= .returned (.tuple #[])/\
   ∃ o' fl',Notes tS XS w' d o' fl' id (N+1) (app S ⟨2,g,l,i,a,n,b,s,x⟩)/\Turn (fp d o fl) w w'/\∀ y,y∈fp d o' fl'->y∈fp d o fl\/w.heap.size<=y:=by
 obtain ⟨nn,m,hnm,hS⟩:=h;go_enter Tryz.func116,Tryz.ntmps116;go_wp2_with fail;obtain ⟨hb,RB⟩:=nw w 160 #[I 2,U g,U l,U i,U a,I n,O b,U s,V x];have hz:=aa1 w (.cells #[I 2,U g,U l,U i,U a,I n,O b,U s,V x] 160);generalize w.alloc _=W at*;have hSW:=(hS.held hb).drew;have c4:=RB.at_ 4;have c5:=RB.at_ 5;have c6:=RB.at_ 6;have hC:Q 149 #[Qt d 2,.agg #[U a,I n],.agg #[O b]] W.drew _:=cz6 hSW.head (j:=2) rfl hSW.owns (fun y hy=>hSW.head_ne (.inl hy)) (by have:=hSW.counts; unfold maxLen; omega) ⟨a,n⟩ hk b;have E:app S ⟨2,g,l,i,a,n,b,s,x⟩=⟨S.lease,fun p=>if p=⟨a,n⟩ then some b else S.own p,S.floor⟩:=rfl;have ST:=H3 hSW hb.drew E;clear hS hSW hb RB E;go_region_with (go_at_call 149; refine hC.mono ?_; rintro e y ⟨rfl,hp⟩; have Y:=Z hp; clear hp);all_goals
  go_wp2_with fail;obtain ⟨b',n',h1,h2,h3,h4,h5⟩:=Y.out;refine bodyPost_end (v:= .tuple #[]) (results_none rfl _ _ _) rfl ⟨rfl,?_⟩;rw [ST.out.2.2];exact St.setOwn ST.out.1 ST.out.2.1 hnm hN _ _ h1 h2 h3 h4 h5
theorem bo8 {S:Sm} (h:Notes tS XS w d o fl id N S) (g l i a:Nat) (n:Int) (b:Bool) (s x:Nat) (hs:s<4294967296):
  Q 116 #[K d,.agg #[I 3,U g,U l,U i,U a,I n,O b,U s,V x]] w fun e w'=>e= .returned (.tuple #[])/\
   ∃ o' fl',Notes tS XS w' d o' fl' id N (app S ⟨3,g,l,i,a,n,b,s,x⟩)/\Turn (fp d o fl) w w'/\∀ y,y∈fp d o' fl'->y∈fp d o fl\/w.heap.size<=y:=by
 obtain ⟨nn,m,hnm,hS⟩:=h;go_enter Tryz.func116,Tryz.ntmps116;go_wp2_with fail;obtain ⟨hb,RB⟩:=nw w 160 #[I 3,U g,U l,U i,U a,I n,O b,U s,V x];have hz:=aa1 w (.cells #[I 3,U g,U l,U i,U a,I n,O b,U s,V x] 160);generalize w.alloc _=W at*;have hSW:=(hS.held hb).drew;have c7:=RB.at_ 7;have l1:W.cell? (Y d 1)=some (U S.lease):=hSW.head.at_ 1;have f1:W.frozen? (Y d 1)=false:=hSW.head.free 1;have E:app S ⟨3,g,l,i,a,n,b,s,x⟩=⟨max S.lease s,S.own,S.floor⟩:=rfl;have ST:=H3 hSW hb.drew E;clear hS hSW hb RB E;go_region;all_goals
  go_wp2_with fail
 all_goals
  refine bodyPost_end (v:= .tuple #[]) (results_none rfl _ _ _) rfl ⟨rfl,?_⟩;rw [ST.out.2.2];exact St.setLease (W:=W.drew) ST.out.1 ST.out.2.1 hnm (by have:=ST.out.1.lease_lt; omega) (by rw [Nat.max_def]; split<;>omega)
theorem ay1 {S:Sm} (hS:St tS XS W d o fl id S.lease n m S.own S.floor) (hb:Below w.heap.size w W) (hnm:n+m<=N):
  ∃ o' fl',Notes tS XS W d o' fl' id N S/\Turn (fp d o fl) w W/\∀ y,y∈fp d o' fl'->y∈fp d o fl\/w.heap.size<=y:=
 ⟨o,fl,⟨n,m,hnm,hS⟩,.of_below _ hb,fun _ h=> .inl h⟩
theorem bo7 {S:Sm} (h:Notes tS XS w d o fl id N S) (k:Int) (h2:k≠2) (h3:k≠3) (h4:k≠4) (g l i a:Nat) (n:Int) (b:Bool) (s x:Nat):
  Q 116 #[K d,.agg #[I k,U g,U l,U i,U a,I n,O b,U s,V x]] w fun e w'=>e= .returned (.tuple #[])/\
   ∃ o' fl',Notes tS XS w' d o' fl' id N (app S ⟨k,g,l,i,a,n,b,s,x⟩)/\Turn (fp d o fl) w w'/\∀ y,y∈fp d o' fl'->y∈fp d o fl\/w.heap.size<=y:=by
 obtain ⟨nn,m,hnm,hS⟩:=h;have E:=Z (show app S ⟨k,g,l,i,a,n,b,s,x⟩=S by unfold app; simp [h2,h3,h4]);have d2:(k==2)=false:=beq_eq_false_iff_ne.2 h2;have d3:(k==3)=false:=beq_eq_false_iff_ne.2 h3;have d4:(k==4)=false:=beq_eq_false_iff_ne.2 h4;clear h2 h3 h4;go_enter Tryz.func116,Tryz.ntmps116;go_wp2_with fail;refine bodyPost_end (v:= .tuple #[]) (results_none rfl _ _ _) rfl ⟨rfl,?_⟩;rw [E.out];exact ay1 (hS.held (aa0 _ _)) (aa0 _ _) hnm
theorem bo9 {S:Sm} (h:Notes tS XS w d o fl id N S) (hN:N<1000000000) (g l i a:Nat) (n:Int) (b:Bool) (s x:Nat) (hs:s<4294967296) (hx:x<65536) (hk:Ky.ok ⟨a,n,i⟩):
  Q 116 #[K d,.agg #[I 4,U g,U l,U i,U a,I n,O b,U s,V x]] w fun e w'=>e= .returned (.tuple #[])/\
   ∃ o' fl',Notes tS XS w' d o' fl' id (N+1) (app S ⟨4,g,l,i,a,n,b,s,x⟩)/\Turn (fp d o fl) w w'/\∀ y,y∈fp d o' fl'->y∈fp d o fl\/w.heap.size<=y:=by
 obtain ⟨nn,m,hnm,hS⟩:=h;obtain ⟨hb,RB⟩:=nw w 160 #[I 4,U g,U l,U i,U a,I n,O b,U s,V x];have hz:=aa1 w (.cells #[I 4,U g,U l,U i,U a,I n,O b,U s,V x] 160)
 cases hr:bet (S.floor ⟨a,n,i⟩) s x with
 |false=>
  have E:=Z (show app S ⟨4,g,l,i,a,n,b,s,x⟩=S by unfold app; simp [hr]);go_enter Tryz.func116,Tryz.ntmps116;go_wp2_with fail;refine (al8 ((hS.held hb).held (aa0 _ _)) ⟨a,n,i⟩ hk s x hr rfl).mono ?_;rintro e w' ⟨rfl,hb'⟩;have hb2:=next (next hb (aa0 _ _)) hb';have hS2:=hS.held hb2;clear hb' hb RB hS hz;go_wp2_with fail;refine bodyPost_end (v:= .tuple #[]) (results_none rfl _ _ _) rfl ⟨rfl,?_⟩;rw [E.out];obtain ⟨o',fl',⟨n1,n2,h1,h2⟩,h3⟩:=ay1 hS2 hb2 hnm;exact ⟨o',fl',⟨n1,n2,G,h2⟩,h3⟩
 |true=>
  have E:=Z (show app S ⟨4,g,l,i,a,n,b,s,x⟩=⟨S.lease,S.own,fun k=>if k=⟨a,n,i⟩ then some (s,x) else S.floor k⟩ by unfold app; simp [hr]);go_enter Tryz.func116,Tryz.ntmps116;go_wp2_with fail;have KB:=Blk.new (w.alloc (.cells #[I 4,U g,U l,U i,U a,I n,O b,U s,V x] 160)) 185 #[U a,I n,U i];rw [aa1] at KB;refine (al8 ((hS.held hb).held (aa0 _ _)) ⟨a,n,i⟩ hk s x hr rfl).mono ?_;rintro e w' ⟨rfl,hb'⟩;have RB2:=(RB.more (.cells #[U a,I n,U i] 185)).held hb';have KB2:=KB.held hb';have hb2:=next (next hb (aa0 _ _)) hb';have hS2:=(hS.held hb2).drew;clear hb' hb RB KB hS hz;go_wp2_with fail;have c7:=RB2.at_ 7;have c8:=RB2.at_ 8;have k0:=KB2.at_ 0;have k1:=KB2.at_ 1;have k2:=KB2.at_ 2;have hC:Q 150 #[Qt d 3,.agg #[U a,I n,U i],.agg #[U s,V x]] w'.drew _:=cd2 hS2.head (j:=3) rfl hS2.floors (fun y hy=>hS2.head_ne (.inr hy)) (by have:=hS2.counts; unfold maxLen; omega) ⟨a,n,i⟩ hk s x;have ST:=H2 hS2 hb2.drew;clear hS2 hb2 RB2 KB2;go_region_with (go_at_call 150; refine hC.mono ?_; rintro e y ⟨rfl,hp⟩; have Y:=Z hp; clear hp);all_goals
   go_wp2_with fail;obtain ⟨b',n',h1,h2,h3,h4,h5⟩:=Y.out;refine bodyPost_end (v:= .tuple #[]) (results_none rfl _ _ _) rfl ⟨rfl,?_⟩;rw [E.out];exact St.setFloor ST.out.1 ST.out.2 hnm hN _ _ _ hs hx h1 h2 h3 h4 h5
theorem bj4 {S:Sm} (h:Notes tS XS w d o fl id N S) (hN:N<1000000000) (r:Rc) (hr:r.Fits):
  Q 116 #[K d,.agg #[I r.kind,U r.gen,U r.lsn,U r.id,U r.a,I r.len,O r.on,U r.seq,V r.met]] w fun e w'=>e= .returned (.tuple #[])/\
   ∃ o' fl',Notes tS XS w' d o' fl' id (N+1) (app S r)/\Turn (fp d o fl) w w'/\∀ y,y∈fp d o' fl'->y∈fp d o fl\/w.heap.size<=y:=by
 obtain ⟨k,g,l,i,a,n,b,s,x⟩:=r;have hup:∀ w',(∃ o' fl',Notes tS XS w' d o' fl' id N (app S ⟨k,g,l,i,a,n,b,s,x⟩)/\Turn (fp d o fl) w w'/\∀ y,y∈fp d o' fl'->y∈fp d o fl\/w.heap.size<=y)->∃ o' fl',Notes tS XS w' d o' fl' id (N+1) (app S ⟨k,g,l,i,a,n,b,s,x⟩)/\Turn (fp d o fl) w w'/\∀ y,y∈fp d o' fl'->y∈fp d o fl\/w.heap.size<=y:=
  fun _ ⟨o',fl',⟨n1,n2,h1,h2⟩,h3⟩=>⟨o',fl',⟨n1,n2,G,h2⟩,h3⟩
 by_cases h2:k=2
 ·subst h2
  exact cn8 h hN g l i a n b s x ⟨hr.a,hr.n1,hr.n2⟩
 by_cases h3:k=3
 ·subst h3
  exact (bo8 h g l i a n b s x hr.seq).mono fun _ _ h=>⟨h.1,hup _ h.2⟩
 by_cases h4:k=4
 ·subst h4
  exact bo9 h hN g l i a n b s x hr.seq hr.met ⟨hr.a,⟨hr.n1,hr.n2⟩,hr.id⟩
 ·exact (bo7 h k h2 h3 h4 g l i a n b s x).mono fun _ _ h=>⟨h.1,hup _ h.2⟩
section
variable {w w':World} {d o fl id lease n m:Nat} {own:Pk->Option Bool} {floor:Ky->Option (Nat×Nat)}
end
def Pre (w:World) (g:Nat) (a:Int) (len:Int):Prop:=w.cell? (Y g 0)=some (U a)/\w.cell? (Y g 1)=some (I len)
def rcl (r:Rc):Array Value:=#[I r.kind,U r.gen,U r.lsn,U r.id,U r.a,I r.len,O r.on,U r.seq,V r.met]
def Recs (w:World) (b off:Nat) (rs:List Rc):Prop:=∀ i (h:i<rs.length),∀ j,j<9->w.cell? (Y b (off+(9*i+j)))=(rcl rs[i])[j]?
theorem Recs.of_block {w':World} (h:Recs w b off rs) (hb:w'.heap[b]?=w.heap[b]?):Recs w' b off rs:=fun i hi j hj=>by rw [World.cell?_of_block hb]; exact h i hi j hj
theorem Recs.held {w w':World} {b off:Nat} {rs:List Rc} (h:Recs w b off rs) (hb:Below w.heap.size w w'):Recs w' b off rs:=fun i hi j hj=>by
 have h1:=h i hi j hj;have hj':j<(rcl rs[i]).size:=hj;rw [Array.getElem?_eq_getElem hj'] at h1 ⊢;exact Go.Proofs.YtafkfnodcemefaaGreat.held hb h1
theorem Recs.cells (h:Recs w b off rs) {k:Nat} (hk:k<rs.length) {kd:Int} {g l i a:Nat} {n:Int} {o:Bool} {s m:Nat} (e:rs[k]=⟨kd,g,l,i,a,n,o,s,m⟩):
  w.cell? (Y b (off+k*9))=some (I kd)/\w.cell? (Y b (off+k*9+1))=some (U g)/\w.cell? (Y b (off+k*9+2))=some (U l)/\w.cell? (Y b (off+k*9+3))=some (U i)/\w.cell? (Y b (off+k*9+4))=some (U a)/\w.cell? (Y b (off+k*9+5))=some (I n)/\w.cell? (Y b (off+k*9+6))=some (O o)/\w.cell? (Y b (off+k*9+7))=some (U s)/\w.cell? (Y b (off+k*9+8))=some (V m):=
 ⟨(by rw [show off+k*9=off+(9*k+0) by omega,h k hk 0 G,e]; rfl),(by rw [show off+k*9+1=off+(9*k+1) by omega,h k hk 1 G,e]; rfl),(by rw [show off+k*9+2=off+(9*k+2) by omega,h k hk 2 G,e]; rfl),(by rw [show off+k*9+3=off+(9*k+3) by omega,h k hk 3 G,e]; rfl),(by rw [show off+k*9+4=off+(9*k+4) by omega,h k hk 4 G,e]; rfl),(by rw [show off+k*9+5=off+(9*k+5) by omega,h k hk 5 G,e]; rfl),(by rw [show off+k*9+6=off+(9*k+6) by omega,h k hk 6 G,e]; rfl),(by rw [show off+k*9+7=off+(9*k+7) by omega,h k hk 7 G,e]; rfl),(by rw [show off+k*9+8=off+(9*k+8) by omega,h k hk 8 G,e]; rfl)⟩
end
end Go.Proofs.YtafkfnodcemefaaGreat
