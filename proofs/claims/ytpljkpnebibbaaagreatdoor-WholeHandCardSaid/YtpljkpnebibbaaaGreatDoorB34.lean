import Derived.Test.YtpljkpnebibbaaaGreatDoorB09
import Derived.Deep.DeepCutAuto
import Derived.Sort.WalkA
import Derived.Lib.SlicesCompact
set_option maxHeartbeats 8000000
set_option maxRecDepth 100000
namespace Go.Proofs.YtpljkpnebibbaaaGreatDoor.Lo
open _root_.Go.Proofs.Tryz (prog)
section
variable {k x:Nat}
namespace Lm
structure En where
 a:Nat
 n:Int
 how:Int
 nx:Int
deriving DecidableEq
def En.zero:En:=⟨0,0,0,0⟩
instance:Inhabited En:=⟨En.zero⟩
structure En.Fits (e:En):Prop where
 a:e.a<4294967296
 n1:-9223372036854775808<=e.n
 n2:e.n<=9223372036854775807
 h1:-9223372036854775808<=e.how
 h2:e.how<=9223372036854775807
 x1:-9223372036854775808<=e.nx
 x2:e.nx<=9223372036854775807
def good (x:Nat) (e:En):Bool:=!(e.how==0) && Am.has e.a e.n x
theorem bt3 {e:En} (h:good x e=true):(e.how==0)=false:=by
 unfold good at h;simp only [Bool.and_eq_true,Bool.not_eq_true'] at h;exact h.1
def IsLook (x:Nat) (l:List En) (k:Nat) (r:En):Prop:=
 ((∀ j (h:j<l.length),j<k->good x l[j]=false)/\r=En.zero)\/
 ∃ i,∃ h:i<l.length,i<k/\l[i]=r/\good x r=true/\∀ j (h:j<l.length),j<k->good x l[j]=true->l[j].n<r.n\/(l[j].n=r.n/\i<=j)
theorem IsLook.none (x:Nat) (l:List En):IsLook x l 0 En.zero:= .inl ⟨fun j _ h=>by omega,rfl⟩
theorem IsLook.skip {l:List En} {r:En} (h:IsLook x l k r) (hk:k<l.length) (hg:good x l[k]=false):IsLook x l (k+1) r:=by
 rcases h with ⟨h,e⟩|⟨i,hi,hk',e,hg',h⟩
 ·refine .inl ⟨fun j hj hjk=>?_,e⟩
  by_cases hjk':j=k
  ·subst hjk'; exact hg
  ·exact h j hj (by omega)
 ·refine .inr ⟨i,hi,by omega,e,hg',fun j hj hjk hgj=>?_⟩
  by_cases hjk':j=k
  ·subst hjk'; rw [hg] at hgj; cases hgj
  ·exact h j hj (by omega) hgj
theorem IsLook.take {l:List En} {r:En} (h:IsLook x l k r) (hk:k<l.length) (hg:good x l[k]=true) (hb:(r.how==0)=true\/l[k].n>r.n):IsLook x l (k+1) l[k]:=by
 refine .inr ⟨k,hk,by omega,rfl,hg,fun j hj hjk hgj=>?_⟩;by_cases hjk':j=k
 ·subst hjk'; exact .inr ⟨rfl,Nat.le_refl _⟩
 ·rcases h with ⟨h,e⟩|⟨i,hi,hk',e,hg',h⟩
  ·rw [h j hj (by omega)] at hgj; cases hgj
  ·rcases hb with hb|hb
   ·rw [bt3 hg'] at hb; cases hb
   ·have:=h j hj (by omega) hgj
    omega
theorem IsLook.leave {l:List En} {r:En} (h:IsLook x l k r) (hk:k<l.length) (hh:(r.how==0)=false) (hb:¬ l[k].n>r.n):IsLook x l (k+1) r:=by
 rcases h with ⟨h,e⟩|⟨i,hi,hk',e,hg',h⟩
 ·subst e; cases hh
 ·refine .inr ⟨i,hi,by omega,e,hg',fun j hj hjk hgj=>?_⟩
  by_cases hjk':j=k
  ·subst hjk'
   have:i<=j:=by omega
   omega
  ·exact h j hj (by omega) hgj
theorem IsLook.unique {l:List En} {r s:En} (h:IsLook x l k r) (h':IsLook x l k s):r=s:=by
 rcases h with ⟨h,e⟩|⟨i,hi,hk,e,hg,h⟩
 ·rcases h' with ⟨h',e'⟩|⟨i',hi',hk',e',hg',h'⟩
  ·rw [e,e']
  ·have:=h i' hi' hk'
   rw [e',hg'] at this
   cases this
 ·rcases h' with ⟨h',e'⟩|⟨i',hi',hk',e',hg',h'⟩
  ·have:=h' i hi hk
   rw [e,hg] at this
   cases this
  ·have h1:=h i' hi' hk' (by rw [e']; exact hg')
   have h2:=h' i hi hk (by rw [e]; exact hg);rw [e'] at h1;rw [e] at h2;obtain rfl:i=i':=by omega
   rw [<- e,<- e']
def Below (x:Nat) (l:List En) (n:Int) (k:Nat):Prop:=∀ j (h:j<l.length),good x l[j]=true->l[j].n<n\/(l[j].n=n/\k<=j)
def stepL (x:Nat) (r e:En):En:=if good x e && ((r.how==0)||decide (e.n>r.n)) then e else r
def lookB (x:Nat) (l:List En):En:=l.foldl (stepL x) En.zero
theorem ay2 (x:Nat) (l:List En):∀ k,k<=l.length->IsLook x l k ((l.take k).foldl (stepL x) En.zero)
 |0,_=>by simpa using IsLook.none x l
 |k+1,hk=>by
  have hk':k<l.length:=hk;have h:=ay2 x l k (by omega);rw [List.take_succ_eq_append_getElem hk',List.foldl_append];generalize (l.take k).foldl (stepL x) En.zero=r at h;show IsLook x l (k+1) (stepL x r l[k]);unfold stepL
  cases hg:good x l[k] with
  |false=>simpa using h.skip hk' hg
  |true=>
   cases hr:(r.how==0) with
   |true=>simpa using h.take hk' hg (.inl hr)
   |false=>
    by_cases hn:l[k].n>r.n
    ·simpa [hn] using h.take hk' hg (.inr hn)
    ·simpa [hn] using h.leave hk' hr hn
theorem cs8 (x:Nat) (l:List En):IsLook x l l.length (lookB x l):=by
 have h:=ay2 x l l.length (Nat.le_refl _);rw [List.take_length] at h;exact h
theorem IsLook.eq {l:List En} {r:En} (h:IsLook x l l.length r):r=lookB x l:=h.unique (cs8 x l)
end Lm
end
section
open Go.RowKit Lm
variable {r:En}{W wr:World}{g:Nat}
def ecl (e:En):List Value:=[.int .u32 e.a,.int .i64 e.n,.int .i64 e.how,.int .i64 e.nx]
theorem bd2 (e:En):(ecl e).length=4:=rfl
abbrev Ents:=Items ecl 4
theorem Ents.cells {w:World} {b off:Nat} {es:List En} (h:Ents w b off es) {k:Nat} (hk:k<es.length) {a:Nat} {n how nx:Int} (e:es[k]=⟨a,n,how,nx⟩):
  w.cell? ⟨b,off+k*4,none⟩=some (.int .u32 a)/\w.cell? ⟨b,off+k*4+1,none⟩=some (.int .i64 n)/\w.cell? ⟨b,off+k*4+2,none⟩=some (.int .i64 how)/\w.cell? ⟨b,off+k*4+3,none⟩=some (.int .i64 nx):=
 ⟨(by have:=h k hk 0 (by omega); rw [e] at this; exact this),(by have:=h k hk 1 (by omega); rw [e] at this; exact this),(by have:=h k hk 2 (by omega); rw [e] at this; exact this),(by have:=h k hk 3 (by omega); rw [e] at this; exact this)⟩
theorem has_eq {a:Nat} {len:Int} {x:Nat} {r:Bool} (ha:a<4294967296) (hx:x<4294967296) (h:Am.has a len x=r) (w:World):
  Calls prog 124 #[.agg #[.int .u32 a,.int .i64 len],.int .u32 x] w fun e w'=>e= .returned (.bool r)/\Below w.heap.size w w':=h ▸ dd7 a len x ha hx w
def Best (W:World) (g:Nat) (wr:World) (r:En):Prop:=Blk 135 wr g #[.int .u32 0,.int .i64 0,.int .i64 0,.int .i64 0]/\Blk 135 wr (g+1) #[.int .u32 r.a,.int .i64 r.n,.int .i64 r.how,.int .i64 r.nx]/\Turn [g,g+1] W wr
theorem Best.held {w':World} (h:Best W g wr r) (hb:Below wr.heap.size wr w'):Best W g w' r:=⟨h.1.held hb,h.2.1.held hb,h.2.2.and_below hb⟩
theorem Best.set (h:Best W g wr r) (s:En):Best W g (wr.setCells (g+1) 0 (ecl s)) s:=
 ⟨h.1.apart (by omega) _,h.2.1.put_all (ecl s) rfl,h.2.2.trans (Turn.setCells _ (by simp) _ _)⟩
theorem cv0 (e:En):(prog.info? 135).map (·.size)=some (ecl e).toArray.size:=by
 show _=some 4
 kernel_rfl
theorem by0 (A:Option Addr) (len cap:Nat) (es:List En) (hl:es.length=len) (hm:len<=maxLen) (hc:len<=cap) (hA:0<len->∃ b off,A=some ⟨b,off,none⟩) (hF:∀ e∈es,e.Fits) (x:Nat) (hx:x<4294967296) (w:World)
  (hR:∀ b off,A=some ⟨b,off,none⟩->Ents w b off es):
  Calls prog 92 #[.slice A len cap,.int .u32 x] w fun e w'=>∃ r,e= .returned (.agg (ecl r).toArray)/\IsLook x es es.length r/\Below w.heap.size w w':=by
 unfold maxLen at hm;have B0:=(Blk.new w 135 #[.int .u32 0,.int .i64 0,.int .i64 0,.int .i64 0]).more (.cells #[.int .u32 0,.int .i64 0,.int .i64 0,.int .i64 0] 135);have B1:=Blk.new (w.alloc (.cells #[.int .u32 0,.int .i64 0,.int .i64 0,.int .i64 0] 135)) 135 #[.int .u32 0,.int .i64 0,.int .i64 0,.int .i64 0];rw [aa1] at B1;have hb:=next (aa0 w (.cells #[.int .u32 0,.int .i64 0,.int .i64 0,.int .i64 0] 135)) (aa0 _ (.cells #[.int .u32 0,.int .i64 0,.int .i64 0,.int .i64 0] 135));go_enter Tryz.func92,Tryz.ntmps92;go_wp2_with fail;generalize (w.alloc (.cells #[.int .u32 0,.int .i64 0,.int .i64 0,.int .i64 0] 135)).alloc (.cells #[.int .u32 0,.int .i64 0,.int .i64 0,.int .i64 0] 135)=w2 at*;have hRw:∀ b off,A=some ⟨b,off,none⟩->Ents w2 b off es/\b<w.heap.size\/len=0:=fun b off e=>by
  rcases Nat.eq_zero_or_pos len with h0|h0
  ·exact .inr h0
  ·have h1:=hR b off e
   have:=h1 0 (by omega) 0 (by omega);exact .inl ⟨h1.held bd2 hb,by have:=aw8 (this.trans (show _=some _ from rfl)); simpa using this⟩
 clear hR;have S0:Best w2 w.heap.size w2 En.zero:=⟨B0,B1,.refl _ _⟩;have HB:=Lib.hid hb;clear B0 B1 hb;generalize hg:w.heap.size=g at*;go_loopw [10] (fun i wr=>∃ (k:Nat) (r:En),k<=len/\i= .int .i64 k/\IsLook x es k r/\Best w2 g wr r) (fun i _=>len - (intOf i).toNat)
 case atStart=>exact ⟨0,En.zero,by omega,rfl,.none x es,S0⟩
 case round=>
  obtain ⟨k,r,hk,rfl,hI,hB⟩:=hrel;by_cases hlt:k<len
  ·obtain ⟨b,off,rfl⟩:=hA (by omega)
   have hk':k<es.length:=by omega
   obtain ⟨hE,hbg⟩:Ents w2 b off es/\b<g:=by
    rcases hRw b off rfl with h|h
    ·exact h
    ·omega
   have hEr:=hE.turn bd2 hB.2.2 (by simp; omega);have ha:=(hF es[k] (List.getElem_mem hk')).a;have hskip:good x es[k]=false->IsLook x es (k+1) r:=hI.skip hk';have htake:good x es[k]=true->((r.how==0)=true\/es[k].n>r.n)->IsLook x es (k+1) es[k]:=hI.take hk';have hleave:(r.how==0)=false->¬ es[k].n>r.n->IsLook x es (k+1) r:=hI.leave hk';generalize hek:es[k]=e at*;obtain ⟨ea,en,eh,ex⟩:=e;obtain ⟨c0,c1,c2,c3⟩:=Ents.cells hEr hk' hek;obtain ⟨hbn,Z0⟩:=nw wr 135 #[.int .u32 ea,.int .i64 en,.int .i64 eh,.int .i64 ex];have gs:g+1<wr.heap.size:=hB.2.1.lt;have HH:=H4 hB hskip htake hleave;clear hB hskip htake hleave hI hEr hE hRw hF hA S0
   cases heh:(eh==0) with
   |true=>
    have hG:good x ⟨ea,en,eh,ex⟩=false:=by unfold good; dsimp only; rw [heh]; rfl
    have N:=H2 (HH.out.1.held hbn) (HH.out.2.1 hG);clear HH hbn Z0 hG hek;go_wp2_with fail;go_roundw
    case rel=>exact ⟨k+1,r,by omega,by go_num,N.out.2,N.out.1⟩
    case measure=>simp [intOf]; omega
   |false=>
    obtain ⟨q,hq⟩:∃ q,Am.has ea en x=q:=⟨_,rfl⟩;have hG:good x ⟨ea,en,eh,ex⟩=q:=by unfold good; dsimp only; rw [heh,hq]; rfl
    have HG:=H3 hG hbn Z0;clear hG hbn Z0 hek;go_wp2_with fail;refine (has_eq ha hx hq _).mono ?_;rintro e w3 ⟨rfl,hb⟩;have Z:=HG.out.2.2.held hb;have hB3:=HH.out.1.held (next HG.out.2.1 hb);have N:=H2 HH.out.2 HG.out.1;have z0:=Z.at_ 0;have z1:=Z.at_ 1;have z2:=Z.at_ 2;have z3:=Z.at_ 3;clear hb HH HG hq c0 c1 c2 c3
    cases q with
    |false=>
     have M:=H2 hB3 (N.out.1.1 N.out.2);clear hB3 N Z;go_wp2_with fail;go_roundw
     case rel=>exact ⟨k+1,r,by omega,by go_num,M.out.2,M.out.1⟩
     case measure=>simp [intOf]; omega
    |true=>
     obtain ⟨ra,rn,rh,rx⟩:=r;have b0:=hB3.2.1.at_ 0;have b1:=hB3.2.1.at_ 1;have b2:=hB3.2.1.at_ 2;have b3:=hB3.2.1.at_ 3;have f0:=hB3.2.1.free 0;have f1:=hB3.2.1.free 1;have f2:=hB3.2.1.free 2;have f3:=hB3.2.1.free 3
     cases hrh:(rh==0) with
     |true=>
      have M:=H2 hB3 (N.out.1.2.1 N.out.2 (.inl hrh));clear hB3 N Z;go_wp2_with fail;go_roundw
      case rel=>exact ⟨k+1,⟨ea,en,eh,ex⟩,by omega,by go_num,M.out.2,M.out.1.set ⟨ea,en,eh,ex⟩⟩
      case measure=>simp [intOf]; omega
     |false=>
      cases hgt:decide (rn<en) with
      |true=>
       have M:=H2 hB3 (N.out.1.2.1 N.out.2 (.inr (of_decide_eq_true hgt)));clear hB3 N Z;go_wp2_with fail;go_roundw
       case rel=>exact ⟨k+1,⟨ea,en,eh,ex⟩,by omega,by go_num,M.out.2,M.out.1.set ⟨ea,en,eh,ex⟩⟩
       case measure=>simp [intOf]; omega
      |false=>
       have M:=Lib.hid (And.intro hB3 (N.out.1.2.2 hrh (by have:=of_decide_eq_false hgt; dsimp only at this ⊢; omega)));clear hB3 N Z;go_wp2_with fail;go_roundw
       case rel=>exact ⟨k+1,⟨ra,rn,rh,rx⟩,by omega,by go_num,M.out.2,M.out.1⟩
       case measure=>simp [intOf]; omega
  ·obtain rfl:k=len:=by omega
   obtain ⟨ra,rn,rh,rx⟩:=r;have b0:=hB.2.1.at_ 0;have b1:=hB.2.1.at_ 1;have b2:=hB.2.1.at_ 2;have b3:=hB.2.1.at_ 3;have a0:=hB.1.at_ 0;have a1:=hB.1.at_ 1;have a2:=hB.1.at_ 2;have a3:=hB.1.at_ 3;have f0:=hB.1.free 0;have f1:=hB.1.free 1;have f2:=hB.1.free 2;have f3:=hB.1.free 3;have M:=H2 hB hI;clear hB hI hRw hF hA S0;go_wp2_with fail;refine bodyPost_ret (v:= .agg (ecl ⟨ra,rn,rh,rx⟩).toArray) (results_cell_row (p:=4) (by kernel_rfl) _ _ g 135 _ (0,0) _ rfl (M.out.1.1.put_all (ecl ⟨ra,rn,rh,rx⟩) rfl) Tryz.underlying135 rfl (cv0 _)) rfl ⟨⟨ra,rn,rh,rx⟩,rfl,?_,?_⟩
   ·exact M.out.2
   ·exact cn6 (HB.out.trans (M.out.1.2.2.below (by intro i hi; simp at hi; omega) (by have:=HB.out.size; omega))) (Nat.le_refl _) 0 (ecl ⟨ra,rn,rh,rx⟩)
end
section
open Go.RowKit Go.Maps Lm
variable {w w':World}{A p:Option Addr}{B cap n:Nat}{es:List En}{xs:List Int}
structure InE (w:World) (A:Option Addr) (len cap:Nat) (es:List En):Prop where
 hl:es.length=len
 hm:len<=maxLen
 hc:len<=cap
 hA:0<len->∃ b off,A=some ⟨b,off,none⟩
 hF:∀ e∈es,e.Fits
 hR:∀ b off,A=some ⟨b,off,none⟩->Ents w b off es
theorem InE.held {len:Nat} (h:InE w A len cap es) (hb:Below w.heap.size w w'):InE w' A len cap es:=
 ⟨h.hl,h.hm,h.hc,h.hA,h.hF,fun b off e=>(h.hR b off e).held bd2 hb⟩
theorem InE.lookup {len:Nat} (h:InE w A len cap es) {x:Nat} (hx:x<4294967296) {a:Nat} {n how nx:Int} (hr:lookB x es=⟨a,n,how,nx⟩):
  Calls prog 92 #[.slice A len cap,.int .u32 x] w fun e w'=>e= .returned (.agg #[.int .u32 a,.int .i64 n,.int .i64 how,.int .i64 nx])/\Below w.heap.size w w':=
 (by0 A len cap es h.hl h.hm h.hc h.hA h.hF x hx w h.hR).mono fun _ _ ⟨s,he,hI,hb⟩=>⟨by rw [he,hI.eq,hr]; rfl,hb⟩
structure InF (w:World) (g cap:Nat) (fss:List (List En)):Prop where
 le:fss.length<=cap
 few:cap<=100
 rows:∀ i (h:i<fss.length),∃ A c,w.cell? ⟨g,i,none⟩=some (.slice A fss[i].length c)/\InE w A fss[i].length c fss[i]
theorem InF.held {g:Nat} {fss:List (List En)} (h:InF w g cap fss) (hb:Below w.heap.size w w'):InF w' g cap fss:=
 ⟨h.le,h.few,fun i hi=>by
  obtain ⟨A,c,h1,h2⟩:=h.rows i hi;exact ⟨A,c,Go.Proofs.YtpljkpnebibbaaaGreatDoor.held hb h1,h2.held hb⟩⟩
def icl (z:Int):List Value:=[.int .i64 z]
theorem elemI:Elem prog 139 3 icl 1 8:=⟨by kernel_rfl,ae2 (z:= .int .i64 0) (by kernel_rfl) rfl,by omega,fun _=>rfl,fun x v hv=>by simp only [icl,List.mem_cons,List.not_mem_nil,or_false] at hv; subst hv; rfl,by omega⟩
abbrev Oi:=Ol 3 icl 1
theorem cc5 (w:World) (A:Option Addr) (n cap:Nat) (z:Int):
  Calls prog 90 #[.slice A n cap,.int .i64 z] w fun e w'=>e= .returned (.bool (decide (0<=z/\z<(n:Int))))/\w'=w:=by
 by_cases h0:0<=z
 ·have d0:decide (0<=z)=true:=decide_eq_true h0
  have E:=Lib.hid (show decide (0<=z/\z<(n:Int))=decide (z<(n:Int)) by simp [h0]);obtain ⟨q,hq⟩:∃ q,decide (z<(n:Int))=q:=⟨_,rfl⟩;rw [hq] at E;go_enter Tryz.func90,Tryz.ntmps90;go_wp2;go_ret;exact ⟨aa4 E.out.symm,rfl⟩
 ·have d0:decide (0<=z)=false:=decide_eq_false h0
  have E:=Lib.hid (show decide (0<=z/\z<(n:Int))=false by simp [h0]);go_enter Tryz.func90,Tryz.ntmps90;go_wp2;go_ret;exact ⟨rfl,rfl⟩
theorem av6 (h:Oi B (.slice p n cap) xs w) (hn:xs.length=n) (hs:n<=100) (z:Int):
  Calls prog 123 #[.slice p n cap,.int .i64 z] w fun e w'=>∃ q:Int,e= .returned (.int .i64 q)/\(0<=q↔z∈xs)/\w'=w:=by
 subst hn;have H:=Lib.hid h;clear h;go_enter Tryz.func123,Tryz.ntmps123;go_wp2_with fail;go_loopw [8] (fun i wr=>∃ k:Nat,i= .int .i64 k/\k<=xs.length/\Hid (∀ j (h:j<xs.length),j<k->xs[j]≠z)/\wr=w) (fun i _=>xs.length - (intOf i).toNat)
 case atStart=>exact ⟨0,rfl,Nat.zero_le _,fun j _ hj=>by omega,rfl⟩
 case round=>
  obtain ⟨k,rfl,hk,R,rfl⟩:=hrel;by_cases hkl:k<xs.length
  ·have hkz:(k:Int)<(xs.length:Int):=by omega
   obtain ⟨g,cp,e,h1,h2,hc⟩:=H.out.at_ elemI.len hkl
   cases e;have c0:=hc 0 (by omega);rw [Nat.mul_one,Nat.add_zero] at c0;replace c0:wr.cell? ⟨g,k,none⟩=some (.int .i64 xs[k]):=c0;clear hc h1 h2;by_cases he:z=xs[k]
   ·have M:=Lib.hid (show z∈xs by rw [he]; exact List.getElem_mem hkl)
    have d1:(z==xs[k])=true:=beq_iff_eq.2 he;clear he;go_wp2_with fail;go_ret;exact ⟨_,rfl,⟨fun _=>M.out,fun _=>by omega⟩,rfl⟩
   ·have R2:=Lib.hid (show ∀ j (h:j<xs.length),j<k+1->xs[j]≠z from fun j hj hjk=>by
     by_cases e:j=k
     ·subst e; exact fun e=>he e.symm
     ·exact R.out j hj (by omega))
    have d1:(z==xs[k])=false:=beq_eq_false_iff_ne.2 he;clear he R;go_wp2_with fail;go_roundw
    case rel=>exact ⟨k+1,by go_num,by omega,R2,trivial⟩
    case measure=>simp [intOf]; omega
  ·obtain rfl:k=xs.length:=by omega
   go_wp2_with fail;go_ret;refine ⟨_,rfl,⟨fun h=>by omega,fun h=>?_⟩,rfl⟩;obtain ⟨j,hj,e⟩:=List.mem_iff_getElem.1 h;exact absurd e (R.out j hj hj)
theorem aj6 (h:Oi B (.slice p n cap) xs w) (hn:xs.length=n) (hs:n<=100) (z:Int):
  Calls prog 91 #[.slice p n cap,.int .i64 z] w fun e w'=>e= .returned (.bool (decide (z∈xs)))/\w'=w:=by
 have HI:=av6 h hn hs z;clear h;go_enter Tryz.func91,Tryz.ntmps91;go_wp2_with fail;refine HI.mono ?_;rintro e w2 ⟨q,rfl,hq,rfl⟩;have E:=Lib.hid hq;clear HI hq;go_wp2_with fail;go_ret;exact ⟨aa4 (by simp [E.out]),rfl⟩
end
section
open Lm
variable {fss:List (List En)}{path:List Int}
inductive Walks (fss:List (List En)) (x:Nat):List Int->Int->List Int->Int->Bool->Prop
 |out {path:List Int} {at_:Int} (h:¬ (0<=at_/\at_<fss.length)):Walks fss x path at_ path 0 true
 |ring {path:List Int} {at_:Int} (h:0<=at_/\at_<fss.length) (hm:at_∈path):Walks fss x path at_ path 2 false
 |stop {path:List Int} {at_:Int} {k:Nat} {a:Nat} {n how nx:Int} (e:at_=k) (h:k<fss.length) (hm:at_∉path) (hl:lookB x fss[k]=⟨a,n,how,nx⟩) (hh:how≠2):Walks fss x path at_ (path++[at_]) how true
 |go {path:List Int} {at_:Int} {k:Nat} {a:Nat} {n nx:Int} {p:List Int} {how:Int} {ok:Bool} (e:at_=k) (h:k<fss.length) (hm:at_∉path) (hl:lookB x fss[k]=⟨a,n,2,nx⟩) (hr:Walks fss x (path++[at_]) nx p how ok):Walks fss x path at_ p how ok
structure Path (fss:List (List En)) (path:List Int):Prop where
 nd:path.Nodup
 there:∀ y,y∈path->0<=y/\y<fss.length
theorem Path.nil (fss:List (List En)):Path fss []:=⟨List.nodup_nil,fun y h=>by cases h⟩
theorem Path.snoc (h:Path fss path) {k:Nat} (hk:k<fss.length) (hm:(k:Int)∉path):Path fss (path++[(k:Int)]):=by
 refine ⟨List.nodup_append.2 ⟨h.nd,by simp,fun a ha b hb=>?_⟩,fun y hy=>?_⟩
 ·simp at hb
  subst hb;exact fun e=>hm (e ▸ ha)
 ·rcases List.mem_append.1 hy with h1|h1
  ·exact h.there y h1
  ·simp at h1
   omega
theorem Path.len (h:Path fss path):path.length<=fss.length:=by
 have hnd:(path.map Int.toNat).Nodup:=by
  refine List.pairwise_map.2 (List.Pairwise.imp_of_mem (fun {a b} ha hb hab e=>hab ?_) h.nd);have:=h.there a ha;have:=h.there b hb;omega
 have hsub:∀ y∈path.map Int.toNat,y∈List.range fss.length:=fun y hy=>by
  obtain ⟨z,hz,rfl⟩:=List.mem_map.1 hy;have:=h.there z hz;rw [List.mem_range];omega
 have:=List.Nodup.length_le_of_subset hnd hsub;simpa using this
end
section
open Go.RowKit Go.Maps Lm
def lenV:Value->Nat
 | .slice _ k _=>k
 |_=>0
structure WlR (w:World) (fss:List (List En)) (x:Nat) (from_:Int) (path:List Int) (at_:Int) (v:Value) (wr:World):Prop where
 own:Oi w.heap.size v path wr
 way:Path fss path
 goes:∀ p how ok,Walks fss x path at_ p how ok->Walks fss x [] from_ p how ok
 below:Below w.heap.size w wr
theorem co9 {w:World} {g cap:Nat} {fss:List (List En)} (h:InF w g cap fss) {x:Nat} (hx:x<4294967296) (from_:Int):
  Calls prog 59 #[.slice (some ⟨g,0,none⟩) fss.length cap,.int .i64 from_,.int .u32 x] w fun e w'=>∃ v p how ok,e= .returned (.tuple #[v,.int .i64 how,.bool ok])/\Walks fss x [] from_ p how ok/\Path fss p/\Oi w.heap.size v p w'/\Below w.heap.size w w':=by
 have R0:WlR w fss x from_ [] from_ (.slice none 0 0) w:=⟨Ol.nil _ _,.nil _,fun _ _ _ h=>h,.refl _ _⟩;have H:=H3 h hx R0;have mixed:prog.follows .mixedOrders=true:=by decide
 have hlen:fss.length<=100:=Nat.le_trans h.le h.few;clear h hx R0;go_enter Tryz.func59,Tryz.ntmps59;go_wp2_with fail;go_loopw [9,10,11] (fun l a _ wr=>∃ (path:List Int) (z:Int),a= .int .i64 z/\Hid (WlR w fss x from_ path z l wr)) (fun l _ _ _=>fss.length - lenV l)
 case atStart=>exact ⟨[],from_,rfl,H.out.2.2⟩
 case round=>
  obtain ⟨path,z,rfl,R⟩:=hrel;obtain ⟨p0,cc,rfl,hcc⟩:=R.out.own.form;have hpl:=R.out.way.len;have HT:=cc5 wr (some ⟨g,0,none⟩) fss.length cap z;by_cases hin:0<=z/\z<(fss.length:Int)
  ·rw [decide_eq_true hin] at HT
   obtain ⟨k,rfl⟩:=Int.eq_ofNat_of_zero_le hin.1;have hk:k<fss.length:=by omega
   have hkz:(k:Int)<(fss.length:Int):=hin.2;obtain ⟨Ln,hLn⟩:∃ Ln,path.length=Ln:=⟨_,rfl⟩;have hlt:Ln<=100:=by omega
   have HC:=aj6 R.out.own rfl (by omega) (k:Int);rw [hLn] at HC;by_cases hm:(k:Int)∈path
   ·rw [decide_eq_true hm] at HC
    have G:=H4 (R.out.goes _ _ _ (.ring hin hm)) R.out.way R.out.own R.out.below;rw [hLn] at G;clear R hm hin hcc;rw [hLn];have HL:=Lib.hid hLn;clear hLn hpl;go_wp2_with (first|(go_at_call 90; refine HT.mono ?_; rintro e w1 ⟨rfl,rfl⟩)|(go_at_call 91; refine HC.mono ?_; rintro e w2 ⟨rfl,rfl⟩)|fail);go_ret3;exact ⟨_,path,_,_,rfl,G.out.1,G.out.2.1,G.out.2.2.1,G.out.2.2.2⟩
   ·rw [decide_eq_false hm] at HC
    obtain ⟨g',cap',W6,hrun,hO6,hT6,hg6⟩:=Ol.push1 elemI R.out.own R.out.below.size (k:Int) (by omega) 139;have hB6:=own_below R.out.own R.out.below R.out.below.size hT6;obtain ⟨A,c,hcell,hE⟩:=(H.out.1.held (hB6)).rows k hk;obtain ⟨⟨ea,en,eh,ex⟩,he⟩:∃ r,lookB x fss[k]=r:=⟨_,rfl⟩;have HK:=hE.lookup H.out.2.1 he;have hsz:fss[k].length<=maxLen:=hE.hm;generalize hfl:fss[k].length=fl at*;rw [hLn] at hrun hO6;obtain ⟨L1,hL1⟩:∃ L1,Ln+1=L1:=⟨_,rfl⟩;rw [hL1] at hrun hO6;have G:=H7 R hm hO6 hB6 he hL1 hLn;clear R hm hO6 hB6 he hT6 hg6 hE hL1 hcc hpl hfl;rw [hLn];clear hLn;replace hrun:(Builtin.append_ #[139,139] 139 #[.slice p0 Ln cc,.slice (some ⟨wr.heap.size,0,none⟩) 1 1]).run prog (wr.alloc (.cells #[.int .i64 (k:Int)] 3))= .ok (.slice (some ⟨g',0,none⟩) L1 cap') W6:=hrun;by_cases hh:eh=2
    ·subst hh
     go_wp2_with (first|(go_at_call 90; refine HT.mono ?_; rintro e w1 ⟨rfl,rfl⟩)|(go_at_call 91; refine HC.mono ?_; rintro e w2 ⟨rfl,rfl⟩)|(at_builtin; refine Lib.wpList_append_run _ rfl (.tmp 20) (.tmp 22) 139 139 rfl _ _ rfl rfl _ _ hrun ?_)|(go_at_call 92; refine HK.mono ?_; rintro e w7 ⟨rfl,hb7⟩; have hb8:=next hb7 (aa0 w7 (.cells #[.int .u32 ea,.int .i64 en,.int .i64 2,.int .i64 ex] 135)); have G2:=H2 (G.out.2.2.1.held hb8) (G.out.2.2.2.1.trans (hb8.mono G.out.2.2.2.1.size)); have e1:=(Blk.new w7 135 #[.int .u32 ea,.int .i64 en,.int .i64 2,.int .i64 ex]).at_ 1; have e2:=(Blk.new w7 135 #[.int .u32 ea,.int .i64 en,.int .i64 2,.int .i64 ex]).at_ 2; clear hb7 hb8)|fail);go_roundw
     case rel=>
      refine ⟨path++[(k:Int)],ex,rfl,?_⟩;exact ⟨G2.out.1,G.out.1.out.way.snoc hk G.out.2.1,fun p how ok hw=>G.out.1.out.goes _ _ _ (.go rfl hk G.out.2.1 G.out.2.2.2.2.1 hw),G2.out.2⟩
     case measure=>
      have:=G.out.2.2.2.2.2.1;have:=G.out.2.2.2.2.2.2;have:=(G.out.1.out.way.snoc hk G.out.2.1).len;simp at this;simp [lenV];omega
    ·have d1:(eh !=2)=true:=by simpa using hh
     have HH:=Lib.hid hh;clear hh;go_wp2_with (first|(go_at_call 90; refine HT.mono ?_; rintro e w1 ⟨rfl,rfl⟩)|(go_at_call 91; refine HC.mono ?_; rintro e w2 ⟨rfl,rfl⟩)|(at_builtin; refine Lib.wpList_append_run _ rfl (.tmp 20) (.tmp 22) 139 139 rfl _ _ rfl rfl _ _ hrun ?_)|(go_at_call 92; refine HK.mono ?_; rintro e w7 ⟨rfl,hb7⟩; have hb8:=next hb7 (aa0 w7 (.cells #[.int .u32 ea,.int .i64 en,.int .i64 eh,.int .i64 ex] 135)); have G2:=H2 (G.out.2.2.1.held hb8) (G.out.2.2.2.1.trans (hb8.mono G.out.2.2.2.1.size)); have e1:=(Blk.new w7 135 #[.int .u32 ea,.int .i64 en,.int .i64 eh,.int .i64 ex]).at_ 1; have e2:=(Blk.new w7 135 #[.int .u32 ea,.int .i64 en,.int .i64 eh,.int .i64 ex]).at_ 2; clear hb7 hb8)|fail);go_big_region_o;all_goals go_wp2_with fail
     go_ret3;exact ⟨_,path++[(k:Int)],_,_,rfl,G.out.1.out.goes _ _ _ (.stop rfl hk G.out.2.1 G.out.2.2.2.2.1 HH.out),G.out.1.out.way.snoc hk G.out.2.1,G2.out.1.drew,G2.out.2.drew⟩
  ·rw [decide_eq_false hin] at HT
   have G:=H4 (R.out.goes _ _ _ (.out hin)) R.out.way R.out.own R.out.below;obtain ⟨Ln,hLn⟩:∃ Ln,path.length=Ln:=⟨_,rfl⟩;rw [hLn] at G;clear R hin hcc;rw [hLn];clear hLn hpl;go_wp2_with (first|(go_at_call 90; refine HT.mono ?_; rintro e w1 ⟨rfl,rfl⟩)|fail);go_ret3;exact ⟨_,path,_,_,rfl,G.out.1,G.out.2.1,G.out.2.2.1,G.out.2.2.2⟩
end
section
open Go.RowKit Go.Sort
theorem nan32 (x:Int) (w:World):Calls prog 193 #[.int .u32 x] w fun e w'=>e= .returned (.bool false)/\w'=w:=by
 go_enter Tryz.func193,Tryz.ntmps193;go_wp2;go_ret;exact ⟨by simp,rfl⟩
theorem less32 (x y:Int) (w:World):Calls prog 159 #[.int .u32 x,.int .u32 y] w fun e w'=>e= .returned (.bool (ltInt x y))/\w'=w:=by
 go_enter Tryz.func159,Tryz.ntmps159;go_wp2_with (go_at_call 193; refine (nan32 _ _).mono ?_; rintro e w' ⟨rfl,rfl⟩);go_ret;exact ⟨rfl,rfl⟩
theorem insertionSort32 (blk off cap a b:Nat) (d:Array Int) (w:World) (hH:Holds (Value.int .u32) w blk off d) (hab:a<=b) (hb:b<=d.size) (hsz:d.size<4611686018427387904):
  Calls prog 153 #[.slice (some ⟨blk,off,none⟩) d.size cap,.int .i64 a,.int .i64 b] w fun e w'=>
   e= .returned (.tuple #[])/\∃ n,w'=putRow (Value.int .u32) (Sort.ahead w n) blk off (Sort.insertionSort ltInt d a b):=by
 go_enter Tryz.func153,Tryz.ntmps153;go_wp2;go_loopw [6] (fun vi wr=>∃ (i n:Nat) (dk:Array Int),vi= .int .i64 i/\a<i/\i<=b+1/\dk.size=d.size/\wr=putRow (Value.int .u32) (Sort.ahead w n) blk off dk/\
   insOuter ltInt a b i dk=insOuter ltInt a b (a+1) d) (fun vi _=>b+1 - (intOf vi).toNat)
 case atStart=>exact ⟨a+1,0,d,by go_num,by omega,by omega,rfl,(putRow_self _ _ _ _ _ hH).symm,rfl⟩
 case round=>
  obtain ⟨i,n,dk,rfl,hai,hib,hsk,hwr,hO⟩:=hrel;have HO:=Lib.hid hO;clear hO;go_wp2
  ·go_loopw [7] (fun vj wr2=>∃ (j m:Nat) (dj:Array Int),vj= .int .i64 j/\a<=j/\j<=i/\dj.size=d.size/\wr2=putRow (Value.int .u32) (Sort.ahead w m) blk off dj/\
     insInner ltInt a j dj=insInner ltInt a i dk) (fun vj _=>(intOf vj).toNat)
   case atStart=>exact ⟨i,n,dk,rfl,by omega,Nat.le_refl _,hsk,rfl,rfl⟩
   case round=>
    obtain ⟨j,m,dj,rfl,haj,hji,hsj,hw2,hI⟩:=hrel;have hlt:i<b:=by assumption
    obtain ⟨G,hG⟩:∃ G:Nat->Int,∀ t,G t=dj[t]!:=⟨fun t=>dj[t]!,fun _=>rfl⟩;have hcw:∀ t,t<d.size->wr.cell? ⟨blk,off+t,none⟩=some (.int .u32 (G t)):=fun t ht=>by
     rw [hw2,hG]; exact cell?_putRow _ _ _ _ d dj (holds_ahead _ _ _ _ _ _ hH) hsj t (by omega)
    have hfw:∀ t,t<d.size->wr.frozen? ⟨blk,off+t,none⟩=false:=fun t ht=>by
     rw [hw2,frozen?_putRow]; exact ((holds_ahead _ _ m _ _ _ hH) t ht).2
    have HW:=Lib.hid hw2;have HG:=Lib.hid hG;have HI:=Lib.hid hI;clear hw2 hG hI hH;have OUT:=Lib.hid (show (j<=a\/ltInt dj[j]! dj[j - 1]! =false)->∀ q,∃ i' n' dk',Value.int .i64 ((i:Int)+1)= .int .i64 (i':Nat)/\a<i'/\i'<=b+1/\dk'.size=d.size/\
      wr.drewN q=putRow (Value.int .u32) (Sort.ahead w n') blk off dk'/\insOuter ltInt a b i' dk'=insOuter ltInt a b (a+1) d from fun hs q=>
     ⟨i+1,m+q,dj,by go_num,by omega,by omega,hsj,by rw [HW.out]; exact putRow_drewN _ _ _ _ _ _ _,
      by rw [<- HO.out,insOuter_go _ _ _ _ _ hlt,<- HI.out,insInner_stop _ _ _ _ hs]⟩)
    go_wp2;by_cases hja:a<j
    ·go_quiet (first|(go_at_call 159; refine Calls.quiet_of_same (less32 _ _ _)))
     go_wp2
     ·have hl:ltInt (G j) (G (j - 1))=true:=by assumption
      go_region;all_goals go_wp2
      go_roundw
      case rel=>
       refine ⟨j - 1,m+(nq+1),swp dj j (j - 1),by congr 1; omega,by omega,by omega,by rw [size_swp]; exact hsj,?_,?_⟩
       ·rw [HW.out,HG.out,HG.out]
        exact swap_worldA _ w m (nq+1) blk off dj j (j - 1) (by omega) (by omega)
       ·rw [<- HI.out,insInner_go ltInt a j dj hja (by rw [<- HG.out,<- HG.out]; exact hl)]
      case measure=>simp [intOf]; omega
     ·have hl:ltInt (G j) (G (j - 1))=false:=by assumption
      go_roundw
      case rel=>exact OUT.out (Or.inr (by rw [<- HG.out,<- HG.out]; exact hl)) nq
      case measure=>simp [intOf]; omega
    ·go_quiet (first|(go_at_call 159; refine Calls.quiet_of_same (less32 _ _ _)))
     go_wp2;go_roundw
     case rel=>exact OUT.out (Or.inl (by omega)) nq
     case measure=>simp [intOf]; omega
  ·have hge:¬ i<b:=by assumption
   go_end0;exact ⟨rfl,n,by unfold Sort.insertionSort; rw [<- HO.out,insOuter_stop _ _ _ _ _ hge]⟩
end
section
open Go.RowKit Go.Lib Go.Sort
def e32:Int->Value:=Value.int .u32
theorem store32 {w wr:World} {n blk off:Nat} {dk:Array Int} {i:Nat} (hi:i<dk.size) (hwr:wr=putRow e32 (Sort.ahead w n) blk off dk) (x:Int):
  (wr.setCell ⟨blk,off+i,none⟩ (e32 x)).drew=putRow e32 (Sort.ahead w (n+1)) blk off (dk.setIfInBounds i x):=by
 subst hwr;rw [putRow_set e32 _ blk off dk i x hi,<- ahead_drew];rfl
theorem compact32 (blk off cap:Nat) (d:Array Int) (w:World) (hH:Holds (Value.int .u32) w blk off d) (hsz:d.size<=9223372036854775807) (hcap:d.size<=cap):
  Calls prog 89 #[.slice (some ⟨blk,off,none⟩) d.size cap] w fun e w'=>e= .returned (.slice (some ⟨blk,off,none⟩) (compactUpTo d d.size).length cap)/\∃ q,w'=putRow e32 (Sort.ahead w q) blk off (compactUpTo d d.size++List.replicate (d.size - (compactUpTo d d.size).length) 0).toArray:=by
 have mixed:prog.follows .mixedOrders=true:=by decide
 have hz:∀ w,(zeroValue 23).run prog w= .ok (.int .u32 0) w:=fun w=>by kernel_rfl
 have HS:=Lib.hid (show ∀ q,(∀ j,j<d.size->keeps d j=true)->(compactUpTo d d.size).length=d.size/\w.drewN q=putRow e32 (Sort.ahead w q) blk off (compactUpTo d d.size++List.replicate (d.size - (compactUpTo d d.size).length) 0).toArray by
  intro q hall;have e:compactUpTo d d.size=d.toList:=by rw [compactUpTo_all d _ hall,range_map_get]
  rw [e];refine ⟨by simp,?_⟩;simp only [Array.length_toList,Nat.sub_self,List.replicate_zero,List.append_nil,Array.toArray_toList];exact (putRow_self e32 (Sort.ahead w q) blk off d (holds_ahead e32 w q blk off d hH)).symm)
 have HH:=Lib.hid hH;clear hH;by_cases h2:d.size<2
 ·go_enter Tryz.func89,Tryz.ntmps89
  go_wp2;go_ret;obtain ⟨e1,e2⟩:=HS.out 0 (fun j hj=>keeps_lt_one d j (by omega));exact ⟨by rw [e1]; rfl,0,e2⟩
 ·go_enter Tryz.func89,Tryz.ntmps89
  go_wp2;go_loopg [3] d.size (fun g s3 wr=>∃ k q:Nat,1<=k/\k<=d.size/\d.size - k<=g/\s3= .int .i64 k/\wr=w.drewN q/\∀ j,j<k->keeps d j=true)
  case atStart=>exact ⟨1,0,Nat.le_refl _,by omega,by omega,rfl,rfl,keeps_lt_one d⟩
  case round=>
   obtain ⟨k,q,hk1,hk,hg,rfl,rfl,hall⟩:=hrel;by_cases hlt:k<d.size
   ·obtain ⟨c1,f1⟩:=HH.out k hlt
    obtain ⟨c0,f0⟩:=HH.out (k - 1) (by omega);have A:=Lib.hid hall;clear hall;generalize hx:d[k]! =x at c1;generalize hy:d[k - 1]! =y at c0;have B:=H2 hx hy;clear hx hy;by_cases hdup:x=y
    ·subst hdup
     go_wp2_with fail;go_region_o;go_wp2;clear c0 c1 f0 f1;go_loopg [3,5] d.size (fun g s3 s5 wr=>∃ (kk k2 q2:Nat) (dk:Array Int),s3= .int .i64 kk/\s5= .int .i64 k2/\1<=k2/\k+k2<=d.size/\d.size - (k+k2)<=g/\wr=putRow e32 (Sort.ahead w q2) blk off dk/\CompInv d (k+k2) kk dk)
     case atStart=>exact ⟨k,1,q+1,d,rfl,rfl,Nat.le_refl _,by omega,by omega,(putRow_self e32 (Sort.ahead w (q+1)) blk off d (holds_ahead e32 w (q+1) blk off d HH.out)).symm,CompInv.start A.out (keeps_neg (by omega) (by rw [B.out.1,B.out.2]))⟩
     case round=>
      obtain ⟨kk,k2,q2,dk,rfl,rfl,h1,hle,hg2,hwr,hI⟩:=hrel;have hkk:=hI.lt;have hds:=hI.size;have hHk:Holds e32 wr blk off dk:=by rw [hwr]; exact holds_putRow e32 _ blk off d dk (holds_ahead e32 w q2 blk off d HH.out) hds
      have W2:=Lib.hid hwr;have I2:=Lib.hid hI;clear hwr;by_cases hlt2:k+k2<d.size
      ·obtain ⟨cm,_⟩:=hHk (k+k2) (by omega)
       obtain ⟨cp,_⟩:=hHk (k+k2 - 1) (by omega);obtain ⟨ck,fk⟩:=hHk kk (by omega);rw [hI.high (k+k2) (by omega),show off+(k+k2)=off+k+k2 by omega] at cm;rw [hI.high (k+k2 - 1) (by omega),show off+(k+k2 - 1)=off+k+(k2 - 1) by omega] at cp;clear hHk hI;generalize hu:d[k+k2]! =u at cm;generalize hv:d[k+k2 - 1]! =v at cp;generalize dk[kk]! =old at ck;have C:=H2 hu hv;clear hu hv;replace cm:wr.cell? ⟨blk,off+k+k2,none⟩=some (.int .u32 u):=cm;replace cp:wr.cell? ⟨blk,off+k+(k2 - 1),none⟩=some (.int .u32 v):=cp;replace ck:wr.cell? ⟨blk,off+kk,none⟩=some (.int .u32 old):=ck;by_cases huv:u=v
       ·subst huv
        go_wp2_with fail;go_region_o;go_wp2;go_roundg (d.size - (k+(k2+1)))
        case measure=>omega
        case rel=>exact ⟨kk,k2+1,q2+1,dk,rfl,by go_num,by omega,by omega,Nat.le_refl _,by rw [W2.out]; rfl,I2.out.skip (keeps_neg (by omega) (by rw [C.out.1,C.out.2]))⟩
       ·go_wp2_with fail
        go_region_o;go_wp2;go_roundg (d.size - (k+(k2+1)))
        case measure=>omega
        case rel=>exact ⟨kk+1,k2+1,q2+1,dk.setIfInBounds kk u,by go_num,by go_num,by omega,by omega,Nat.le_refl _,store32 (by omega) W2.out u,by have:=I2.out.keep hlt2 (keeps_pos (by rw [C.out.1,C.out.2]; exact huv)); rwa [C.out.1] at this⟩
      ·have hend:k+k2=d.size:=by omega
       have hcl:∀ ty,(Builtin.clear_ #[137] ty #[.slice (some ⟨blk,off+kk,none⟩) (d.size - kk) (cap - kk)]).run prog wr= .ok (.tuple #[]) (wr.setCells blk (off+kk) (List.replicate (d.size - kk) (e32 0))):=
        fun ty=>Lib.run_clear_slice wr _ _ ty _ Tryz.underlying137 hz rfl rfl blk (off+kk) _ _ (by omega) (fun j hj=>by rw [show off+kk+j=off+(kk+j) by omega,(hHk (kk+j) (by omega)).1]; rfl) (fun j hj=>by rw [show off+kk+j=off+(kk+j) by omega]; exact (hHk (kk+j) (by omega)).2)
       clear hHk hI;go_wp2;go_ret;have hI:=I2.out;rw [hend] at hI;refine ⟨by rw [hI.len]; rfl,q2,?_⟩;rw [hI.len,<- hI.done 0,<- putRow_setCells e32 _ blk off _ dk kk (by simp; omega),<- W2.out,List.map_replicate]
    ·go_wp2_with fail
     go_region_o;go_wp2;go_roundg (d.size - (k+1))
     case measure=>omega
     case rel=>
      refine ⟨k+1,q+1,by omega,by omega,Nat.le_refl _,by go_num,rfl,fun j hj=>?_⟩;by_cases e:j=k
      ·subst e
       exact keeps_pos (by rw [B.out.1,B.out.2]; exact hdup)
      ·exact A.out j (by omega)
   ·have:k=d.size:=by omega
    subst this;go_wp2;go_ret;obtain ⟨e1,e2⟩:=HS.out q hall;exact ⟨by rw [e1]; rfl,q,e2⟩
end
section
open Go.RowKit Go.Sort
theorem len64 (n:Nat) (hn:n<=12) (w:World):Calls prog 79 #[.int .u64 n] w fun e w'=>(∃ q:Int,e= .returned (.int .i64 q))/\w'=w:=by
 obtain rfl|rfl|rfl|rfl|rfl|rfl|rfl|rfl|rfl|rfl|rfl|rfl|rfl:n=0\/n=1\/n=2\/n=3\/n=4\/n=5\/n=6\/n=7\/n=8\/n=9\/n=10\/n=11\/n=12:=by omega
 all_goals (go_enter Tryz.func79,Tryz.ntmps79; go_wp2; go_ret; exact ⟨⟨_,rfl⟩,rfl⟩)
theorem dc9 (n:Nat) (hn:n<=12) (w:World):Calls prog 122 #[.int .u64 n] w fun e w'=>(∃ q:Int,e= .returned (.int .i64 q))/\w'=w:=by
 go_enter Tryz.func122,Tryz.ntmps122;go_wp2_with (go_at_call 79; refine (len64 n hn w).mono ?_; rintro e w2 ⟨⟨q,rfl⟩,rfl⟩);go_ret;exact ⟨⟨_,rfl⟩,rfl⟩
theorem pdq32 (blk cap:Nat) (d:Array Int) (l:Int) (w:World) (hH:Holds (Value.int .u32) w blk 0 d) (hsz:d.size<=12):
  Calls prog 121 #[.slice (some ⟨blk,0,none⟩) d.size cap,.int .i64 0,.int .i64 d.size,.int .i64 l] w fun e w'=>
   e= .returned (.tuple #[])/\∃ n,w'=putRow (Value.int .u32) (Sort.ahead w n) blk 0 (Sort.insertionSort ltInt d 0 d.size):=by
 have HI:=insertionSort32 blk 0 cap 0 d.size d w hH (by omega) (by omega) (by omega);obtain ⟨m,hm⟩:∃ m,d.size=m:=⟨_,rfl⟩;rw [hm] at hsz HI ⊢;clear hm hH;have hmz:(m:Int)<=12:=by omega
 go_enter Tryz.func121,Tryz.ntmps121;go_wp2_with fail;go_loopw [1,2] (fun a b wr=>a= .int .i64 0/\b= .int .i64 m/\wr=w) (fun _ _ _=>1)
 case atStart=>exact ⟨rfl,rfl,rfl⟩
 case round=>
  obtain ⟨rfl,rfl,rfl⟩:=hrel;go_wp2_with (go_at_call 153; refine HI.mono ?_; rintro e w2 ⟨rfl,n,hw2⟩);refine bodyPost_ret (results_none rfl _ _ _) rfl ?_;exact ⟨rfl,n,rfl⟩
theorem sort32 (blk cap:Nat) (d:Array Int) (w:World) (hH:Holds (Value.int .u32) w blk 0 d) (hsz:d.size<=12):
  Calls prog 88 #[.slice (some ⟨blk,0,none⟩) d.size cap] w fun e w'=>
   e= .returned (.tuple #[])/\∃ n,w'=putRow (Value.int .u32) (Sort.ahead w n) blk 0 (Sort.insertionSort ltInt d 0 d.size):=by
 have HP:=fun l=>pdq32 blk cap d l w hH hsz
 obtain ⟨m,hm⟩:∃ m,d.size=m:=⟨_,rfl⟩;rw [hm] at hsz HP ⊢;clear hm hH;have hmz:(m:Int)<=12:=by omega
 go_enter Tryz.func88,Tryz.ntmps88;go_wp2_with (first|(go_at_call 122; refine (dc9 m hsz w).mono ?_; rintro e w2 ⟨⟨q,rfl⟩,rfl⟩)|(go_at_call 121; refine (HP _).mono ?_; rintro e w3 ⟨rfl,n,hw3⟩)|fail);go_end0;exact ⟨rfl,n,rfl⟩
end
section
open Go.RowKit Go.Maps Lm
attribute [local go_sem] Oper.semAt_some
section
variable {α:Type} {P:Program} {t e:TypeId} {cl:α->List Value} {k bytes B:Nat} {v:Value} {xs:List α} {W:World}
theorem bt4 (E:Elem P t e cl k bytes):∀ (ys:List α),∀ u∈ys.flatMap cl,u.oneCell'=true
 |[],u,h=>by simp at h
 |y::r,u,h=>by
  rw [List.flatMap_cons] at h;rcases List.mem_append.1 h with h|h
  ·exact E.one y u h
  ·exact bt4 E r u h
theorem Ol.pushL (E:Elem P t e cl k bytes) (h:Ol e cl k B v xs W) (hB:B<=W.heap.size) {ad:Addr} {c:Nat} (ys:List α) (hy:0<ys.length) (hx:∀ j u,(ys.flatMap cl)[j]?=some u->W.cell? (ad.add j)=some u) (hbig:xs.length+ys.length<=1000000) (ty:TypeId):
  ∃ g' cap' W',(Builtin.append_ #[t,t] ty #[v,.slice (some ad) ys.length c]).run P W= .ok (.slice (some ⟨g',0,none⟩) (xs.length+ys.length) cap') W'/\Ol e cl k B (.slice (some ⟨g',0,none⟩) (xs.length+ys.length) cap') (xs++ys) W'/\W.grownBy W' v.ownBlock/\(v.ownBlock=some g'\/g'=W.heap.size):=by
 obtain ⟨i0,z,hi,hz0,hz1,hz2,hz3⟩:=E.info;obtain ⟨v',W',hr,hown,hgr,hnil,hat⟩:=run_append_own_at (P:=P) W B t ty e i0 z k bytes E.ht hi hz0 hz1 hz2 hz3 E.pos v xs.length (xs.flatMap cl) h ad ys.length c (ys.flatMap cl) (aa9 E.len ys) hx (bt4 E ys)
  (by unfold maxLen; omega) (by have h1:=E.small; have:=Nat.mul_le_mul (show xs.length+ys.length<=1000001 by omega) h1; omega) hB
 have hne:¬ v'= .slice none 0 0:=fun e=>by have:=(hnil.1 e).2; omega
 rcases hown.2 with ⟨rfl,_⟩|⟨g',cap',cur,rfl,h4,h5,h6,h7,h8,h9⟩
 ·exact absurd rfl hne
 ·have e1:(xs++ys).flatMap cl=xs.flatMap cl++ys.flatMap cl:=by simp
  have e2:(xs++ys).length=xs.length+ys.length:=by simp
  refine ⟨g',cap',W',hr,⟨by rw [e1,e2]; exact hown.1,.inr ⟨g',cap',cur,by rw [e2],h4,h5,by rw [e2]; exact h6,h7,h8,by rw [e1,e2]; exact h9⟩⟩,hgr,?_⟩;rcases hat with h|h
  ·exact .inl (h.symm.trans rfl)
  ·exact .inr (by simpa [Value.ownBlock] using h)
end
theorem ac6 {P:Program} {ops:Array Oper} {o:Oper} {a:Act} {w:World} {K:Act->World->Prop} {Q:Exit->Act->World->Prop} {E:Prop} (hgd:o.guard=none) (s x:Operand) (t:TypeId)
  (ho:o.op= .call { callee:= .builtin .append,args:=#[s,x],argTypes:=#[t,t] }) (v xv v':Value) (w0 w':World) (hw0:w=w0) (hs:a.eval s=v) (hx:a.eval x=xv)
  (hr:(Builtin.append_ #[t,t] o.type #[v,xv]).run P w0= .ok v' w') (h:K (a.put o.dst v') w'):if Region.wanted o (yielded ops a.tmps)=true then Oper.wp P o a w K Q else E:=by
 have hw:Region.wanted o (yielded ops a.tmps)=true:=by simp [Region.wanted,hgd]
 rw [if_pos hw];subst hw0;unfold Oper.wp execOp;simp only [ho,resolve,invoke,builtin,Sem.run_bind,Sem.run_pure,Result.andThen_ok,List.map_toArray,List.map_cons,List.map_nil,hs,hx,hr];exact h
def acl (z:Int):List Value:=[.int .u32 z]
theorem elemA:Elem prog 137 23 acl 1 4:=⟨by kernel_rfl,ae2 (z:= .int .u32 0) (by kernel_rfl) rfl,by omega,fun _=>rfl,fun x v hv=>by simp only [acl,List.mem_cons,List.not_mem_nil,or_false] at hv; subst hv; rfl,by omega⟩
abbrev Oa:=Ol 23 acl 1
theorem dg5 {a b:Nat} (ha:a<4294967296) (hri:Am.right a 16=true) (hor:bits .or .u32 (a:Nat) 65535=(b:Nat)) {W:World} {A n cc:Nat} {p0:Option Addr} {xs:List Int} (hbx:Blk 137 W A #[.slice p0 n cc]) (hO:Oa (A+1) (.slice p0 n cc) xs W) (hn:xs.length=n) (hl:n<=100):
  Calls prog 87 #[.agg #[.int .u32 (a:Nat),.int .i64 16],.pointer (some ⟨A,0,none⟩)] W fun e W'=>e= .returned (.tuple #[])/\∃ g' cap',Blk 137 W' A #[.slice (some ⟨g',0,none⟩) (n+2) cap']/\Oa (A+1) (.slice (some ⟨g',0,none⟩) (n+2) cap') (xs++[(a:Int),(b:Int)]) W'/\Below A W W':=by
 have hA:=hbx.lt;have HB:=H4 hbx hO hn hl;clear hbx hO hn hl;go_enter Tryz.func87,Tryz.ntmps87;have bq:=Blk.new W 25 #[.int .u32 (a:Nat),.int .i64 16];have hq:=aa1 W (.cells #[.int .u32 (a:Nat),.int .i64 16] 25);have hbn:=aa0 W (.cells #[.int .u32 (a:Nat),.int .i64 16] 25);have b0:=bq.at_ 0;have b1:=bq.at_ 1;go_upto_region 1 with fail;have HR:=right_eq (a:=a) (len:=16) ha (r:=true) hri (W.alloc (.cells #[.int .u32 (a:Nat),.int .i64 16] 25));generalize W.alloc _=w1 at*;go_upto_region 2 with (go_at_call 52; refine HR.mono ?_; rintro e w2 ⟨rfl,hb2⟩);have hbx:=HB.out.1.held (hbn.trans (hb2.mono hbn.size));have hO:=HB.out.2.1.held (hbn.trans (hb2.mono hbn.size));have bq2:=bq.held hb2;have hs2:W.heap.size<w2.heap.size:=by have:=hb2.size; omega
 have k0:w2.drew.cell? ⟨A,0,none⟩=some (.slice p0 n cc):=hbx.at_ 0;have k1:w2.drew.cell? ⟨W.heap.size,0,none⟩=some (.int .u32 (a:Nat)):=bq2.at_ 0;have k2:w2.drew.cell? ⟨W.heap.size,1,none⟩=some (.int .i64 16):=bq2.at_ 1;have Y:=Lib.hid (And.intro (show Blk 137 w2.drew A _ from hbx) (And.intro (hO.drew) (And.intro ((hbn.trans (hb2.mono hbn.size)).drew) (And.intro (show W.heap.size<w2.drew.heap.size from hs2) (show ∀ b,(Value.slice p0 n cc).ownBlock=some b->A+1<=b/\b<W.heap.size from fun b hb=>⟨(HB.out.2.1.lt hb).2,(HB.out.2.1.lt hb).1⟩)))));clear hbx hO bq2 hs2 bq b0 b1 hq hbn hb2 HR;generalize W.heap.size=bk at*;refine wp_region_held_drew (S:=fun u=>u.cell? ⟨bk,0,none⟩=some (.int .u32 (a:Nat))/\u.cell? ⟨bk,1,none⟩=some (.int .i64 16)) (by kernel_rfl) ⟨k1,k2⟩ (fun hHeld=>?_);generalize w2.drew=w3 at*;refine tk 1 (.pointer (some ⟨bk,0,none⟩)) rfl hHeld ?_;go_frame;refine tk 2 (.int .u32 (a:Nat)) rfl hHeld ?_;go_frame;refine tk 3 (.pointer (some ⟨bk,0,none⟩)) rfl hHeld ?_;go_frame;refine tk 4 (.int .u32 (a:Nat)) rfl hHeld ?_;go_frame;refine tk 5 (.pointer (some ⟨bk,1,none⟩)) rfl hHeld ?_;go_frame;refine tk 6 (.int .i64 16) rfl hHeld ?_;go_frame;refine tk 7 (.int .u32 65535) rfl hHeld ?_;go_frame;refine aa6 (i:=8) (v:= .int .u32 (b:Nat)) rfl (by kernel_rfl) (by kernel_rfl) (by kernel_rfl) (fun _ _ _ h=>h) (.inl ⟨rfl,?_⟩) hHeld ?_
 ·(intro w hSw; go_simp; try exact hor)
 try go_frame
 obtain ⟨hb4,b4⟩:=nw w3 23 #[.int .u32 (a:Nat),.int .u32 (b:Nat)];have m0:=held hb4 k0;have m1:=held hb4 k1;have m2:=held hb4 k2;obtain ⟨g',cap',w5,hrun,hO5,hg5,hat5⟩:=Ol.pushL elemA (Y.out.2.1.held hb4) (Nat.le_trans (show A+1<=w3.heap.size from by have:=Y.out.2.2.2.1; omega) hb4.size) (ad:=⟨w3.heap.size,0,none⟩) (c:=2) [(a:Int),(b:Int)] (by simp) (fun jj u hj=>by
  rw [Addr.add_mid,Nat.zero_add,b4.at_ jj];simpa [acl] using hj) (by rw [HB.out.2.2.1]; have:=HB.out.2.2.2; simp; omega) 137
 rw [HB.out.2.2.1] at hrun hO5;have hrun2:(Builtin.append_ #[137,137] 137 #[.slice p0 n cc,.slice (some ⟨w3.heap.size,0,none⟩) 2 2]).run prog (w3.alloc (.cells #[.int .u32 (a:Nat),.int .u32 (b:Nat)] 23))= .ok (.slice (some ⟨g',0,none⟩) (n+2) cap') w5:=hrun;clear hrun;have hbx4:=Y.out.1.held hb4;have hpA:=Y.out.2.2.2.2;have hgA:g'≠A:=fun e=>by
  have:=(hO5.lt (b:=g') rfl).2;omega
 have hkeep:∀ i,i<w3.heap.size->(Value.slice p0 n cc).ownBlock≠some i->w5.heap[i]?=w3.heap[i]?:=fun i hi hne=>(hg5.block i (Nat.lt_of_lt_of_le hi hb4.size) (fun e=>hne e.symm)).trans (hb4.block i hi)
 have hbk:=Y.out.2.2.2.1;have hb5:Below A w3 w5:=⟨hg5.os.trans hb4.os,hg5.tape.trans hb4.tape,hg5.output.trans hb4.output,Nat.le_trans hb4.size hg5.size,fun i hi=>hkeep i (by omega) (fun e=>by have:=hpA i e; omega)⟩;have hbx5:Blk 137 w5 A #[.slice p0 n cc]:=(hkeep A (by omega) (fun e=>by have:=hpA A e; omega)).trans Y.out.1;have q0:w5.cell? ⟨A,0,none⟩=some (.slice p0 n cc):=hbx5.at_ 0;have hq1:w5.heap[bk]?=w3.heap[bk]?:=hkeep bk hbk (fun e=>by have:=hpA bk e; omega);have q1:w5.cell? ⟨bk,0,none⟩=some (.int .u32 (a:Nat)):=by rw [<- k1]; unfold World.cell?; rw [hq1]
 have q2:w5.cell? ⟨bk,1,none⟩=some (.int .i64 16):=by rw [<- k2]; unfold World.cell?; rw [hq1]
 have Z:=H4 hO5 hb5 hbx5 hgA;clear hO5 hg5 hat5 hbx4 hgA hpA hkeep hbk hb5 hbx5 hq1 b4 hb4;have hf5:w5.frozen? ⟨A,0,none⟩=false:=Z.out.2.2.1.free 0;refine ad8 (i:=0) (i':=9) rfl rfl (by kernel_rfl) (fun K hK=>?a1) (fun K hK=>?b1)
 case' a1=>
  go_simp;refine hK.out _ _ ⟨k1,k2⟩ (fun hHeld=>?_);clear hK K;try go_frame
  refine rl 9 rfl fun K hK=>?_
  go_simp;refine hK.out _ _ ⟨m1,m2⟩ (fun hHeld=>?_);clear hK K;try go_frame
 case' b1=>
  go_simp;refine hK.out _ _ ⟨m1,m2⟩ (fun hHeld=>?_);clear hK K;try go_frame
  refine rl 0 rfl fun K hK=>?_
  go_simp;refine hK.out _ _ ⟨m1,m2⟩ (fun hHeld=>?_);clear hK K;try go_frame
 all_goals
  refine rl 10 rfl fun K hK=>?_
  refine ac6 rfl _ _ _ rfl _ _ _ _ _ ?_ ?_ ?_ hrun2 ?_<;>first|rfl|skip
  refine hK.out _ _ ⟨q1,q2⟩ (fun hHeld=>?_);clear hK K m0 m1 m2 hrun2;try go_frame
  refine rl 11 rfl fun K hK=>?_
  go_simp;have hS6:=Z.out.2.2.1.store 0 (.slice (some ⟨g',0,none⟩) (n+2) cap');have hO6:Oa (A+1) (.slice (some ⟨g',0,none⟩) (n+2) cap') (xs++[(a:Int),(b:Int)]) (w5.setCell ⟨A,0,none⟩ (.slice (some ⟨g',0,none⟩) (n+2) cap')):=Z.out.1.of_block (fun b hb=>Below.heap_setCell _ _ _ _ (fun e=>by cases hb; first|exact Z.out.2.2.2 e|exact Z.out.2.2.2 e.symm));refine hK.out _ _ ⟨?_,?_⟩ (fun hHeld=>?_)
  rotate_right
  ·clear hK K
   refine wpAnyH_done (by kernel_rfl) ?_ _;try go_frame
   have hB6:Below A w5 (w5.setCell ⟨A,0,none⟩ (.slice (some ⟨g',0,none⟩) (n+2) cap')):=(Turn.setCell (L:=[A]) w5 (by simp) _).below (fun i hi=>by simp at hi; omega) (Nat.le_of_lt Z.out.2.2.1.lt);have hB7:=((Y.out.2.2.1.mono (Nat.le_of_lt hA)).trans Z.out.2.1).trans hB6;clear hB6;go_wp2_with fail;go_end0;exact ⟨rfl,g',cap',hS6,hO6,hB7⟩
  ·rw [World.cell?_setCell_far _ _ _ _ (by show A≠bk; omega)]; exact q1
  ·rw [World.cell?_setCell_far _ _ _ _ (by show A≠bk; omega)]; exact q2
end
end Go.Proofs.YtpljkpnebibbaaaGreatDoor.Lo
