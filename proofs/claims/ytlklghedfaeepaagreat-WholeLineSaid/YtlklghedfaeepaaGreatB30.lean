import Derived.Test.YtlklghedfaeepaaGreatB09
import Derived.Shelf.RegionOpenPlain
import Derived.Deep.DeepCutAuto
set_option maxHeartbeats 8000000
set_option maxRecDepth 100000
namespace Go.Proofs.YtlklghedfaeepaaGreat.Lo
open _root_.Go.Proofs.Tryz (prog)
section
variable {k x:Nat}{n:Int}
namespace Lm
structure En where
 a:Nat
 n:Int
 how:Int
 nx:Int
deriving DecidableEq
def En.zero:En:=⟨0,0,0,0⟩
instance:Inhabited En:=⟨En.zero⟩
structure En.Fits (e:En):Prop where
 a:e.a<4294967296
 n1:-9223372036854775808<=e.n
 n2:e.n<=9223372036854775807
 h1:-9223372036854775808<=e.how
 h2:e.how<=9223372036854775807
 x1:-9223372036854775808<=e.nx
 x2:e.nx<=9223372036854775807
def good (x:Nat) (e:En):Bool:=!(e.how==0) && Am.has e.a e.n x
theorem bt3 {e:En} (h:good x e=true):(e.how==0)=false:=by
 unfold good at h;simp only [Bool.and_eq_true,Bool.not_eq_true'] at h;exact h.1
theorem dq5 {e:En} (h:good x e=true):Am.has e.a e.n x=true:=by
 unfold good at h;simp only [Bool.and_eq_true] at h;exact h.2
theorem do9 {p:Nat} {len:Int} (h:Am.has p len x=true):Am.right p len=true:=by
 unfold Am.has at h;simp only [Bool.and_eq_true] at h;exact h.1
theorem dj8 {a:Nat} {len:Int} (h:Am.right a len=true):0<=len/\len<=32:=by
 unfold Am.right at h;simp only [Bool.and_eq_true,decide_eq_true_eq] at h;exact h.1
theorem dq4 {e:En} (h:good x e=true):0<=e.n/\e.n<=32:=dj8 (do9 (dq5 h))
def IsLook (x:Nat) (l:List En) (k:Nat) (r:En):Prop:=
 ((∀ j (h:j<l.length),j<k->good x l[j]=false)/\r=En.zero)\/
 ∃ i,∃ h:i<l.length,i<k/\l[i]=r/\good x r=true/\∀ j (h:j<l.length),j<k->good x l[j]=true->l[j].n<r.n\/(l[j].n=r.n/\i<=j)
theorem IsLook.none (x:Nat) (l:List En):IsLook x l 0 En.zero:= .inl ⟨fun j _ h=>by omega,rfl⟩
theorem IsLook.how {l:List En} {r:En} (h:IsLook x l k r):(r.how==0)=true/\r=En.zero/\(∀ j (h:j<l.length),j<k->good x l[j]=false)\/(r.how==0)=false:=by
 rcases h with ⟨h,rfl⟩|⟨i,hi,hk,e,hg,-⟩
 ·exact .inl ⟨rfl,rfl,h⟩
 ·exact .inr (bt3 hg)
theorem IsLook.skip {l:List En} {r:En} (h:IsLook x l k r) (hk:k<l.length) (hg:good x l[k]=false):IsLook x l (k+1) r:=by
 rcases h with ⟨h,e⟩|⟨i,hi,hk',e,hg',h⟩
 ·refine .inl ⟨fun j hj hjk=>?_,e⟩
  by_cases hjk':j=k
  ·subst hjk'; exact hg
  ·exact h j hj (by omega)
 ·refine .inr ⟨i,hi,by omega,e,hg',fun j hj hjk hgj=>?_⟩
  by_cases hjk':j=k
  ·subst hjk'; rw [hg] at hgj; cases hgj
  ·exact h j hj (by omega) hgj
theorem IsLook.take {l:List En} {r:En} (h:IsLook x l k r) (hk:k<l.length) (hg:good x l[k]=true) (hb:(r.how==0)=true\/l[k].n>r.n):IsLook x l (k+1) l[k]:=by
 refine .inr ⟨k,hk,by omega,rfl,hg,fun j hj hjk hgj=>?_⟩;by_cases hjk':j=k
 ·subst hjk'; exact .inr ⟨rfl,Nat.le_refl _⟩
 ·rcases h with ⟨h,e⟩|⟨i,hi,hk',e,hg',h⟩
  ·rw [h j hj (by omega)] at hgj; cases hgj
  ·rcases hb with hb|hb
   ·rw [bt3 hg'] at hb; cases hb
   ·have:=h j hj (by omega) hgj
    omega
theorem IsLook.leave {l:List En} {r:En} (h:IsLook x l k r) (hk:k<l.length) (hh:(r.how==0)=false) (hb:¬ l[k].n>r.n):IsLook x l (k+1) r:=by
 rcases h with ⟨h,e⟩|⟨i,hi,hk',e,hg',h⟩
 ·subst e; cases hh
 ·refine .inr ⟨i,hi,by omega,e,hg',fun j hj hjk hgj=>?_⟩
  by_cases hjk':j=k
  ·subst hjk'
   have:i<=j:=by omega
   omega
  ·exact h j hj (by omega) hgj
theorem IsLook.unique {l:List En} {r s:En} (h:IsLook x l k r) (h':IsLook x l k s):r=s:=by
 rcases h with ⟨h,e⟩|⟨i,hi,hk,e,hg,h⟩
 ·rcases h' with ⟨h',e'⟩|⟨i',hi',hk',e',hg',h'⟩
  ·rw [e,e']
  ·have:=h i' hi' hk'
   rw [e',hg'] at this
   cases this
 ·rcases h' with ⟨h',e'⟩|⟨i',hi',hk',e',hg',h'⟩
  ·have:=h' i hi hk
   rw [e,hg] at this
   cases this
  ·have h1:=h i' hi' hk' (by rw [e']; exact hg')
   have h2:=h' i hi hk (by rw [e]; exact hg);rw [e'] at h1;rw [e] at h2;obtain rfl:i=i':=by omega
   rw [<- e,<- e']
def Below (x:Nat) (l:List En) (n:Int) (k:Nat):Prop:=∀ j (h:j<l.length),good x l[j]=true->l[j].n<n\/(l[j].n=n/\k<=j)
theorem Below.skip {l:List En} (h:Below x l n k) (hk:k<l.length) (hg:(l[k].n==n && good x l[k])=false):Below x l n (k+1):=fun j hj hgj=>by
 rcases h j hj hgj with h1|⟨h1,h2⟩
 ·exact .inl h1
 ·by_cases hjk:j=k
  ·subst hjk
   rw [hgj,h1] at hg;simp at hg
  ·exact .inr ⟨h1,by omega⟩
theorem Below.none {l:List En} (h:Below x l n k) (hn:n<0):IsLook x l l.length En.zero:=
 .inl ⟨fun j hj _=>by
  cases hg:good x l[j] with
  |false=>rfl
  |true=>have:=h j hj hg; have:=dq4 hg; omega,rfl⟩
def stepL (x:Nat) (r e:En):En:=if good x e && ((r.how==0)||decide (e.n>r.n)) then e else r
def lookB (x:Nat) (l:List En):En:=l.foldl (stepL x) En.zero
theorem ay2 (x:Nat) (l:List En):∀ k,k<=l.length->IsLook x l k ((l.take k).foldl (stepL x) En.zero)
 |0,_=>by simpa using IsLook.none x l
 |k+1,hk=>by
  have hk':k<l.length:=hk;have h:=ay2 x l k (by omega);rw [List.take_succ_eq_append_getElem hk',List.foldl_append];generalize (l.take k).foldl (stepL x) En.zero=r at h;show IsLook x l (k+1) (stepL x r l[k]);unfold stepL
  cases hg:good x l[k] with
  |false=>simpa using h.skip hk' hg
  |true=>
   cases hr:(r.how==0) with
   |true=>simpa using h.take hk' hg (.inl hr)
   |false=>
    by_cases hn:l[k].n>r.n
    ·simpa [hn] using h.take hk' hg (.inr hn)
    ·simpa [hn] using h.leave hk' hr hn
theorem cs8 (x:Nat) (l:List En):IsLook x l l.length (lookB x l):=by
 have h:=ay2 x l l.length (Nat.le_refl _);rw [List.take_length] at h;exact h
theorem IsLook.eq {l:List En} {r:En} (h:IsLook x l l.length r):r=lookB x l:=h.unique (cs8 x l)
end Lm
end
section
open Go.RowKit Lm
variable {r:En}{W wr:World}{g:Nat}
def ecl (e:En):List Value:=[.int .u32 e.a,.int .i64 e.n,.int .i64 e.how,.int .i64 e.nx]
theorem bd2 (e:En):(ecl e).length=4:=rfl
abbrev Ents:=Items ecl 4
theorem Ents.cells {w:World} {b off:Nat} {es:List En} (h:Ents w b off es) {k:Nat} (hk:k<es.length) {a:Nat} {n how nx:Int} (e:es[k]=⟨a,n,how,nx⟩):
  w.cell? ⟨b,off+k*4,none⟩=some (.int .u32 a)/\w.cell? ⟨b,off+k*4+1,none⟩=some (.int .i64 n)/\w.cell? ⟨b,off+k*4+2,none⟩=some (.int .i64 how)/\w.cell? ⟨b,off+k*4+3,none⟩=some (.int .i64 nx):=
 ⟨(by have:=h k hk 0 (by omega); rw [e] at this; exact this),(by have:=h k hk 1 (by omega); rw [e] at this; exact this),(by have:=h k hk 2 (by omega); rw [e] at this; exact this),(by have:=h k hk 3 (by omega); rw [e] at this; exact this)⟩
theorem has_eq {a:Nat} {len:Int} {x:Nat} {r:Bool} (ha:a<4294967296) (hx:x<4294967296) (h:Am.has a len x=r) (w:World):
  Calls prog 72 #[.agg #[.int .u32 a,.int .i64 len],.int .u32 x] w fun e w'=>e= .returned (.bool r)/\Below w.heap.size w w':=h ▸ dd7 a len x ha hx w
def Best (W:World) (g:Nat) (wr:World) (r:En):Prop:=Blk 95 wr g #[.int .u32 0,.int .i64 0,.int .i64 0,.int .i64 0]/\Blk 95 wr (g+1) #[.int .u32 r.a,.int .i64 r.n,.int .i64 r.how,.int .i64 r.nx]/\Turn [g,g+1] W wr
theorem Best.held {w':World} (h:Best W g wr r) (hb:Below wr.heap.size wr w'):Best W g w' r:=⟨h.1.held hb,h.2.1.held hb,h.2.2.and_below hb⟩
theorem Best.drewN (h:Best W g wr r) (n:Nat):Best W g (wr.drewN n) r:=⟨h.1,h.2.1,h.2.2.and_below (ac8 (Below.refl _ _) n)⟩
theorem Best.drew (h:Best W g wr r):Best W g wr.drew r:=h.drewN 1
theorem Best.set (h:Best W g wr r) (s:En):Best W g (wr.setCells (g+1) 0 (ecl s)) s:=
 ⟨h.1.apart (by omega) _,h.2.1.put_all (ecl s) rfl,h.2.2.trans (Turn.setCells _ (by simp) _ _)⟩
theorem cv0 (e:En):(prog.info? 95).map (·.size)=some (ecl e).toArray.size:=by
 show _=some 4
 kernel_rfl
theorem by0 (A:Option Addr) (len cap:Nat) (es:List En) (hl:es.length=len) (hm:len<=maxLen) (hc:len<=cap) (hA:0<len->∃ b off,A=some ⟨b,off,none⟩) (hF:∀ e∈es,e.Fits) (x:Nat) (hx:x<4294967296) (w:World)
  (hR:∀ b off,A=some ⟨b,off,none⟩->Ents w b off es):
  Calls prog 38 #[.slice A len cap,.int .u32 x] w fun e w'=>∃ r,e= .returned (.agg (ecl r).toArray)/\IsLook x es es.length r/\Below w.heap.size w w':=by
 unfold maxLen at hm;have B0:=(Blk.new w 95 #[.int .u32 0,.int .i64 0,.int .i64 0,.int .i64 0]).more (.cells #[.int .u32 0,.int .i64 0,.int .i64 0,.int .i64 0] 95);have B1:=Blk.new (w.alloc (.cells #[.int .u32 0,.int .i64 0,.int .i64 0,.int .i64 0] 95)) 95 #[.int .u32 0,.int .i64 0,.int .i64 0,.int .i64 0];rw [aa1] at B1;have hb:=next (aa0 w (.cells #[.int .u32 0,.int .i64 0,.int .i64 0,.int .i64 0] 95)) (aa0 _ (.cells #[.int .u32 0,.int .i64 0,.int .i64 0,.int .i64 0] 95));go_enter Tryz.func38,Tryz.ntmps38;go_wp2_with fail;generalize (w.alloc (.cells #[.int .u32 0,.int .i64 0,.int .i64 0,.int .i64 0] 95)).alloc (.cells #[.int .u32 0,.int .i64 0,.int .i64 0,.int .i64 0] 95)=w2 at*;have hRw:∀ b off,A=some ⟨b,off,none⟩->Ents w2 b off es/\b<w.heap.size\/len=0:=fun b off e=>by
  rcases Nat.eq_zero_or_pos len with h0|h0
  ·exact .inr h0
  ·have h1:=hR b off e
   have:=h1 0 (by omega) 0 (by omega);exact .inl ⟨h1.held bd2 hb,by have:=aw8 (this.trans (show _=some _ from rfl)); simpa using this⟩
 clear hR;have S0:Best w2 w.heap.size w2 En.zero:=⟨B0,B1,.refl _ _⟩;have HB:=Lib.hid hb;clear B0 B1 hb;generalize hg:w.heap.size=g at*;go_loopw [10] (fun i wr=>∃ (k:Nat) (r:En),k<=len/\i= .int .i64 k/\IsLook x es k r/\Best w2 g wr r) (fun i _=>len - (intOf i).toNat)
 case atStart=>exact ⟨0,En.zero,by omega,rfl,.none x es,S0⟩
 case round=>
  obtain ⟨k,r,hk,rfl,hI,hB⟩:=hrel;by_cases hlt:k<len
  ·obtain ⟨b,off,rfl⟩:=hA (by omega)
   have hk':k<es.length:=by omega
   obtain ⟨hE,hbg⟩:Ents w2 b off es/\b<g:=by
    rcases hRw b off rfl with h|h
    ·exact h
    ·omega
   have hEr:=hE.turn bd2 hB.2.2 (by simp; omega);have ha:=(hF es[k] (List.getElem_mem hk')).a;have hskip:good x es[k]=false->IsLook x es (k+1) r:=hI.skip hk';have htake:good x es[k]=true->((r.how==0)=true\/es[k].n>r.n)->IsLook x es (k+1) es[k]:=hI.take hk';have hleave:(r.how==0)=false->¬ es[k].n>r.n->IsLook x es (k+1) r:=hI.leave hk';generalize hek:es[k]=e at*;obtain ⟨ea,en,eh,ex⟩:=e;obtain ⟨c0,c1,c2,c3⟩:=Ents.cells hEr hk' hek;obtain ⟨hbn,Z0⟩:=nw wr 95 #[.int .u32 ea,.int .i64 en,.int .i64 eh,.int .i64 ex];have gs:g+1<wr.heap.size:=hB.2.1.lt;have HH:=H4 hB hskip htake hleave;clear hB hskip htake hleave hI hEr hE hRw hF hA S0
   cases heh:(eh==0) with
   |true=>
    have hG:good x ⟨ea,en,eh,ex⟩=false:=by unfold good; dsimp only; rw [heh]; rfl
    have N:=H2 (HH.out.1.held hbn) (HH.out.2.1 hG);clear HH hbn Z0 hG hek;go_wp2_with fail;go_roundw
    case rel=>exact ⟨k+1,r,by omega,by go_num,N.out.2,N.out.1⟩
    case measure=>simp [intOf]; omega
   |false=>
    obtain ⟨q,hq⟩:∃ q,Am.has ea en x=q:=⟨_,rfl⟩;have hG:good x ⟨ea,en,eh,ex⟩=q:=by unfold good; dsimp only; rw [heh,hq]; rfl
    have HG:=H3 hG hbn Z0;clear hG hbn Z0 hek;go_wp2_with fail;refine (has_eq ha hx hq _).mono ?_;rintro e w3 ⟨rfl,hb⟩;have Z:=HG.out.2.2.held hb;have hB3:=HH.out.1.held (next HG.out.2.1 hb);have N:=H2 HH.out.2 HG.out.1;have z0:=Z.at_ 0;have z1:=Z.at_ 1;have z2:=Z.at_ 2;have z3:=Z.at_ 3;clear hb HH HG hq c0 c1 c2 c3
    cases q with
    |false=>
     have M:=H2 hB3 (N.out.1.1 N.out.2);clear hB3 N Z;go_wp2_with fail;go_roundw
     case rel=>exact ⟨k+1,r,by omega,by go_num,M.out.2,M.out.1⟩
     case measure=>simp [intOf]; omega
    |true=>
     obtain ⟨ra,rn,rh,rx⟩:=r;have b0:=hB3.2.1.at_ 0;have b1:=hB3.2.1.at_ 1;have b2:=hB3.2.1.at_ 2;have b3:=hB3.2.1.at_ 3;have f0:=hB3.2.1.free 0;have f1:=hB3.2.1.free 1;have f2:=hB3.2.1.free 2;have f3:=hB3.2.1.free 3
     cases hrh:(rh==0) with
     |true=>
      have M:=H2 hB3 (N.out.1.2.1 N.out.2 (.inl hrh));clear hB3 N Z;go_wp2_with fail;go_roundw
      case rel=>exact ⟨k+1,⟨ea,en,eh,ex⟩,by omega,by go_num,M.out.2,M.out.1.set ⟨ea,en,eh,ex⟩⟩
      case measure=>simp [intOf]; omega
     |false=>
      cases hgt:decide (rn<en) with
      |true=>
       have M:=H2 hB3 (N.out.1.2.1 N.out.2 (.inr (of_decide_eq_true hgt)));clear hB3 N Z;go_wp2_with fail;go_roundw
       case rel=>exact ⟨k+1,⟨ea,en,eh,ex⟩,by omega,by go_num,M.out.2,M.out.1.set ⟨ea,en,eh,ex⟩⟩
       case measure=>simp [intOf]; omega
      |false=>
       have M:=Lib.hid (And.intro hB3 (N.out.1.2.2 hrh (by have:=of_decide_eq_false hgt; dsimp only at this ⊢; omega)));clear hB3 N Z;go_wp2_with fail;go_roundw
       case rel=>exact ⟨k+1,⟨ra,rn,rh,rx⟩,by omega,by go_num,M.out.2,M.out.1⟩
       case measure=>simp [intOf]; omega
  ·obtain rfl:k=len:=by omega
   obtain ⟨ra,rn,rh,rx⟩:=r;have b0:=hB.2.1.at_ 0;have b1:=hB.2.1.at_ 1;have b2:=hB.2.1.at_ 2;have b3:=hB.2.1.at_ 3;have a0:=hB.1.at_ 0;have a1:=hB.1.at_ 1;have a2:=hB.1.at_ 2;have a3:=hB.1.at_ 3;have f0:=hB.1.free 0;have f1:=hB.1.free 1;have f2:=hB.1.free 2;have f3:=hB.1.free 3;have M:=H2 hB hI;clear hB hI hRw hF hA S0;go_wp2_with fail;refine bodyPost_ret (v:= .agg (ecl ⟨ra,rn,rh,rx⟩).toArray) (results_cell_row (p:=4) (by kernel_rfl) _ _ g 95 _ (0,0) _ rfl (M.out.1.1.put_all (ecl ⟨ra,rn,rh,rx⟩) rfl) Tryz.underlying95 rfl (cv0 _)) rfl ⟨⟨ra,rn,rh,rx⟩,rfl,?_,?_⟩
   ·exact M.out.2
   ·exact cn6 (HB.out.trans (M.out.1.2.2.below (by intro i hi; simp at hi; omega) (by have:=HB.out.size; omega))) (Nat.le_refl _) 0 (ecl ⟨ra,rn,rh,rx⟩)
end
section
open Go.RowKit Go.Maps Lm
variable {w w':World}{A p:Option Addr}{B cap n:Nat}{es:List En}{xs:List Int}
structure InE (w:World) (A:Option Addr) (len cap:Nat) (es:List En):Prop where
 hl:es.length=len
 hm:len<=maxLen
 hc:len<=cap
 hA:0<len->∃ b off,A=some ⟨b,off,none⟩
 hF:∀ e∈es,e.Fits
 hR:∀ b off,A=some ⟨b,off,none⟩->Ents w b off es
theorem InE.held {len:Nat} (h:InE w A len cap es) (hb:Below w.heap.size w w'):InE w' A len cap es:=
 ⟨h.hl,h.hm,h.hc,h.hA,h.hF,fun b off e=>(h.hR b off e).held bd2 hb⟩
theorem InE.lookup {len:Nat} (h:InE w A len cap es) {x:Nat} (hx:x<4294967296) {a:Nat} {n how nx:Int} (hr:lookB x es=⟨a,n,how,nx⟩):
  Calls prog 38 #[.slice A len cap,.int .u32 x] w fun e w'=>e= .returned (.agg #[.int .u32 a,.int .i64 n,.int .i64 how,.int .i64 nx])/\Below w.heap.size w w':=
 (by0 A len cap es h.hl h.hm h.hc h.hA h.hF x hx w h.hR).mono fun _ _ ⟨s,he,hI,hb⟩=>⟨by rw [he,hI.eq,hr]; rfl,hb⟩
structure InF (w:World) (g cap:Nat) (fss:List (List En)):Prop where
 le:fss.length<=cap
 few:cap<=100
 rows:∀ i (h:i<fss.length),∃ A c,w.cell? ⟨g,i,none⟩=some (.slice A fss[i].length c)/\InE w A fss[i].length c fss[i]
theorem InF.held {g:Nat} {fss:List (List En)} (h:InF w g cap fss) (hb:Below w.heap.size w w'):InF w' g cap fss:=
 ⟨h.le,h.few,fun i hi=>by
  obtain ⟨A,c,h1,h2⟩:=h.rows i hi;exact ⟨A,c,Go.Proofs.YtlklghedfaeepaaGreat.held hb h1,h2.held hb⟩⟩
def icl (z:Int):List Value:=[.int .i64 z]
theorem elemI:Elem prog 22 3 icl 1 8:=⟨by kernel_rfl,ae2 (z:= .int .i64 0) (by kernel_rfl) rfl,by omega,fun _=>rfl,fun x v hv=>by simp only [icl,List.mem_cons,List.not_mem_nil,or_false] at hv; subst hv; rfl,by omega⟩
abbrev Oi:=Ol 3 icl 1
theorem cc5 (w:World) (A:Option Addr) (n cap:Nat) (z:Int):
  Calls prog 36 #[.slice A n cap,.int .i64 z] w fun e w'=>e= .returned (.bool (decide (0<=z/\z<(n:Int))))/\w'=w:=by
 by_cases h0:0<=z
 ·have d0:decide (0<=z)=true:=decide_eq_true h0
  have E:=Lib.hid (show decide (0<=z/\z<(n:Int))=decide (z<(n:Int)) by simp [h0]);obtain ⟨q,hq⟩:∃ q,decide (z<(n:Int))=q:=⟨_,rfl⟩;rw [hq] at E;go_enter Tryz.func36,Tryz.ntmps36;go_wp2;go_ret;exact ⟨aa4 E.out.symm,rfl⟩
 ·have d0:decide (0<=z)=false:=decide_eq_false h0
  have E:=Lib.hid (show decide (0<=z/\z<(n:Int))=false by simp [h0]);go_enter Tryz.func36,Tryz.ntmps36;go_wp2;go_ret;exact ⟨rfl,rfl⟩
theorem av6 (h:Oi B (.slice p n cap) xs w) (hn:xs.length=n) (hs:n<=100) (z:Int):
  Calls prog 71 #[.slice p n cap,.int .i64 z] w fun e w'=>∃ q:Int,e= .returned (.int .i64 q)/\(0<=q↔z∈xs)/\w'=w:=by
 subst hn;have H:=Lib.hid h;clear h;go_enter Tryz.func71,Tryz.ntmps71;go_wp2_with fail;go_loopw [8] (fun i wr=>∃ k:Nat,i= .int .i64 k/\k<=xs.length/\Hid (∀ j (h:j<xs.length),j<k->xs[j]≠z)/\wr=w) (fun i _=>xs.length - (intOf i).toNat)
 case atStart=>exact ⟨0,rfl,Nat.zero_le _,fun j _ hj=>by omega,rfl⟩
 case round=>
  obtain ⟨k,rfl,hk,R,rfl⟩:=hrel;by_cases hkl:k<xs.length
  ·have hkz:(k:Int)<(xs.length:Int):=by omega
   obtain ⟨g,cp,e,h1,h2,hc⟩:=H.out.at_ elemI.len hkl
   cases e;have c0:=hc 0 (by omega);rw [Nat.mul_one,Nat.add_zero] at c0;replace c0:wr.cell? ⟨g,k,none⟩=some (.int .i64 xs[k]):=c0;clear hc h1 h2;by_cases he:z=xs[k]
   ·have M:=Lib.hid (show z∈xs by rw [he]; exact List.getElem_mem hkl)
    have d1:(z==xs[k])=true:=beq_iff_eq.2 he;clear he;go_wp2_with fail;go_ret;exact ⟨_,rfl,⟨fun _=>M.out,fun _=>by omega⟩,rfl⟩
   ·have R2:=Lib.hid (show ∀ j (h:j<xs.length),j<k+1->xs[j]≠z from fun j hj hjk=>by
     by_cases e:j=k
     ·subst e; exact fun e=>he e.symm
     ·exact R.out j hj (by omega))
    have d1:(z==xs[k])=false:=beq_eq_false_iff_ne.2 he;clear he R;go_wp2_with fail;go_roundw
    case rel=>exact ⟨k+1,by go_num,by omega,R2,trivial⟩
    case measure=>simp [intOf]; omega
  ·obtain rfl:k=xs.length:=by omega
   go_wp2_with fail;go_ret;refine ⟨_,rfl,⟨fun h=>by omega,fun h=>?_⟩,rfl⟩;obtain ⟨j,hj,e⟩:=List.mem_iff_getElem.1 h;exact absurd e (R.out j hj hj)
theorem aj6 (h:Oi B (.slice p n cap) xs w) (hn:xs.length=n) (hs:n<=100) (z:Int):
  Calls prog 37 #[.slice p n cap,.int .i64 z] w fun e w'=>e= .returned (.bool (decide (z∈xs)))/\w'=w:=by
 have HI:=av6 h hn hs z;clear h;go_enter Tryz.func37,Tryz.ntmps37;go_wp2_with fail;refine HI.mono ?_;rintro e w2 ⟨q,rfl,hq,rfl⟩;have E:=Lib.hid hq;clear HI hq;go_wp2_with fail;go_ret;exact ⟨aa4 (by simp [E.out]),rfl⟩
end
section
open Lm
variable {fss:List (List En)}{x:Nat}{p:List Int}
inductive Walks (fss:List (List En)) (x:Nat):List Int->Int->List Int->Int->Bool->Prop
 |out {path:List Int} {at_:Int} (h:¬ (0<=at_/\at_<fss.length)):Walks fss x path at_ path 0 true
 |ring {path:List Int} {at_:Int} (h:0<=at_/\at_<fss.length) (hm:at_∈path):Walks fss x path at_ path 2 false
 |stop {path:List Int} {at_:Int} {k:Nat} {a:Nat} {n how nx:Int} (e:at_=k) (h:k<fss.length) (hm:at_∉path) (hl:lookB x fss[k]=⟨a,n,how,nx⟩) (hh:how≠2):Walks fss x path at_ (path++[at_]) how true
 |go {path:List Int} {at_:Int} {k:Nat} {a:Nat} {n nx:Int} {p:List Int} {how:Int} {ok:Bool} (e:at_=k) (h:k<fss.length) (hm:at_∉path) (hl:lookB x fss[k]=⟨a,n,2,nx⟩) (hr:Walks fss x (path++[at_]) nx p how ok):Walks fss x path at_ p how ok
theorem Walks.unique {path:List Int} {at_:Int} {p':List Int} {how how':Int} {ok ok':Bool} (h:Walks fss x path at_ p how ok) (h':Walks fss x path at_ p' how' ok'):p=p'/\how=how'/\ok=ok':=by
 induction h with
 |out h=>
  cases h' with
  |out h2=>exact ⟨rfl,rfl,rfl⟩
  |ring h2 _=>exact absurd h2 h
  |stop e h2=>exact absurd ⟨by omega,by omega⟩ h
  |go e h2=>exact absurd ⟨by omega,by omega⟩ h
 |ring h hm=>
  cases h' with
  |out h2=>exact absurd h h2
  |ring h2 _=>exact ⟨rfl,rfl,rfl⟩
  |stop e h2 hm2=>exact absurd hm hm2
  |go e h2 hm2=>exact absurd hm hm2
 | @stop _ _ k _ _ _ _ e h hm hl hh=>
  cases h' with
  |out h2=>exact absurd ⟨by omega,by omega⟩ h2
  |ring h2 hm2=>exact absurd hm2 hm
  | @stop _ _ k2 _ _ _ _ e2 h2 hm2 hl2 hh2=>
   obtain rfl:k=k2:=by omega
   rw [hl] at hl2
   cases hl2;exact ⟨rfl,rfl,rfl⟩
  | @go _ _ k2 _ _ _ _ _ _ e2 h2 hm2 hl2 hr2=>
   obtain rfl:k=k2:=by omega
   rw [hl] at hl2
   cases hl2;exact absurd rfl hh
 | @go _ _ k _ _ _ _ _ _ e h hm hl hr ih=>
  cases h' with
  |out h2=>exact absurd ⟨by omega,by omega⟩ h2
  |ring h2 hm2=>exact absurd hm2 hm
  | @stop _ _ k2 _ _ _ _ e2 h2 hm2 hl2 hh2=>
   obtain rfl:k=k2:=by omega
   rw [hl] at hl2
   cases hl2;exact absurd rfl hh2
  | @go _ _ k2 _ _ _ _ _ _ e2 h2 hm2 hl2 hr2=>
   obtain rfl:k=k2:=by omega
   rw [hl] at hl2
   cases hl2;exact ih hr2
structure Path (fss:List (List En)) (path:List Int):Prop where
 nd:path.Nodup
 there:∀ y,y∈path->0<=y/\y<fss.length
theorem Path.nil (fss:List (List En)):Path fss []:=⟨List.nodup_nil,fun y h=>by cases h⟩
theorem Path.snoc {path:List Int} (h:Path fss path) {k:Nat} (hk:k<fss.length) (hm:(k:Int)∉path):Path fss (path++[(k:Int)]):=by
 refine ⟨List.nodup_append.2 ⟨h.nd,by simp,fun a ha b hb=>?_⟩,fun y hy=>?_⟩
 ·simp at hb
  subst hb;exact fun e=>hm (e ▸ ha)
 ·rcases List.mem_append.1 hy with h1|h1
  ·exact h.there y h1
  ·simp at h1
   omega
theorem Path.len {path:List Int} (h:Path fss path):path.length<=fss.length:=by
 have hnd:(path.map Int.toNat).Nodup:=by
  refine List.pairwise_map.2 (List.Pairwise.imp_of_mem (fun {a b} ha hb hab e=>hab ?_) h.nd);have:=h.there a ha;have:=h.there b hb;omega
 have hsub:∀ y∈path.map Int.toNat,y∈List.range fss.length:=fun y hy=>by
  obtain ⟨z,hz,rfl⟩:=List.mem_map.1 hy;have:=h.there z hz;rw [List.mem_range];omega
 have:=List.Nodup.length_le_of_subset hnd hsub;simpa using this
theorem Walks.path {path:List Int} {at_:Int} {how:Int} {ok:Bool} (h:Walks fss x path at_ p how ok) (hp:Path fss path):Path fss p:=by
 induction h with
 |out h=>exact hp
 |ring h hm=>exact hp
 |stop e h hm hl hh=>subst e; exact hp.snoc h hm
 |go e h hm hl hr ih=>subst e; exact ih (hp.snoc h hm)
end
section
open Go.RowKit Go.Maps Lm
def lenV:Value->Nat
 | .slice _ k _=>k
 |_=>0
structure WlR (w:World) (fss:List (List En)) (x:Nat) (from_:Int) (path:List Int) (at_:Int) (v:Value) (wr:World):Prop where
 own:Oi w.heap.size v path wr
 way:Path fss path
 goes:∀ p how ok,Walks fss x path at_ p how ok->Walks fss x [] from_ p how ok
 below:Below w.heap.size w wr
theorem co9 {w:World} {g cap:Nat} {fss:List (List En)} (h:InF w g cap fss) {x:Nat} (hx:x<4294967296) (from_:Int):
  Calls prog 14 #[.slice (some ⟨g,0,none⟩) fss.length cap,.int .i64 from_,.int .u32 x] w fun e w'=>∃ v p how ok,e= .returned (.tuple #[v,.int .i64 how,.bool ok])/\Walks fss x [] from_ p how ok/\Path fss p/\Oi w.heap.size v p w'/\Below w.heap.size w w':=by
 have R0:WlR w fss x from_ [] from_ (.slice none 0 0) w:=⟨Ol.nil _ _,.nil _,fun _ _ _ h=>h,.refl _ _⟩;have H:=H3 h hx R0;have mixed:prog.follows .mixedOrders=true:=by decide
 have hlen:fss.length<=100:=Nat.le_trans h.le h.few;clear h hx R0;go_enter Tryz.func14,Tryz.ntmps14;go_wp2_with fail;go_loopw [9,10,11] (fun l a _ wr=>∃ (path:List Int) (z:Int),a= .int .i64 z/\Hid (WlR w fss x from_ path z l wr)) (fun l _ _ _=>fss.length - lenV l)
 case atStart=>exact ⟨[],from_,rfl,H.out.2.2⟩
 case round=>
  obtain ⟨path,z,rfl,R⟩:=hrel;obtain ⟨p0,cc,rfl,hcc⟩:=R.out.own.form;have hpl:=R.out.way.len;have HT:=cc5 wr (some ⟨g,0,none⟩) fss.length cap z;by_cases hin:0<=z/\z<(fss.length:Int)
  ·rw [decide_eq_true hin] at HT
   obtain ⟨k,rfl⟩:=Int.eq_ofNat_of_zero_le hin.1;have hk:k<fss.length:=by omega
   have hkz:(k:Int)<(fss.length:Int):=hin.2;obtain ⟨Ln,hLn⟩:∃ Ln,path.length=Ln:=⟨_,rfl⟩;have hlt:Ln<=100:=by omega
   have HC:=aj6 R.out.own rfl (by omega) (k:Int);rw [hLn] at HC;by_cases hm:(k:Int)∈path
   ·rw [decide_eq_true hm] at HC
    have G:=H4 (R.out.goes _ _ _ (.ring hin hm)) R.out.way R.out.own R.out.below;rw [hLn] at G;clear R hm hin hcc;rw [hLn];have HL:=Lib.hid hLn;clear hLn hpl;go_wp2_with (first|(go_at_call 36; refine HT.mono ?_; rintro e w1 ⟨rfl,rfl⟩)|(go_at_call 37; refine HC.mono ?_; rintro e w2 ⟨rfl,rfl⟩)|fail);go_ret3;exact ⟨_,path,_,_,rfl,G.out.1,G.out.2.1,G.out.2.2.1,G.out.2.2.2⟩
   ·rw [decide_eq_false hm] at HC
    obtain ⟨g',cap',W6,hrun,hO6,hT6,hg6⟩:=Ol.push1 elemI R.out.own R.out.below.size (k:Int) (by omega) 22;have hB6:=own_below R.out.own R.out.below R.out.below.size hT6;obtain ⟨A,c,hcell,hE⟩:=(H.out.1.held (hB6)).rows k hk;obtain ⟨⟨ea,en,eh,ex⟩,he⟩:∃ r,lookB x fss[k]=r:=⟨_,rfl⟩;have HK:=hE.lookup H.out.2.1 he;have hsz:fss[k].length<=maxLen:=hE.hm;generalize hfl:fss[k].length=fl at*;rw [hLn] at hrun hO6;obtain ⟨L1,hL1⟩:∃ L1,Ln+1=L1:=⟨_,rfl⟩;rw [hL1] at hrun hO6;have G:=H7 R hm hO6 hB6 he hL1 hLn;clear R hm hO6 hB6 he hT6 hg6 hE hL1 hcc hpl hfl;rw [hLn];clear hLn;replace hrun:(Builtin.append_ #[22,22] 22 #[.slice p0 Ln cc,.slice (some ⟨wr.heap.size,0,none⟩) 1 1]).run prog (wr.alloc (.cells #[.int .i64 (k:Int)] 3))= .ok (.slice (some ⟨g',0,none⟩) L1 cap') W6:=hrun;by_cases hh:eh=2
    ·subst hh
     go_wp2_with (first|(go_at_call 36; refine HT.mono ?_; rintro e w1 ⟨rfl,rfl⟩)|(go_at_call 37; refine HC.mono ?_; rintro e w2 ⟨rfl,rfl⟩)|(at_builtin; refine Lib.wpList_append_run _ rfl (.tmp 20) (.tmp 22) 22 22 rfl _ _ rfl rfl _ _ hrun ?_)|(go_at_call 38; refine HK.mono ?_; rintro e w7 ⟨rfl,hb7⟩; have hb8:=next hb7 (aa0 w7 (.cells #[.int .u32 ea,.int .i64 en,.int .i64 2,.int .i64 ex] 95)); have G2:=H2 (G.out.2.2.1.held hb8) (G.out.2.2.2.1.trans (hb8.mono G.out.2.2.2.1.size)); have e1:=(Blk.new w7 95 #[.int .u32 ea,.int .i64 en,.int .i64 2,.int .i64 ex]).at_ 1; have e2:=(Blk.new w7 95 #[.int .u32 ea,.int .i64 en,.int .i64 2,.int .i64 ex]).at_ 2; clear hb7 hb8)|fail);go_roundw
     case rel=>
      refine ⟨path++[(k:Int)],ex,rfl,?_⟩;exact ⟨G2.out.1,G.out.1.out.way.snoc hk G.out.2.1,fun p how ok hw=>G.out.1.out.goes _ _ _ (.go rfl hk G.out.2.1 G.out.2.2.2.2.1 hw),G2.out.2⟩
     case measure=>
      have:=G.out.2.2.2.2.2.1;have:=G.out.2.2.2.2.2.2;have:=(G.out.1.out.way.snoc hk G.out.2.1).len;simp at this;simp [lenV];omega
    ·have d1:(eh !=2)=true:=by simpa using hh
     have HH:=Lib.hid hh;clear hh;go_wp2_with (first|(go_at_call 36; refine HT.mono ?_; rintro e w1 ⟨rfl,rfl⟩)|(go_at_call 37; refine HC.mono ?_; rintro e w2 ⟨rfl,rfl⟩)|(at_builtin; refine Lib.wpList_append_run _ rfl (.tmp 20) (.tmp 22) 22 22 rfl _ _ rfl rfl _ _ hrun ?_)|(go_at_call 38; refine HK.mono ?_; rintro e w7 ⟨rfl,hb7⟩; have hb8:=next hb7 (aa0 w7 (.cells #[.int .u32 ea,.int .i64 en,.int .i64 eh,.int .i64 ex] 95)); have G2:=H2 (G.out.2.2.1.held hb8) (G.out.2.2.2.1.trans (hb8.mono G.out.2.2.2.1.size)); have e1:=(Blk.new w7 95 #[.int .u32 ea,.int .i64 en,.int .i64 eh,.int .i64 ex]).at_ 1; have e2:=(Blk.new w7 95 #[.int .u32 ea,.int .i64 en,.int .i64 eh,.int .i64 ex]).at_ 2; clear hb7 hb8)|fail);go_big_region_o;all_goals go_wp2_with fail
     go_ret3;exact ⟨_,path++[(k:Int)],_,_,rfl,G.out.1.out.goes _ _ _ (.stop rfl hk G.out.2.1 G.out.2.2.2.2.1 HH.out),G.out.1.out.way.snoc hk G.out.2.1,G2.out.1.drew,G2.out.2.drew⟩
  ·rw [decide_eq_false hin] at HT
   have G:=H4 (R.out.goes _ _ _ (.out hin)) R.out.way R.out.own R.out.below;obtain ⟨Ln,hLn⟩:∃ Ln,path.length=Ln:=⟨_,rfl⟩;rw [hLn] at G;clear R hin hcc;rw [hLn];clear hLn hpl;go_wp2_with (first|(go_at_call 36; refine HT.mono ?_; rintro e w1 ⟨rfl,rfl⟩)|fail);go_ret3;exact ⟨_,path,_,_,rfl,G.out.1,G.out.2.1,G.out.2.2.1,G.out.2.2.2⟩
end
end Go.Proofs.YtlklghedfaeepaaGreat.Lo
