import Derived.Test.YtafkfnodcemefaaGreatB65
import Derived.Test.YtafkfnodcemefaaGreatB55
import Derived.Test.YtafkfnodcemefaaGreatB60
set_option maxHeartbeats 8000000
set_option maxRecDepth 100000
namespace Go.Proofs.YtafkfnodcemefaaGreat
open _root_.Go.Proofs.Tryz (prog)
section
open Go.ChangeShapes Go.WideShapes Go.ChangeAt Go.RowKit Go.Joins Go.Deep
theorem wholeJunk_lifted (os:Os) (started:os.Started) (H:Type) (enc:TypeId×Value->H):
  ReturnsInHanded {} Tryz.checked os 4 .any (Rows.wholeJunkSpec.pre6 enc prog Tryz.f4 Rows.wholeJunkRow.domain false) (Rows.wholeJunkSpec.post enc prog Tryz.f4 false true false false):=by
 refine returnsInHanded_of_change (C:=Tryz.checked) at5 started X Tryz.func4
  (ChangeSpec.witness6 (enc:=enc) (C:=Tryz.checked) false ⟨#[],#[I 0,.slice none 0 0,.slice none 0 0,I 0],[]⟩ 8 X X X X) ?_
 intro W base args ds gs before hval0 hW hcnd _;have hval:∀ (j:Nat) t v,Tryz.f4.params[j]?=some t->args[j]?=some v->Value.okWide prog W .any base t v:=hval0;obtain ⟨p,q,hA0,hV,rfl,hfz,hnd⟩:=id hW;have hA:DataW.TrodAll enc prog W 0 (fun _=>true) true Tryz.f4.params.toList args.toList ds p:=hA0;rw [Tryz.params4] at hA hval;obtain ⟨v0,vs0,d0,ds0,p0,q0,hargs,rfl,rfl,h0,r0⟩:=trodAll_cons hA;obtain ⟨v1,vs1,d1,ds1,p1,q1,rfl,rfl,rfl,h1,r1⟩:=trodAll_cons r0;obtain ⟨v2,vs2,d2,ds2,p2,q2,rfl,rfl,rfl,h2,r2⟩:=trodAll_cons r1;obtain ⟨v3,vs3,d3,ds3,p3,q3,rfl,rfl,rfl,h3,r3⟩:=trodAll_cons r2;obtain ⟨rfl,rfl,rfl⟩:=trodAll_nil r3;obtain rfl:args=#[v0,v1,v2,v3]:=by cases args; simp_all
 obtain ⟨a,rfl,-,-,-⟩:=open_int Tryz.underlying3 (hval 0 3 v0 rfl rfl) h0;obtain ⟨a1,len1,cap1,rfl⟩:=okWide_slice Tryz.underlying22 (hval 1 22 v1 rfl rfl);obtain ⟨fuel1,hf1⟩:=h1;obtain ⟨es,hE⟩:=aq0 hf1;obtain ⟨a2,len2,cap2,rfl⟩:=okWide_slice Tryz.underlying45 (hval 2 45 v2 rfl rfl);obtain ⟨fuel2,hf2⟩:=h2;obtain ⟨js,hJ⟩:=open_sl hf2;obtain ⟨c,rfl,-,-,-⟩:=open_int Tryz.underlying3 (hval 3 3 v3 rfl rfl) h3;refine (junk_walk a hE (T.Sl.mk hJ.bytes hJ.cap hJ.plain) c).mono fun e W' ⟨he,hb⟩=>?_
 subst he;exact ⟨_,rfl,di1 ak2 (by rw [Tryz.params4]; decide+kernel) rfl Tryz.underlying4 rfl rfl hW hb⟩
theorem wholeJunk_holds:Rows.WholeJunkSaid:=
 OpenClaim.holds_of_wide 4 Tryz.f4 rfl rfl rfl rfl rfl rfl rfl ⟨rfl,rfl,rfl,rfl,rfl⟩ rfl rfl rfl rfl rfl X Tryz.func4 wholeJunk_closed
  (of_decide_eq_true X) (by unfold Func.isWrapper; first|(rw [if_pos (by decide+kernel)]; kernel_rfl)|(rw [if_neg (by decide+kernel)]; exact ⟨rfl,rfl⟩))
  (fun os started H enc _=>wholeJunk_lifted os started H enc)
#print axioms wholeJunk_holds
end
end Go.Proofs.YtafkfnodcemefaaGreat
