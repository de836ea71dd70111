import Derived.Test.YthaefdlkpljojaaGreatDoorQ02
set_option maxHeartbeats 8000000
namespace Go.Proofs.YthaefdlkpljojaaGreatDoor
open Go.ChangeShapes Go.WideShapes Go.ChangeAt Go.RowKit Go.Joins
theorem wholeQuiet_met (os:Os):laidMet Tryz.prog Rows.wholeQuietRow.laid ((World.doorLaid Tryz.prog 400 os).forCall (fun _ _=>0) ⟨#[],#[.int .i64 0,.int .i64 0,.int .i64 0],[]⟩).memory:=
 laidMet_of_run' 8 (by kernel_rfl) (by kernel_rfl)
theorem wholeQuiet_reads (os:Os) {H:Type} (enc:TypeId×Value→H):∃ places,DataW.whole enc Tryz.prog ((World.doorLaid Tryz.prog 400 os).forCall (fun _ _=>0) ⟨#[],#[.int .i64 0,.int .i64 0,.int .i64 0],[]⟩).memory Tryz.f5.params.toList Rows.wholeQuietSpec.vars false #[Value.int .i64 0,Value.int .i64 0,Value.int .i64 0].toList 8=some ([.lit (.int .i64 0),.lit (.int .i64 0),.lit (.int .i64 0)],[],places):=
 ⟨[],by kernel_rfl⟩
set_option maxRecDepth 100000 in
theorem wholeQuiet_lifted (hw:∀ (a b c:Int) (w:World),Tab w→Calls Tryz.prog 5 #[.int .i64 a,.int .i64 b,.int .i64 c] w fun e w'=>e= .returned (.bool true)∧Below w.heap.size w w') (os:Os) (started:os.Started) (H:Type) (enc:TypeId×Value→H) (F:Stop.Interp):
  ReturnsInHanded {} Tryz.checked os 5 .any ((OpenSpec.ofChange Rows.wholeQuietSpec).preRow enc Tryz.prog Tryz.f5 Rows.wholeQuietRow.domain false Rows.wholeQuietRow.laid) (((OpenSpec.ofChange Rows.wholeQuietSpec).at F).post enc Tryz.prog Tryz.f5 false true false false):=by
 obtain ⟨places,hx0⟩:=wholeQuiet_reads os enc
 refine returnsInHanded_of_row (C:=Tryz.checked) (s:=OpenSpec.ofChange Rows.wholeQuietSpec) row_own started (by kernel_rfl) Tryz.func5
  (witness_row_at (enc:=enc) (C:=Tryz.checked) false (World.doorLaid Tryz.prog 400 os) #[.int .i64 0,.int .i64 0,.int .i64 0] rfl (by kernel_rfl) (by kernel_rfl) (by kernel_rfl)
   (OpenSpec.preRow_of_cond 8 hx0 (by kernel_rfl) (fun k hk=>by cases hk) (by kernel_rfl) (wholeQuiet_met os))) ?_
 intro W base args ds gs before hval0 hW _ _ _ hL _ _
 have hval:∀ (j:Nat) t v,Tryz.f5.params[j]?=some t→args[j]?=some v→Value.okWide Tryz.prog W .any base t v:=hval0
 obtain ⟨p,q,hA0,hV,rfl,hfz,hnd⟩:=id hW
 have hA:DataW.TrodAll enc Tryz.prog W 0 (fun _=>true) true Tryz.f5.params.toList args.toList ds p:=hA0
 rw [Tryz.params5] at hA hval
 obtain ⟨v0,vs0,d0,ds0,p0,q0,hargs,rfl,rfl,h0,r0⟩:=trodAll_cons hA
 obtain ⟨v1,vs1,d1,ds1,p1,q1,rfl,rfl,rfl,h1,r1⟩:=trodAll_cons r0
 obtain ⟨v2,vs2,d2,ds2,p2,q2,rfl,rfl,rfl,h2,r2⟩:=trodAll_cons r1
 obtain ⟨rfl,rfl,rfl⟩:=trodAll_nil r2
 obtain rfl:args=#[v0,v1,v2]:=by cases args; simp_all
 obtain ⟨a0,rfl,-,-,-⟩:=open_int Tryz.underlying3 (hval 0 3 v0 rfl rfl) h0
 obtain ⟨a1,rfl,-,-,-⟩:=open_int Tryz.underlying3 (hval 1 3 v1 rfl rfl) h1
 obtain ⟨a2,rfl,-,-,-⟩:=open_int Tryz.underlying3 (hval 2 3 v2 rfl rfl) h2
 refine (hw a0 a1 a2 W (tab_of_wholeQuiet hL)).mono fun e W' ⟨he,hb⟩=>?_
 subst he
 exact ⟨_,rfl,law_post row_laidOut (by rw [Tryz.params5]; decide+kernel) rfl Tryz.underlying4 rfl rfl hW hb⟩
theorem wholeQuiet_said (hw:∀ (a b c:Int) (w:World),Tab w→Calls Tryz.prog 5 #[.int .i64 a,.int .i64 b,.int .i64 c] w fun e w'=>e= .returned (.bool true)∧Below w.heap.size w w'):Rows.WholeQuietSaid:=
 OpenClaim.holds_of_cond 5 Tryz.f5 rfl rfl rfl rfl rfl rfl rfl ⟨rfl,rfl,rfl,rfl,rfl⟩ rfl rfl rfl rfl rfl (by kernel_rfl) Tryz.func5 (by kernel_rfl)
  (of_decide_eq_true (by kernel_rfl)) (by unfold Func.isWrapper; first|(rw [if_pos (by decide+kernel)]; kernel_rfl)|(rw [if_neg (by decide+kernel)]; exact ⟨rfl,rfl⟩))
  (fun os started H enc _ F=>by rw [OpenClaim.pre_eq_preRow]; exact wholeQuiet_lifted hw os started H enc F)
theorem wholeQuiet_plain (f:FuncId) (fn:Func) (hf:Tryz.pinned.checked.prog.funcNamed "wayfarer/wayfarertop.WholeQuiet" =some f) (hfn:Tryz.pinned.checked.prog.funcs[f]?=some fn):
  true=Tryz.pinned.checked.prog.looks []∧∀ (j:Nat) t,fn.params[j]?=some t→Tryz.pinned.checked.prog.wantsStandIn t=false:=by
 obtain rfl:f=5:=Option.some.inj ((show Tryz.prog.funcNamed "wayfarer/wayfarertop.WholeQuiet" =some 5 by kernel_rfl).symm.trans hf)|>.symm
 obtain rfl:fn=Tryz.f5:=(Option.some.inj (Tryz.func5.symm.trans hfn)).symm
 refine ⟨by kernel_rfl,fun j t ht=>?_⟩
 rw [Tryz.params5] at ht
 have hm:t∈[3,3,3]:=by simpa using Array.mem_of_getElem? ht
 have hall:([3,3,3].all fun u=>!Tryz.prog.wantsStandIn u)=true:=by kernel_rfl
 exact (show Tryz.prog.wantsStandIn t=false by simpa using List.all_eq_true.1 hall t hm)
theorem wholeQuiet_card_of (hw:∀ (a b c:Int) (w:World),Tab w→Calls Tryz.prog 5 #[.int .i64 a,.int .i64 b,.int .i64 c] w fun e w'=>e= .returned (.bool true)∧Below w.heap.size w w'):Rows.WholeQuietCardSaid:=
 Claim7.holds_tied_plain_at .later [] _ _ _ _ (wholeQuiet_said hw) (fun _ h=>by cases h) (by kernel_rfl) (fun _ h=>by cases h) wholeQuiet_row_tie rfl ⟨rfl,rfl⟩ (by kernel_rfl) rfl wholeQuiet_plain (by kernel_rfl)
end Go.Proofs.YthaefdlkpljojaaGreatDoor
