import Derived.Test.YthaefdlkpljojaaGreatDoorM02
set_option maxHeartbeats 8000000
namespace Go.Proofs.YthaefdlkpljojaaGreatDoor
open Go.ChangeShapes Go.WideShapes Go.ChangeAt Go.RowKit Go.Joins
theorem tellMany_met (os:Os):laidMet Tryz.prog Rows.tellManyRow.laid ((World.doorLaid Tryz.prog 400 os).forCall (fun _ _=>0) ⟨#[],#[.int .i64 0,.bool false],[]⟩).memory:=
 laidMet_of_run' 8 (by kernel_rfl) (by kernel_rfl)
theorem tellMany_reads (os:Os) {H:Type} (enc:TypeId×Value→H):∃ places,DataW.whole enc Tryz.prog ((World.doorLaid Tryz.prog 400 os).forCall (fun _ _=>0) ⟨#[],#[.int .i64 0,.bool false],[]⟩).memory Tryz.f3.params.toList Rows.tellManySpec.vars false #[Value.int .i64 0,Value.bool false].toList 8=some ([.lit (.int .i64 0),.lit (.bool false)],[],places):=
 ⟨[],by kernel_rfl⟩
set_option maxRecDepth 100000 in
theorem tellMany_lifted (hw:∀ (a:Int) (odd:Bool) (w:World),Tab w→Calls Tryz.prog 3 #[.int .i64 a,.bool odd] w fun e w'=>e= .returned (.bool true)∧Below w.heap.size w w') (os:Os) (started:os.Started) (H:Type) (enc:TypeId×Value→H) (F:Stop.Interp):
  ReturnsInHanded {} Tryz.checked os 3 .any ((OpenSpec.ofChange Rows.tellManySpec).preRow enc Tryz.prog Tryz.f3 Rows.tellManyRow.domain false Rows.tellManyRow.laid) (((OpenSpec.ofChange Rows.tellManySpec).at F).post enc Tryz.prog Tryz.f3 false true false false):=by
 obtain ⟨places,hx0⟩:=tellMany_reads os enc
 refine returnsInHanded_of_row (C:=Tryz.checked) (s:=OpenSpec.ofChange Rows.tellManySpec) row_own started (by kernel_rfl) Tryz.func3
  (witness_row_at (enc:=enc) (C:=Tryz.checked) false (World.doorLaid Tryz.prog 400 os) #[.int .i64 0,.bool false] rfl (by kernel_rfl) (by kernel_rfl) (by kernel_rfl)
   (OpenSpec.preRow_of_cond 8 hx0 (by kernel_rfl) (fun k hk=>by cases hk) (by kernel_rfl) (tellMany_met os))) ?_
 intro W base args ds gs before hval0 hW _ _ _ hL _ _
 have hval:∀ (j:Nat) t v,Tryz.f3.params[j]?=some t→args[j]?=some v→Value.okWide Tryz.prog W .any base t v:=hval0
 obtain ⟨p,q,hA0,hV,rfl,hfz,hnd⟩:=id hW
 have hA:DataW.TrodAll enc Tryz.prog W 0 (fun _=>true) true Tryz.f3.params.toList args.toList ds p:=hA0
 rw [Tryz.params3] at hA hval
 obtain ⟨v0,vs0,d0,ds0,p0,q0,hargs,rfl,rfl,h0,r0⟩:=trodAll_cons hA
 obtain ⟨v1,vs1,d1,ds1,p1,q1,rfl,rfl,rfl,h1,r1⟩:=trodAll_cons r0
 obtain ⟨rfl,rfl,rfl⟩:=trodAll_nil r1
 obtain rfl:args=#[v0,v1]:=by cases args; simp_all
 obtain ⟨a0,rfl,-,-,-⟩:=open_int Tryz.underlying3 (hval 0 3 v0 rfl rfl) h0
 obtain ⟨a1,rfl,-⟩:=open_bool Tryz.underlying4 (hval 1 4 v1 rfl rfl) h1
 refine (hw a0 a1 W (tab_of_tellMany hL)).mono fun e W' ⟨he,hb⟩=>?_
 subst he
 exact ⟨_,rfl,law_post row_laidOut (by rw [Tryz.params3]; decide+kernel) rfl Tryz.underlying4 rfl rfl hW hb⟩
theorem tellMany_said (hw:∀ (a:Int) (odd:Bool) (w:World),Tab w→Calls Tryz.prog 3 #[.int .i64 a,.bool odd] w fun e w'=>e= .returned (.bool true)∧Below w.heap.size w w'):Rows.TellManySaid:=
 OpenClaim.holds_of_cond 3 Tryz.f3 rfl rfl rfl rfl rfl rfl rfl ⟨rfl,rfl,rfl,rfl,rfl⟩ rfl rfl rfl rfl rfl (by kernel_rfl) Tryz.func3 (by kernel_rfl)
  (of_decide_eq_true (by kernel_rfl)) (by unfold Func.isWrapper; first|(rw [if_pos (by decide+kernel)]; kernel_rfl)|(rw [if_neg (by decide+kernel)]; exact ⟨rfl,rfl⟩))
  (fun os started H enc _ F=>by rw [OpenClaim.pre_eq_preRow]; exact tellMany_lifted hw os started H enc F)
theorem tellMany_plain (f:FuncId) (fn:Func) (hf:Tryz.pinned.checked.prog.funcNamed "wayfarer/wayfarerlaw16.TellMany" =some f) (hfn:Tryz.pinned.checked.prog.funcs[f]?=some fn):
  true=Tryz.pinned.checked.prog.looks []∧∀ (j:Nat) t,fn.params[j]?=some t→Tryz.pinned.checked.prog.wantsStandIn t=false:=by
 obtain rfl:f=3:=Option.some.inj ((show Tryz.prog.funcNamed "wayfarer/wayfarerlaw16.TellMany" =some 3 by kernel_rfl).symm.trans hf)|>.symm
 obtain rfl:fn=Tryz.f3:=(Option.some.inj (Tryz.func3.symm.trans hfn)).symm
 refine ⟨by kernel_rfl,fun j t ht=>?_⟩
 rw [Tryz.params3] at ht
 have hm:t∈[3,4]:=by simpa using Array.mem_of_getElem? ht
 have hall:([3,4].all fun u=>!Tryz.prog.wantsStandIn u)=true:=by kernel_rfl
 exact (show Tryz.prog.wantsStandIn t=false by simpa using List.all_eq_true.1 hall t hm)
theorem tellMany_card_of (hw:∀ (a:Int) (odd:Bool) (w:World),Tab w→Calls Tryz.prog 3 #[.int .i64 a,.bool odd] w fun e w'=>e= .returned (.bool true)∧Below w.heap.size w w'):Rows.TellManyCardSaid:=
 Claim7.holds_tied_plain_at .later [] _ _ _ _ (tellMany_said hw) (fun _ h=>by cases h) (by kernel_rfl) (fun _ h=>by cases h) tellMany_row_tie rfl ⟨rfl,rfl⟩ (by kernel_rfl) rfl tellMany_plain (by kernel_rfl)
end Go.Proofs.YthaefdlkpljojaaGreatDoor
