/-
 The card of the law on LoseUnsupplied: the row, with what it lists tied to the program's text.
-/
import Derived.Test.YtacgknllagdkoaaGreatDoorLoseUnsupplied
import Derived.Test.YtacgknllagdkoaaGreatDoorFcLoseUnsupplied
import Derived.Test.YtacgknllagdkoaaGreatDoorQa
namespace Go.Proofs.YtacgknllagdkoaaGreatDoor.loseUnsuppliedLaw
open Go.ChangeShapes Go.WideShapes Go.ChangeAt Go.RowKit Go.Joins
set_option maxRecDepth 100000 in
theorem contract (H:Type) (enc:TypeId × Value→H) (W:World) (base:Nat) (args:Array Value) (ds gs:List (DataW H)) (before:List MemPlace)
  (hval:∀ (j:Nat) t v,Tryz.f11.params[j]?=some t→args[j]?=some v→Value.okWide Tryz.prog W .any base t v)
  (hW:DataW.Whole enc Tryz.prog Tryz.f11.params.toList Rows.fnExactLoseUnsuppliedSpec.vars false W args.toList ds gs before) (hL:laidMetH Tryz.prog Rows.fnExactLoseUnsuppliedRow.laid W) :
  Calls Tryz.prog 11 args W fun e W'=>∃ v,e=.returned v∧Rows.fnExactLoseUnsuppliedSpec.post enc Tryz.prog Tryz.f11 false true false false W args v W':=by
 have hW':=hW
 obtain⟨p,q,hA0,hV,rfl,hfz,hnd⟩:=hW
 have hA:DataW.TrodAll enc Tryz.prog W 0 (fun _=>true) true Tryz.f11.params.toList args.toList ds p:=hA0
 rw [Tryz.params11] at hA hval
 obtain⟨v0,v1,v2,v3,d0,d1,d2,d3,p0,p1,p2,p3,rfl,rfl,rfl,h0,h1,h2,h3⟩:=trodAll_four hA
 obtain⟨_,_,_,_,_,_,_,_,_,_,_,_,_,_,_,_,_,_,rfl⟩:=lenv18 (trodVars_len hV)
 obtain⟨At0,Ak0,nt0,nk0,ct0,ck0,l0,m0,a0,b0,c0,d0,e0,W0,H0,x0,r0,y0,lt0,lr0,ld0,rfl,hR0,hI0⟩:=open_board (hval 0 30 v0 rfl rfl) h0
 obtain⟨T0,Z0,u0,us0,rfl,hR1,_,_⟩:=open_state (hval 1 33 v1 rfl rfl) h1
 obtain⟨n2,rfl,_,_,wf2⟩:=open_int Tryz.underlying3 (hval 2 3 v2 rfl rfl) h2
 obtain⟨l3,hl3⟩:=rdI_of_trod (hval 3 26 v3 rfl rfl) h3
 refine(walk At0 Ak0 nt0 nk0 ct0 ck0 l0 m0 a0 b0 c0 d0 e0 W0 H0 x0 r0 y0 lt0 lr0 ld0 T0 Z0 u0 us0 n2 v3 l3 W (laid18_sp hL) (laid18_tab hL) (laid18_un hL) hR0 hR1 (bounds_i64 wf2) hl3).mono fun e W' ⟨he,hg⟩=>?_
 subst he
 exact⟨_,rfl,law_post hW' laidOut (by kernel_rfl) (by kernel_rfl) (by kernel_rfl) Tryz.underlying4 rfl hg⟩
theorem laid_met (os:Os):laidMet Tryz.prog Rows.fnExactLoseUnsuppliedRow.laid ((laidWorldU os).forCall (fun _ _=>0) ⟨#[],#[.agg #[.slice none 0 0,.slice none 0 0,.int .i64 0,.int .i64 0,.int .i64 0,.int .i64 0,.int .i64 0,.int .i64 0,.int .i64 0,.slice none 0 0,.slice none 0 0,.slice none 0 0],.agg #[.int .i64 0,.int .i64 0,.slice none 0 0],.int .i64 0,.slice none 0 0],[]⟩).memory :=
 laidMet_of_run' 8 (by kernel_rfl) (by kernel_rfl)
theorem reads (os:Os) {H:Type} (enc:TypeId × Value→H):∃ ds gs places,DataW.whole enc Tryz.prog ((laidWorldU os).forCall (fun _ _=>0) ⟨#[],#[.agg #[.slice none 0 0,.slice none 0 0,.int .i64 0,.int .i64 0,.int .i64 0,.int .i64 0,.int .i64 0,.int .i64 0,.int .i64 0,.slice none 0 0,.slice none 0 0,.slice none 0 0],.agg #[.int .i64 0,.int .i64 0,.slice none 0 0],.int .i64 0,.slice none 0 0],[]⟩).memory Tryz.f11.params.toList Rows.fnExactLoseUnsuppliedSpec.vars false #[.agg #[.slice none 0 0,.slice none 0 0,.int .i64 0,.int .i64 0,.int .i64 0,.int .i64 0,.int .i64 0,.int .i64 0,.int .i64 0,.slice none 0 0,.slice none 0 0,.slice none 0 0],.agg #[.int .i64 0,.int .i64 0,.slice none 0 0],.int .i64 0,.slice none 0 0].toList 8=some (ds,gs,places) :=
 ⟨[.agg [.agg [.nil,.nil,.lit (.int .i64 0),.lit (.int .i64 0),.lit (.int .i64 0),.lit (.int .i64 0),.lit (.int .i64 0)],.agg [.lit (.int .i64 0),.lit (.int .i64 0),.nil,.nil,.nil]],.agg [.lit (.int .i64 0),.lit (.int .i64 0),.nil],.lit (.int .i64 0),.nil],[Rows.laid_loop_example_g00886_impl_sideSpan,Rows.laid_loop_example_g00886_impl_terrainsSpan,Rows.laid_loop_example_g00886_impl_kindsSpan,Rows.laid_loop_example_g00886_impl_stackSpan,Rows.laid_loop_example_g00886_impl_riverSpan,Rows.laid_loop_example_g00886_impl_roadSpan,Rows.laid_loop_example_g00886_impl_supplySpan,Rows.laid_loop_example_g00886_impl_turnsSpan,Rows.laid_loop_example_g00886_impl_costSpan,Rows.laid_loop_example_g00886_impl_shiftSpan,Rows.laid_loop_example_g00886_impl_heightSpan,Rows.laid_loop_example_g00886_impl_strengthSpan,Rows.laid_loop_example_g00886_impl_movesSpan,Rows.laid_loop_example_g00886_impl_stepsSpan,Rows.laid_loop_example_g00886_impl_viewSpan,Rows.laid_loop_example_g00886_impl_directionSteps,Rows.laid_loop_example_g00886_impl_weatherSpan,Rows.laid_loop_example_g00886_impl_unitsSpan],MemPlace.row ⟨0,0,none⟩ 2++(MemPlace.row ⟨10,0,none⟩ 2++(MemPlace.row ⟨11,0,none⟩ 2++(MemPlace.row ⟨12,0,none⟩ 2++(MemPlace.row ⟨13,0,none⟩ 2++(MemPlace.row ⟨14,0,none⟩ 2++(MemPlace.row ⟨15,0,none⟩ 2++(MemPlace.row ⟨16,0,none⟩ 2++(MemPlace.row ⟨17,0,none⟩ 2++(MemPlace.row ⟨18,0,none⟩ 2++(MemPlace.row ⟨19,0,none⟩ 2++(MemPlace.row ⟨20,0,none⟩ 2++(MemPlace.row ⟨21,0,none⟩ 2++(MemPlace.row ⟨22,0,none⟩ 2++(MemPlace.row ⟨23,0,none⟩ 2++(MemPlace.row ⟨9,0,none⟩ 12++(MemPlace.row ⟨8,0,none⟩ 2++(MemPlace.row ⟨6,0,none⟩ 2))))))))))))))))),by kernel_rfl⟩
set_option maxRecDepth 100000 in
theorem lifted (os:Os) (started:os.Started) (H:Type) (enc:TypeId × Value→H) (F:Stop.Interp) :
  ReturnsInHanded {} Tryz.checked os 11 .any ((OpenSpec.ofChange Rows.fnExactLoseUnsuppliedSpec).preRow enc Tryz.prog Tryz.f11 Rows.fnExactLoseUnsuppliedRow.domain false Rows.fnExactLoseUnsuppliedRow.laid) (((OpenSpec.ofChange Rows.fnExactLoseUnsuppliedSpec).at F).post enc Tryz.prog Tryz.f11 false true false false):=by
 obtain⟨ds,gs,places,hx⟩:=reads os enc
 refine returnsInHanded_of_row (C:=Tryz.checked) (s:=OpenSpec.ofChange Rows.fnExactLoseUnsuppliedSpec) own started (by kernel_rfl) Tryz.func11
  (witness_row_at (enc:=enc) (C:=Tryz.checked) false (laidWorldU os) #[.agg #[.slice none 0 0,.slice none 0 0,.int .i64 0,.int .i64 0,.int .i64 0,.int .i64 0,.int .i64 0,.int .i64 0,.int .i64 0,.slice none 0 0,.slice none 0 0,.slice none 0 0],.agg #[.int .i64 0,.int .i64 0,.slice none 0 0],.int .i64 0,.slice none 0 0] rfl (by kernel_rfl) (by kernel_rfl) (by kernel_rfl)
   (OpenSpec.preRow_of_cond 8 hx (by kernel_rfl) (fun k hk=>by cases hk) (by kernel_rfl) (laid_met os))) ?_
 intro W base args ds gs before hval hW _ _ _ hL _ _
 exact contract H enc W base args ds gs before hval hW hL
theorem said:Rows.FnExactLoseUnsuppliedSaid :=
 OpenClaim.holds_of_cond 11 Tryz.f11 rfl rfl rfl rfl rfl rfl rfl ⟨rfl,rfl,rfl,rfl,rfl⟩ rfl rfl rfl rfl rfl (by kernel_rfl) Tryz.func11 loseUnsuppliedFacts.loseUnsuppliedClosed
  (of_decide_eq_true (by kernel_rfl)) (by unfold Func.isWrapper;first | (rw [if_pos (by decide +kernel)];kernel_rfl) | (rw [if_neg (by decide +kernel)];exact⟨rfl,rfl⟩))
  (fun os started H enc _ F=>by rw [OpenClaim.pre_eq_preRow];exact lifted os started H enc F)
theorem plain (f:FuncId) (fn:Func) (hf:Tryz.pinned.checked.prog.funcNamed "loop.example/g00886/laws.FnExactLoseUnsupplied"=some f) (hfn:Tryz.pinned.checked.prog.funcs[f]?=some fn) :
  true=Tryz.pinned.checked.prog.looks []∧∀ (j:Nat) t,fn.params[j]?=some t→Tryz.pinned.checked.prog.wantsStandIn t=false:=by
 obtain rfl:f=11:=Option.some.inj ((show Tryz.prog.funcNamed "loop.example/g00886/laws.FnExactLoseUnsupplied"=some 11 by kernel_rfl).symm.trans hf) |>.symm
 obtain rfl:fn=Tryz.f11:=(Option.some.inj (Tryz.func11.symm.trans hfn)).symm
 refine⟨by kernel_rfl,fun j t ht=>?_⟩
 rw [Tryz.params11] at ht
 have hm:=Array.mem_of_getElem? ht
 simp only [List.mem_toArray,List.mem_cons,List.not_mem_nil,or_false] at hm
 rcases hm with rfl | rfl | rfl | rfl
 ·exact(show Tryz.prog.wantsStandIn 30=false by kernel_rfl)
 ·exact(show Tryz.prog.wantsStandIn 33=false by kernel_rfl)
 ·exact(show Tryz.prog.wantsStandIn 3=false by kernel_rfl)
 ·exact(show Tryz.prog.wantsStandIn 26=false by kernel_rfl)
theorem mainHeld:Tryz.pinned.checked.prog.mainIs=some (true,"c7c208838ead266e26f807dcdf9b44348d55f765f73050564d96046e8bf397b3".toList):=by kernel_rfl
theorem goesHeld:false=Rows.fnExactLoseUnsuppliedRow.goesBy Tryz.pinned.checked.prog:=by kernel_rfl
theorem wfHeld:Rows.fnExactLoseUnsuppliedRow.wfByText (OpenSpec.ofChange Rows.fnExactLoseUnsuppliedSpec)=true:=by kernel_rfl
/-- The card: the row, with what it lists tied to the program's text. -/
theorem card:Rows.FnExactLoseUnsuppliedCardSaid :=
 Claim7.holds_tied_plain_at .later [] _ _ _ _ said (fun _ h=>by cases h) wfHeld (fun _ h=>by cases h) fnExactLoseUnsupplied_row_tie rfl ⟨rfl,rfl⟩ mainHeld rfl plain goesHeld
#print axioms card
end Go.Proofs.YtacgknllagdkoaaGreatDoor.loseUnsuppliedLaw
