/-
  The law on SumWays holds at all numbers: the program's answer is the reference's. The named variables hold what the program's text lays (the card ties them).
-/
import Derived.Test.YtjelgohdjmcoiaaDoorDiX
import Derived.Test.YtjelgohdjmcoiaaDoorTabDi
namespace Go.Proofs.YtjelgohdjmcoiaaDoor.sumWaysLaw
open Go.ChangeShapes Go.WideShapes Go.ChangeAt Go.RowKit Go.Joins

set_option maxRecDepth 100000 in
set_option maxHeartbeats 16000000 in
theorem walk (a0 a1 : Int) (w : World) (g0 : SpanAt w 3 0 8) (g1 : SpanAt w 6 (-100) 100) :
    Calls Tryd.prog 8 #[.int .i64 a0, .int .i64 a1] w fun e' w' => e' = .returned (.bool true) ∧ Kp w w' := by
  have CI := Lib.hid (fun (w : World) (h : SpanAt w 3 0 8 ∧ SpanAt w 6 (-100) 100) => sumWaysP_any a0 a1 w (h.1) (h.2))
  have CS := Lib.hid (fun w => sumWaysS_any a0 a1 w)
  have HG := Lib.hid (show SpanAt w 3 0 8 ∧ SpanAt w 6 (-100) 100 from ⟨g0, g1⟩)
  generalize swB a0 a1 = B at CI CS
  generalize sumN a0 a1 = X at CI CS
  have eB : (B != B) = false := by simp
  have eX : (vI B X != vI B X) = false := by simp
  generalize vI B X = Y at *
  go_enter Tryd.func8, Tryd.ntmps8
  go_wp2_with fail
  refine (CS.out _).mono ?_
  rintro e1 w1 ⟨rfl, k1⟩
  go_wp2_with fail
  refine (CI.out _ ⟨k1.two (HG.out.1), k1.two (HG.out.2)⟩).mono ?_
  rintro e2 w2 ⟨rfl, k2⟩
  go_wp2_with fail
  go_ret
  exact ⟨rfl, k1.trans k2⟩

set_option maxRecDepth 100000 in
theorem contract (H : Type) (enc : TypeId × Value → H) (W : World) (base : Nat) (args : Array Value) (ds gs : List (DataW H)) (before : List MemPlace)
    (hval : ∀ (j : Nat) t v, Tryd.f8.params[j]? = some t → args[j]? = some v → Value.okWide Tryd.prog W .any base t v)
    (hW : DataW.Whole enc Tryd.prog Tryd.f8.params.toList Rows.fnExactSumWaysSpec.vars false W args.toList ds gs before) (hL : laidMetH Tryd.prog Rows.fnExactSumWaysRow.laid W) :
    Calls Tryd.prog 8 args W fun e W' => ∃ v, e = .returned v ∧ Rows.fnExactSumWaysSpec.post enc Tryd.prog Tryd.f8 false true false false W args v W' := by
  have hW' := hW
  obtain ⟨p, q, hA0, hV, rfl, hfz, hnd⟩ := hW
  have hA : DataW.TrodAll enc Tryd.prog W 0 (fun _ => true) true Tryd.f8.params.toList args.toList ds p := hA0
  rw [Tryd.params8] at hA hval
  obtain ⟨v0, v1, d0, d1, p0, p1, rfl, rfl, rfl, h0, h1⟩ := trodAll_two hA
  obtain ⟨_, _, rfl⟩ := lenvD2 (trodVars_len hV)
  obtain ⟨n0, rfl, _, _, wf0⟩ := open_int Tryd.underlying3 (hval 0 3 v0 rfl rfl) h0
  obtain ⟨n1, rfl, _, _, wf1⟩ := open_int Tryd.underlying3 (hval 1 3 v1 rfl rfl) h1
  refine (walk n0 n1 W (laidSumWays hL).1 (laidSumWays hL).2).mono fun e W' ⟨he, hg⟩ => ?_
  subst he
  exact ⟨_, rfl, law_post hW' laidOut (by kernel_rfl) (by kernel_rfl) (by kernel_rfl) Tryd.underlying4 rfl hg⟩

theorem laid_met (os : Os) : laidMet Tryd.prog Rows.fnExactSumWaysRow.laid ((laidWorldDi os).forCall (fun _ _ => 0) ⟨#[], #[.int .i64 0, .int .i64 0], []⟩).memory :=
  laidMet_of_run' 8 (by kernel_rfl) (by kernel_rfl)
theorem reads (os : Os) {H : Type} (enc : TypeId × Value → H) : ∃ ds gs places, DataW.whole enc Tryd.prog ((laidWorldDi os).forCall (fun _ _ => 0) ⟨#[], #[.int .i64 0, .int .i64 0], []⟩).memory Tryd.f8.params.toList Rows.fnExactSumWaysSpec.vars false #[.int .i64 0, .int .i64 0].toList 8 = some (ds, gs, places) :=
  ⟨[.lit (.int .i64 0), .lit (.int .i64 0)], [Rows.laid_loop_example_g00886_impl_diceSpan, Rows.laid_loop_example_g00886_impl_diceSumSpan], MemPlace.row ⟨3, 0, none⟩ 2 ++ (MemPlace.row ⟨6, 0, none⟩ 2), by kernel_rfl⟩

set_option maxRecDepth 100000 in
theorem lifted (os : Os) (started : os.Started) (H : Type) (enc : TypeId × Value → H) (F : Stop.Interp) :
    ReturnsInHanded {} Tryd.checked os 8 .any ((OpenSpec.ofChange Rows.fnExactSumWaysSpec).preRow enc Tryd.prog Tryd.f8 Rows.fnExactSumWaysRow.domain false Rows.fnExactSumWaysRow.laid) (((OpenSpec.ofChange Rows.fnExactSumWaysSpec).at F).post enc Tryd.prog Tryd.f8 false true false false) := by
  obtain ⟨ds, gs, places, hx⟩ := reads os enc
  refine returnsInHanded_of_row (C := Tryd.checked) (s := OpenSpec.ofChange Rows.fnExactSumWaysSpec) own started (by kernel_rfl) Tryd.func8
    (witness_row_at (enc := enc) (C := Tryd.checked) false (laidWorldDi os) #[.int .i64 0, .int .i64 0] rfl (by kernel_rfl) (by kernel_rfl) (by kernel_rfl)
      (OpenSpec.preRow_of_cond 8 hx (by kernel_rfl) (fun k hk => by cases hk) (by kernel_rfl) (laid_met os))) ?_
  intro W base args ds gs before hval hW _ _ _ hL _ _
  exact contract H enc W base args ds gs before hval hW hL

theorem said : Rows.FnExactSumWaysSaid :=
  OpenClaim.holds_of_cond 8 Tryd.f8 rfl rfl rfl rfl rfl rfl rfl ⟨rfl, rfl, rfl, rfl, rfl⟩ rfl rfl rfl rfl rfl (by kernel_rfl) Tryd.func8 (by kernel_rfl)
    (of_decide_eq_true (by kernel_rfl)) (by unfold Func.isWrapper; first | (rw [if_pos (by decide +kernel)]; kernel_rfl) | (rw [if_neg (by decide +kernel)]; exact ⟨rfl, rfl⟩))
    (fun os started H enc _ F => by rw [OpenClaim.pre_eq_preRow]; exact lifted os started H enc F)

theorem plain (f : FuncId) (fn : Func) (hf : Tryd.pinned.checked.prog.funcNamed "loop.example/g00886/laws.FnExactSumWays" = some f) (hfn : Tryd.pinned.checked.prog.funcs[f]? = some fn) :
    false = Tryd.pinned.checked.prog.looks [] ∧ ∀ (j : Nat) t, fn.params[j]? = some t → Tryd.pinned.checked.prog.wantsStandIn t = false := by
  obtain rfl : f = 8 := Option.some.inj ((show Tryd.prog.funcNamed "loop.example/g00886/laws.FnExactSumWays" = some 8 by kernel_rfl).symm.trans hf) |>.symm
  obtain rfl : fn = Tryd.f8 := (Option.some.inj (Tryd.func8.symm.trans hfn)).symm
  refine ⟨by kernel_rfl, fun j t ht => ?_⟩
  rw [Tryd.params8] at ht
  have hm := Array.mem_of_getElem? ht
  simp only [List.mem_toArray, List.mem_cons, List.not_mem_nil, or_false] at hm
  rcases hm with rfl | rfl
  · exact (show Tryd.prog.wantsStandIn 3 = false by kernel_rfl)
  · exact (show Tryd.prog.wantsStandIn 3 = false by kernel_rfl)

/-- The card: the row, with what it lists tied to the program's text. -/
theorem card : Rows.FnExactSumWaysCardSaid :=
  Claim7.holds_tied_plain_at .later [] _ _ _ _ said (fun _ h => by cases h) (by kernel_rfl) (fun _ h => by cases h) fnExactSumWays_row_tie rfl ⟨rfl, rfl⟩ (by kernel_rfl) rfl plain (by kernel_rfl)
#print axioms card

end Go.Proofs.YtjelgohdjmcoiaaDoor.sumWaysLaw
