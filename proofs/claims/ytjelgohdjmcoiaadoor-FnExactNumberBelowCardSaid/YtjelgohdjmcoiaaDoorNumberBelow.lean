/-
  The law on NumberBelow holds at all numbers: the program's answer is the reference's. The named variables hold what the program's text lays (the card ties them).
-/
import Derived.Test.YtjelgohdjmcoiaaDoorDiL
import Derived.Test.YtjelgohdjmcoiaaDoorTabDi
namespace Go.Proofs.YtjelgohdjmcoiaaDoor.numberBelowLaw
open Go.ChangeShapes Go.WideShapes Go.ChangeAt Go.RowKit Go.Joins

set_option maxRecDepth 100000 in
set_option maxHeartbeats 16000000 in
theorem walk (a0 a1 a2 : Int) (w : World) (g0 : SpanAt w 1 0 4611686016279904236) (g1 : SpanAt w 2 0 1000000) (g2 : SpanAt w 4 1 1000000) :
    Calls Tryd.prog 6 #[.int .i64 a0, .int .i64 a1, .int .i64 a2] w fun e' w' => e' = .returned (.bool true) ∧ Kp w w' := by
  have CI := Lib.hid (fun (w : World) (h : SpanAt w 1 0 4611686016279904236 ∧ SpanAt w 2 0 1000000 ∧ SpanAt w 4 1 1000000) => numberBelowP_any a0 a1 a2 w (h.1) (h.2.1) (h.2.2))
  have CS := Lib.hid (fun w => numberBelowS_any a0 a1 a2 w)
  have HG := Lib.hid (show SpanAt w 1 0 4611686016279904236 ∧ SpanAt w 2 0 1000000 ∧ SpanAt w 4 1 1000000 from ⟨g0, g1, g2⟩)
  generalize belB a0 a1 a2 = B at CI CS
  generalize belN a0 a1 a2 = X at CI CS
  have eB : (B != B) = false := by simp
  have eX : (vI B X != vI B X) = false := by simp
  generalize vI B X = Y at *
  go_enter Tryd.func6, Tryd.ntmps6
  go_wp2_with fail
  refine (CS.out _).mono ?_
  rintro e1 w1 ⟨rfl, k1⟩
  go_wp2_with fail
  refine (CI.out _ ⟨k1.two (HG.out.1), k1.two (HG.out.2.1), k1.two (HG.out.2.2)⟩).mono ?_
  rintro e2 w2 ⟨rfl, k2⟩
  go_wp2_with fail
  go_ret
  exact ⟨rfl, k1.trans k2⟩

set_option maxRecDepth 100000 in
theorem contract (H : Type) (enc : TypeId × Value → H) (W : World) (base : Nat) (args : Array Value) (ds gs : List (DataW H)) (before : List MemPlace)
    (hval : ∀ (j : Nat) t v, Tryd.f6.params[j]? = some t → args[j]? = some v → Value.okWide Tryd.prog W .any base t v)
    (hW : DataW.Whole enc Tryd.prog Tryd.f6.params.toList Rows.fnExactNumberBelowSpec.vars false W args.toList ds gs before) (hL : laidMetH Tryd.prog Rows.fnExactNumberBelowRow.laid W) :
    Calls Tryd.prog 6 args W fun e W' => ∃ v, e = .returned v ∧ Rows.fnExactNumberBelowSpec.post enc Tryd.prog Tryd.f6 false true false false W args v W' := by
  have hW' := hW
  obtain ⟨p, q, hA0, hV, rfl, hfz, hnd⟩ := hW
  have hA : DataW.TrodAll enc Tryd.prog W 0 (fun _ => true) true Tryd.f6.params.toList args.toList ds p := hA0
  rw [Tryd.params6] at hA hval
  obtain ⟨v0, v1, v2, d0, d1, d2, p0, p1, p2, rfl, rfl, rfl, h0, h1, h2⟩ := trodAll_three hA
  obtain ⟨_, _, _, rfl⟩ := lenvD3 (trodVars_len hV)
  obtain ⟨n0, rfl, _, _, wf0⟩ := open_int Tryd.underlying3 (hval 0 3 v0 rfl rfl) h0
  obtain ⟨n1, rfl, _, _, wf1⟩ := open_int Tryd.underlying3 (hval 1 3 v1 rfl rfl) h1
  obtain ⟨n2, rfl, _, _, wf2⟩ := open_int Tryd.underlying3 (hval 2 3 v2 rfl rfl) h2
  refine (walk n0 n1 n2 W (laidNumberBelow hL).1 (laidNumberBelow hL).2.1 (laidNumberBelow hL).2.2).mono fun e W' ⟨he, hg⟩ => ?_
  subst he
  exact ⟨_, rfl, law_post hW' laidOut (by kernel_rfl) (by kernel_rfl) (by kernel_rfl) Tryd.underlying4 rfl hg⟩

theorem laid_met (os : Os) : laidMet Tryd.prog Rows.fnExactNumberBelowRow.laid ((laidWorldDi os).forCall (fun _ _ => 0) ⟨#[], #[.int .i64 0, .int .i64 0, .int .i64 0], []⟩).memory :=
  laidMet_of_run' 8 (by kernel_rfl) (by kernel_rfl)
theorem reads (os : Os) {H : Type} (enc : TypeId × Value → H) : ∃ ds gs places, DataW.whole enc Tryd.prog ((laidWorldDi os).forCall (fun _ _ => 0) ⟨#[], #[.int .i64 0, .int .i64 0, .int .i64 0], []⟩).memory Tryd.f6.params.toList Rows.fnExactNumberBelowSpec.vars false #[.int .i64 0, .int .i64 0, .int .i64 0].toList 8 = some (ds, gs, places) :=
  ⟨[.lit (.int .i64 0), .lit (.int .i64 0), .lit (.int .i64 0)], [Rows.laid_loop_example_g00886_impl_seedSpan, Rows.laid_loop_example_g00886_impl_dieNumberSpan, Rows.laid_loop_example_g00886_impl_belowSpan], MemPlace.row ⟨1, 0, none⟩ 2 ++ (MemPlace.row ⟨2, 0, none⟩ 2 ++ (MemPlace.row ⟨4, 0, none⟩ 2)), by kernel_rfl⟩

set_option maxRecDepth 100000 in
theorem lifted (os : Os) (started : os.Started) (H : Type) (enc : TypeId × Value → H) (F : Stop.Interp) :
    ReturnsInHanded {} Tryd.checked os 6 .any ((OpenSpec.ofChange Rows.fnExactNumberBelowSpec).preRow enc Tryd.prog Tryd.f6 Rows.fnExactNumberBelowRow.domain false Rows.fnExactNumberBelowRow.laid) (((OpenSpec.ofChange Rows.fnExactNumberBelowSpec).at F).post enc Tryd.prog Tryd.f6 false true false false) := by
  obtain ⟨ds, gs, places, hx⟩ := reads os enc
  refine returnsInHanded_of_row (C := Tryd.checked) (s := OpenSpec.ofChange Rows.fnExactNumberBelowSpec) own started (by kernel_rfl) Tryd.func6
    (witness_row_at (enc := enc) (C := Tryd.checked) false (laidWorldDi os) #[.int .i64 0, .int .i64 0, .int .i64 0] rfl (by kernel_rfl) (by kernel_rfl) (by kernel_rfl)
      (OpenSpec.preRow_of_cond 8 hx (by kernel_rfl) (fun k hk => by cases hk) (by kernel_rfl) (laid_met os))) ?_
  intro W base args ds gs before hval hW _ _ _ hL _ _
  exact contract H enc W base args ds gs before hval hW hL

theorem said : Rows.FnExactNumberBelowSaid :=
  OpenClaim.holds_of_cond 6 Tryd.f6 rfl rfl rfl rfl rfl rfl rfl ⟨rfl, rfl, rfl, rfl, rfl⟩ rfl rfl rfl rfl rfl (by kernel_rfl) Tryd.func6 (by kernel_rfl)
    (of_decide_eq_true (by kernel_rfl)) (by unfold Func.isWrapper; first | (rw [if_pos (by decide +kernel)]; kernel_rfl) | (rw [if_neg (by decide +kernel)]; exact ⟨rfl, rfl⟩))
    (fun os started H enc _ F => by rw [OpenClaim.pre_eq_preRow]; exact lifted os started H enc F)

theorem plain (f : FuncId) (fn : Func) (hf : Tryd.pinned.checked.prog.funcNamed "loop.example/g00886/laws.FnExactNumberBelow" = some f) (hfn : Tryd.pinned.checked.prog.funcs[f]? = some fn) :
    false = Tryd.pinned.checked.prog.looks [] ∧ ∀ (j : Nat) t, fn.params[j]? = some t → Tryd.pinned.checked.prog.wantsStandIn t = false := by
  obtain rfl : f = 6 := Option.some.inj ((show Tryd.prog.funcNamed "loop.example/g00886/laws.FnExactNumberBelow" = some 6 by kernel_rfl).symm.trans hf) |>.symm
  obtain rfl : fn = Tryd.f6 := (Option.some.inj (Tryd.func6.symm.trans hfn)).symm
  refine ⟨by kernel_rfl, fun j t ht => ?_⟩
  rw [Tryd.params6] at ht
  have hm := Array.mem_of_getElem? ht
  simp only [List.mem_toArray, List.mem_cons, List.not_mem_nil, or_false] at hm
  rcases hm with rfl | rfl | rfl
  · exact (show Tryd.prog.wantsStandIn 3 = false by kernel_rfl)
  · exact (show Tryd.prog.wantsStandIn 3 = false by kernel_rfl)
  · exact (show Tryd.prog.wantsStandIn 3 = false by kernel_rfl)

/-- The card: the row, with what it lists tied to the program's text. -/
theorem card : Rows.FnExactNumberBelowCardSaid :=
  Claim7.holds_tied_plain_at .later [] _ _ _ _ said (fun _ h => by cases h) (by kernel_rfl) (fun _ h => by cases h) fnExactNumberBelow_row_tie rfl ⟨rfl, rfl⟩ (by kernel_rfl) rfl plain (by kernel_rfl)
#print axioms card

end Go.Proofs.YtjelgohdjmcoiaaDoor.numberBelowLaw
