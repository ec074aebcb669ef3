/-
  The law on ScoreOf holds at every argument: the program's answer is the reference's. The named variables hold what the program's text lays (the card ties them).
-/
import Derived.Test.YtcdfbcmfpeceeaaDoorTbK
import Derived.Test.YtcdfbcmfpeceeaaDoorTabO
import Derived.Test.YtcdfbcmfpeceeaaDoorFcScoreOf
namespace Go.Proofs.YtcdfbcmfpeceeaaDoor.scoreOfLaw
open Go.ChangeShapes Go.WideShapes Go.ChangeAt Go.RowKit Go.Joins

theorem walk (n : Int) (w : World) (hs : TbR w) :
    Calls Tryd.prog 9 #[.int .i64 n] w fun e' w' => e' = .returned (.bool true) ∧ Kp w w' := by
  have HS := Lib.hid hs
  obtain ⟨X, hX⟩ : ∃ z, z = vI (spB 0 7 n) (scoI n) := ⟨_, rfl⟩
  obtain ⟨B, hB⟩ : ∃ z, z = spB 0 7 n := ⟨_, rfl⟩
  have CS : Hid (∀ w, Calls Tryd.prog 42 #[.int .i64 n] w fun e' w' => e' = .returned (.tuple #[.int .i64 X, .bool B]) ∧ w = w') := Lib.hid fun w => by
    rw [hX, hB]
    exact specScoreOf_any n w
  have CI : Hid (∀ w, TbR w → Calls Tryd.prog 27 #[.int .i64 n] w fun e' w' => e' = .returned (.tuple #[.int .i64 X, .bool B]) ∧ Kp w w') := Lib.hid fun w h => by
    rw [hX, hB]
    exact scoreOf_any n w h
  have eX : (X != X) = false := by simp
  have eB : (B != B) = false := by simp
  clear hs hX hB
  go_enter Tryd.func9, Tryd.ntmps9
  go_wp2_with fail
  refine (CS.out _).mono ?_
  rintro e1 w1 ⟨rfl, rfl⟩
  go_wp2_with fail
  refine (CI.out _ HS.out).mono ?_
  rintro e2 w2 ⟨rfl, k2⟩
  go_wp2_with fail
  go_ret
  exact ⟨rfl, k2⟩

set_option maxRecDepth 100000 in
theorem contract (H : Type) (enc : TypeId × Value → H) (W : World) (base : Nat) (args : Array Value) (ds gs : List (DataW H)) (before : List MemPlace)
    (hval : ∀ (j : Nat) t v, Tryd.f9.params[j]? = some t → args[j]? = some v → Value.okWide Tryd.prog W .any base t v)
    (hW : DataW.Whole enc Tryd.prog Tryd.f9.params.toList Rows.fnExactScoreOfSpec.vars false W args.toList ds gs before) (hL : laidMetH Tryd.prog Rows.fnExactScoreOfRow.laid W) :
    Calls Tryd.prog 9 args W fun e W' => ∃ v, e = .returned v ∧ Rows.fnExactScoreOfSpec.post enc Tryd.prog Tryd.f9 false true false false W args v W' := by
  have hW' := hW
  obtain ⟨p, q, hA0, hV, rfl, hfz, hnd⟩ := hW
  have hA : DataW.TrodAll enc Tryd.prog W 0 (fun _ => true) true Tryd.f9.params.toList args.toList ds p := hA0
  rw [Tryd.params9] at hA hval
  obtain ⟨v0, d0, rfl, rfl, h0⟩ := trodAll_one hA
  obtain ⟨_, _, rfl⟩ := lenv2 (trodVars_len hV)
  obtain ⟨n0, rfl, _, _, wf0⟩ := open_int Tryd.underlying3 (hval 0 3 v0 rfl rfl) h0
  refine (walk n0 W (t2_of hL)).mono fun e W' ⟨he, hg⟩ => ?_
  subst he
  exact ⟨_, rfl, law_post hW' laidOut (by kernel_rfl) (by kernel_rfl) (by kernel_rfl) Tryd.underlying4 rfl hg⟩

theorem laid_met (os : Os) : laidMet Tryd.prog Rows.fnExactScoreOfRow.laid ((laidWorldT os).forCall (fun _ _ => 0) ⟨#[], #[.int .i64 0], []⟩).memory :=
  laidMet_of_run' 8 (by kernel_rfl) (by kernel_rfl)
theorem reads (os : Os) {H : Type} (enc : TypeId × Value → H) : ∃ ds gs places, DataW.whole enc Tryd.prog ((laidWorldT os).forCall (fun _ _ => 0) ⟨#[], #[.int .i64 0], []⟩).memory Tryd.f9.params.toList Rows.fnExactScoreOfSpec.vars false #[.int .i64 0].toList 8 = some (ds, gs, places) :=
  ⟨[.lit (.int .i64 0)], [Rows.laid_loop_example_g00886_impl_resultSpan, Rows.laid_loop_example_g00886_impl_resultScores], MemPlace.row ⟨2, 0, none⟩ 2 ++ (MemPlace.row ⟨0, 0, none⟩ 8), by kernel_rfl⟩

set_option maxRecDepth 100000 in
theorem lifted (os : Os) (started : os.Started) (H : Type) (enc : TypeId × Value → H) (F : Stop.Interp) :
    ReturnsInHanded {} Tryd.checked os 9 .any ((OpenSpec.ofChange Rows.fnExactScoreOfSpec).preRow enc Tryd.prog Tryd.f9 Rows.fnExactScoreOfRow.domain false Rows.fnExactScoreOfRow.laid) (((OpenSpec.ofChange Rows.fnExactScoreOfSpec).at F).post enc Tryd.prog Tryd.f9 false true false false) := by
  obtain ⟨ds, gs, places, hx⟩ := reads os enc
  refine returnsInHanded_of_row (C := Tryd.checked) (s := OpenSpec.ofChange Rows.fnExactScoreOfSpec) own started (by kernel_rfl) Tryd.func9
    (witness_row_at (enc := enc) (C := Tryd.checked) false (laidWorldT os) #[.int .i64 0] rfl (by kernel_rfl) (by kernel_rfl) (by kernel_rfl)
      (OpenSpec.preRow_of_cond 8 hx (by kernel_rfl) (fun k hk => by cases hk) (by kernel_rfl) (laid_met os))) ?_
  intro W base args ds gs before hval hW _ _ _ hL _ _
  exact contract H enc W base args ds gs before hval hW hL

theorem said : Rows.FnExactScoreOfSaid :=
  OpenClaim.holds_of_cond 9 Tryd.f9 rfl rfl rfl rfl rfl rfl rfl ⟨rfl, rfl, rfl, rfl, rfl⟩ rfl rfl rfl rfl rfl (by kernel_rfl) Tryd.func9 scoreOfFacts.closed
    (of_decide_eq_true (by kernel_rfl)) (by unfold Func.isWrapper; first | (rw [if_pos (by decide +kernel)]; kernel_rfl) | (rw [if_neg (by decide +kernel)]; exact ⟨rfl, rfl⟩))
    (fun os started H enc _ F => by rw [OpenClaim.pre_eq_preRow]; exact lifted os started H enc F)

theorem plain (f : FuncId) (fn : Func) (hf : Tryd.pinned.checked.prog.funcNamed "loop.example/g00886/laws.FnExactScoreOf" = some f) (hfn : Tryd.pinned.checked.prog.funcs[f]? = some fn) :
    true = Tryd.pinned.checked.prog.looks [] ∧ ∀ (j : Nat) t, fn.params[j]? = some t → Tryd.pinned.checked.prog.wantsStandIn t = false := by
  obtain rfl : f = 9 := Option.some.inj ((show Tryd.prog.funcNamed "loop.example/g00886/laws.FnExactScoreOf" = some 9 by kernel_rfl).symm.trans hf) |>.symm
  obtain rfl : fn = Tryd.f9 := (Option.some.inj (Tryd.func9.symm.trans hfn)).symm
  refine ⟨by kernel_rfl, fun j t ht => ?_⟩
  rw [Tryd.params9] at ht
  have hm := Array.mem_of_getElem? ht
  simp only [List.mem_toArray, List.mem_cons, List.not_mem_nil, or_false] at hm
  subst hm
  exact (show Tryd.prog.wantsStandIn 3 = false by kernel_rfl)

/-- The card: the row, with what it lists tied to the program's text. -/
theorem card : Rows.FnExactScoreOfCardSaid :=
  Claim7.holds_tied_plain_at .later [] _ _ _ _ said (fun _ h => by cases h) (by kernel_rfl) (fun _ h => by cases h) fnExactScoreOf_row_tie rfl ⟨rfl, rfl⟩ (by kernel_rfl) rfl plain (by kernel_rfl)
#print axioms card

end Go.Proofs.YtcdfbcmfpeceeaaDoor.scoreOfLaw
