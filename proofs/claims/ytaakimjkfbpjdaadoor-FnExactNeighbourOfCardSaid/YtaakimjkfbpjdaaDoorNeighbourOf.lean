/-
  The law on NeighbourOf holds at every hex and every direction: the program's answer is the reference's, and the arguments read as before. The table of directions holds what the program's text lays (the card ties it).
-/
import Derived.Test.YtaakimjkfbpjdaaDoorTab
import Derived.Test.YtaakimjkfbpjdaaDoorStep
namespace Go.Proofs.YtaakimjkfbpjdaaDoor.neighbourOfLaw
open Go.ChangeShapes Go.WideShapes Go.ChangeAt Go.RowKit Go.Joins

theorem walk (q r d : Int) (w : World) (ht : Tab w) :
    Calls Tryd.prog 3 #[hx q r, .int .i64 d] w fun e w' => e = .returned (.bool true) ∧ Kp w w' := by
  obtain ⟨B, hB⟩ : ∃ B, B = nbOk q r d := ⟨_, rfl⟩
  obtain ⟨X, hX⟩ : ∃ X, X = vI B (q + dirQ d) := ⟨_, rfl⟩
  obtain ⟨Y, hY⟩ : ∃ Y, Y = vI B (r + dirR d) := ⟨_, rfl⟩
  have hv : hb3 (nbOk q r d) (q + dirQ d) (r + dirR d) = .tuple #[hx X Y, .bool B] := by rw [hX, hY, hB]
  have cs : ∀ w, Calls Tryd.prog 7 #[hx q r, .int .i64 d] w fun e w' => e = .returned (.tuple #[hx X Y, .bool B]) ∧ Kp w w' := fun w => by rw [← hv]; exact specNeighbourOf_any q r d w
  have ci : ∀ w, Tab w → Calls Tryd.prog 9 #[hx q r, .int .i64 d] w fun e w' => e = .returned (.tuple #[hx X Y, .bool B]) ∧ Kp w w' := fun w ht => by rw [← hv]; exact neighbourOf_any q r d w ht
  have CS := Lib.hid cs
  have CI := Lib.hid ci
  have HT := Lib.hid ht
  clear cs ci hv hX hY hB ht
  go_enter Tryd.func3, Tryd.ntmps3
  go_wp2_with fail
  refine (toHex_any _ _ _).mono ?_
  rintro e wa ⟨rfl, ka⟩
  have b0 : wa.cell? ⟨w.heap.size, 0, none⟩ = some (.int .i64 q) := ka.cell (by simp [go_sem])
  have b1 : wa.cell? ⟨w.heap.size, 1, none⟩ = some (.int .i64 r) := ka.cell (by simp [go_sem])
  have K1 : Kp w wa := ((Kp.refl _).alloc _).trans ka
  clear ka
  go_wp2_with fail
  refine (CS.out _).mono ?_
  rintro e wb ⟨rfl, kb⟩
  have b2 := kb.two ⟨b0, b1⟩
  have l2 := cell_lt b2.1
  have n2 : w.heap.size ≠ wb.heap.size := by omega
  go_wp2_with fail
  refine (toHex_any _ _ _).mono ?_
  rintro e wc ⟨rfl, kc⟩
  have g0 : wc.cell? ⟨wb.heap.size, 0, none⟩ = some (.int .i64 X) := kc.cell (by simp [go_sem])
  have g1 : wc.cell? ⟨wb.heap.size, 1, none⟩ = some (.int .i64 Y) := kc.cell (by simp [go_sem])
  have K2 : Kp w wc := (K1.trans (kb.alloc _)).trans kc
  clear kc b2
  go_wp2_with fail
  refine (CI.out _ (HT.out.keep K2)).mono ?_
  rintro e wd ⟨rfl, kd⟩
  have g2 := kd.two ⟨g0, g1⟩
  have l3 := cell_lt g2.1
  have n3 : wb.heap.size ≠ wd.heap.size := by omega
  go_wp2_with fail
  refine (eqHex_any _ _ _ _ _).mono ?_
  rintro e we ⟨rfl, ke⟩
  go_wp2
  go_ret
  exact ⟨rfl, (K2.trans (kd.alloc _)).trans ke⟩

theorem contract (H : Type) (enc : TypeId × Value → H) (W : World) (base : Nat) (args : Array Value) (ds gs : List (DataW H)) (before : List MemPlace)
    (hval : ∀ (j : Nat) t v, Tryd.f3.params[j]? = some t → args[j]? = some v → Value.okWide Tryd.prog W .any base t v)
    (hW : DataW.Whole enc Tryd.prog Tryd.f3.params.toList Rows.fnExactNeighbourOfSpec.vars false W args.toList ds gs before) (hL : laidMetH Tryd.prog Rows.fnExactNeighbourOfRow.laid W) :
    Calls Tryd.prog 3 args W fun e W' => ∃ v, e = .returned v ∧ Rows.fnExactNeighbourOfSpec.post enc Tryd.prog Tryd.f3 false true false false W args v W' := by
  have hW' := hW
  obtain ⟨p, q, hA0, hV, rfl, hfz, hnd⟩ := hW
  have hA : DataW.TrodAll enc Tryd.prog W 0 (fun _ => true) true Tryd.f3.params.toList args.toList ds p := hA0
  rw [Tryd.params3] at hA hval
  obtain ⟨v0, v1, d0, d1, p0, p1, rfl, rfl, rfl, h0, h1⟩ := trodAll_two hA
  obtain ⟨_, _, _, _, g0, _, rfl, _, _, _, _, _⟩ := trodVars_one hV
  obtain ⟨q0, r0, rfl, _, _⟩ := open_hex (hval 0 23 v0 rfl rfl) h0
  obtain ⟨n1, rfl, _, _, wf1⟩ := open_int Tryd.underlying3 (hval 1 3 v1 rfl rfl) h1
  refine (walk q0 r0 n1 W (tab_of_laid hL)).mono fun e W' ⟨he, hg⟩ => ?_
  subst he
  exact ⟨_, rfl, law_post hW' laidOut (by kernel_rfl) (by kernel_rfl) (by kernel_rfl) Tryd.underlying4 rfl hg⟩

theorem laid_met (os : Os) : laidMet Tryd.prog Rows.fnExactNeighbourOfRow.laid ((laidWorld os).forCall (fun _ _ => 0) ⟨#[], #[.agg #[.int .i64 0, .int .i64 0], .int .i64 0], []⟩).memory :=
  laidMet_of_run' 8 (by kernel_rfl) (by kernel_rfl)
theorem reads (os : Os) {H : Type} (enc : TypeId × Value → H) : ∃ ds gs places, DataW.whole enc Tryd.prog ((laidWorld os).forCall (fun _ _ => 0) ⟨#[], #[.agg #[.int .i64 0, .int .i64 0], .int .i64 0], []⟩).memory Tryd.f3.params.toList Rows.fnExactNeighbourOfSpec.vars false #[.agg #[.int .i64 0, .int .i64 0], .int .i64 0].toList 8 = some (ds, gs, places) :=
  ⟨[.agg [.lit (.int .i64 0), .lit (.int .i64 0)], .lit (.int .i64 0)], [Rows.laid_loop_example_g00886_impl_directionSteps], MemPlace.row ⟨0, 0, none⟩ 12, by kernel_rfl⟩

set_option maxRecDepth 100000 in
theorem lifted (os : Os) (started : os.Started) (H : Type) (enc : TypeId × Value → H) (F : Stop.Interp) :
    ReturnsInHanded {} Tryd.checked os 3 .any ((OpenSpec.ofChange Rows.fnExactNeighbourOfSpec).preRow enc Tryd.prog Tryd.f3 Rows.fnExactNeighbourOfRow.domain false Rows.fnExactNeighbourOfRow.laid) (((OpenSpec.ofChange Rows.fnExactNeighbourOfSpec).at F).post enc Tryd.prog Tryd.f3 false true false false) := by
  obtain ⟨ds, gs, places, hx⟩ := reads os enc
  refine returnsInHanded_of_row (C := Tryd.checked) (s := OpenSpec.ofChange Rows.fnExactNeighbourOfSpec) own started (by kernel_rfl) Tryd.func3
    (witness_row_at (enc := enc) (C := Tryd.checked) false (laidWorld os) #[.agg #[.int .i64 0, .int .i64 0], .int .i64 0] rfl (by kernel_rfl) (by kernel_rfl) (by kernel_rfl)
      (OpenSpec.preRow_of_cond 8 hx (by kernel_rfl) (fun k hk => by cases hk) (by kernel_rfl) (laid_met os))) ?_
  intro W base args ds gs before hval hW _ _ _ hL _ _
  exact contract H enc W base args ds gs before hval hW hL

theorem said : Rows.FnExactNeighbourOfSaid :=
  OpenClaim.holds_of_cond 3 Tryd.f3 rfl rfl rfl rfl rfl rfl rfl ⟨rfl, rfl, rfl, rfl, rfl⟩ rfl rfl rfl rfl rfl (by kernel_rfl) Tryd.func3 (by kernel_rfl)
    (of_decide_eq_true (by kernel_rfl)) (by unfold Func.isWrapper; first | (rw [if_pos (by decide +kernel)]; kernel_rfl) | (rw [if_neg (by decide +kernel)]; exact ⟨rfl, rfl⟩))
    (fun os started H enc _ F => by rw [OpenClaim.pre_eq_preRow]; exact lifted os started H enc F)

theorem plain (f : FuncId) (fn : Func) (hf : Tryd.pinned.checked.prog.funcNamed "loop.example/g00886/laws.FnExactNeighbourOf" = some f) (hfn : Tryd.pinned.checked.prog.funcs[f]? = some fn) :
    false = Tryd.pinned.checked.prog.looks [] ∧ ∀ (j : Nat) t, fn.params[j]? = some t → Tryd.pinned.checked.prog.wantsStandIn t = false := by
  obtain rfl : f = 3 := Option.some.inj ((show Tryd.prog.funcNamed "loop.example/g00886/laws.FnExactNeighbourOf" = some 3 by kernel_rfl).symm.trans hf) |>.symm
  obtain rfl : fn = Tryd.f3 := (Option.some.inj (Tryd.func3.symm.trans hfn)).symm
  refine ⟨by kernel_rfl, fun j t ht => ?_⟩
  rw [Tryd.params3] at ht
  have hm := Array.mem_of_getElem? ht
  simp only [List.mem_toArray, List.mem_cons, List.not_mem_nil, or_false] at hm
  rcases hm with rfl | rfl
  · exact (show Tryd.prog.wantsStandIn 23 = false by kernel_rfl)
  · exact (show Tryd.prog.wantsStandIn 3 = false by kernel_rfl)

/-- The card: the row, with what it lists tied to the program's text. -/
theorem card : Rows.FnExactNeighbourOfCardSaid :=
  Claim7.holds_tied_plain_at .later [] _ _ _ _ said (fun _ h => by cases h) (by kernel_rfl) (fun _ h => by cases h) fnExactNeighbourOf_row_tie rfl ⟨rfl, rfl⟩ (by kernel_rfl) rfl plain (by kernel_rfl)
#print axioms card
end Go.Proofs.YtaakimjkfbpjdaaDoor.neighbourOfLaw
