/-
  The law on scores holds at every argument: the program's answers on drawn tables are the reference's, scores are within -3 to 3, and the mean scores of a monotone table do not fall from a column to the next. The named variables hold what the program's text lays (the card ties them).
-/
import Derived.Test.YtjpfmckoodalnaaDoorFsW
import Derived.ChangeSlices
import Derived.OpenShut
namespace Go.Proofs.YtjpfmckoodalnaaDoor.fnScoresLaw
open Go.ChangeShapes Go.WideShapes Go.ChangeAt Go.RowKit Go.Joins

theorem tabs_of {W : World} (h : laidMetH Tryd.prog [("loop.example/g00886/impl.resultScores", Rows.laid_loop_example_g00886_impl_resultScores), ("loop.example/g00886/impl.columnsSpan", Rows.laid_loop_example_g00886_impl_columnsSpan), ("loop.example/g00886/impl.oddsSpan", Rows.laid_loop_example_g00886_impl_oddsSpan), ("loop.example/g00886/impl.tableDiceSpan", Rows.laid_loop_example_g00886_impl_tableDiceSpan), ("loop.example/g00886/impl.resultSpan", Rows.laid_loop_example_g00886_impl_resultSpan), ("loop.example/g00886/impl.columnShiftSpan", Rows.laid_loop_example_g00886_impl_columnShiftSpan)] W) : TbM W ∧ TbH W ∧ TbR W := by
  have h' : laidMet Tryd.prog [("loop.example/g00886/impl.resultScores", Rows.laid_loop_example_g00886_impl_resultScores), ("loop.example/g00886/impl.columnsSpan", Rows.laid_loop_example_g00886_impl_columnsSpan), ("loop.example/g00886/impl.oddsSpan", Rows.laid_loop_example_g00886_impl_oddsSpan), ("loop.example/g00886/impl.tableDiceSpan", Rows.laid_loop_example_g00886_impl_tableDiceSpan), ("loop.example/g00886/impl.resultSpan", Rows.laid_loop_example_g00886_impl_resultSpan), ("loop.example/g00886/impl.columnShiftSpan", Rows.laid_loop_example_g00886_impl_columnShiftSpan)] W := h
  obtain ⟨ps, hl, _⟩ := h'
  have sc := scores_of (laid_one hl (.head _))
  have c1 := span_of columnsG4 columnsTy4 (laid_one hl (.tail _ (.head _)))
  have c2 := span_of oddsG4 oddsTy4 (laid_one hl (.tail _ (.tail _ (.head _))))
  have c3 := span_of diceG4 diceTy4 (laid_one hl (.tail _ (.tail _ (.tail _ (.head _)))))
  have c4 := span_of resultG4 resultTy4 (laid_one hl (.tail _ (.tail _ (.tail _ (.tail _ (.head _))))))
  have c5 := span_of cshiftG4 cshiftTy4 (laid_one hl (.tail _ (.tail _ (.tail _ (.tail _ (.tail _ (.head _)))))))
  exact ⟨⟨⟨c1, c2, c3, c4⟩, sc⟩, ⟨⟨c1, c2, c3, c4⟩, c5⟩, ⟨c4, sc⟩⟩
noncomputable def laidWorldF (os : Os) : World :=
  (setVar (setVar (setVar (setVar (setVar (setVar (World.holding Tryd.prog os ⟨#[], #[], []⟩) 4 #[.int .i64 1, .int .i64 8]) 5 #[.int .i64 1, .int .i64 20]) 3 #[.int .i64 1, .int .i64 2]) 2 #[.int .i64 0, .int .i64 7]) 1 #[.int .i64 (-10), .int .i64 10]) 0 #[.int .i64 0, .int .i64 1, .int .i64 2, .int .i64 3, .int .i64 (-1), .int .i64 (-2), .int .i64 (-3), .int .i64 0])
theorem lenq6 {α : Type} {l : List α} (h : l.length = 6) : ∃ x0 x1 x2 x3 x4 x5, l = [x0, x1, x2, x3, x4, x5] := by
  match l, h with
  | [x0, x1, x2, x3, x4, x5], _ => exact ⟨_, _, _, _, _, _, rfl⟩

theorem cellsByte : Tryd.prog.cellsOf 5 = 1 := by kernel_rfl
set_option maxRecDepth 100000 in
/-- An argument that is a slice of bytes. -/
theorem rdBy_of_trod {H : Type} {enc : TypeId × Value → H} {W : World} {base : Nat} {v : Value} {d : DataW H} {p : List MemPlace}
    (hv : Value.okWide Tryd.prog W .any base 22 v) (h : DataW.Trod enc Tryd.prog W 0 (fun _ => true) true 22 v d p) : ∃ A n c, v = .slice A n c ∧ RdBy W A n ∧ n ≤ 9223372036854775807 := by
  obtain ⟨a0, len, cap, rfl⟩ := okWide_slice Tryd.underlying22 hv
  obtain ⟨fuel, hf⟩ := h
  rcases open_ints Tryd.underlying22 Tryd.underlying5 cellsByte hf with ⟨hcs, hx⟩ | ⟨a, len', cap', zs, hcs, _, hl, hm, hz, hx, hcell, hwz⟩
  · simp only [Value.cells, List.cons.injEq, Value.slice.injEq, and_true] at hcs
    obtain ⟨rfl, rfl, rfl⟩ := hcs
    exact ⟨none, 0, 0, rfl, fun h0 => absurd h0 (by omega), by omega⟩
  · simp only [Value.cells, List.cons.injEq, Value.slice.injEq, and_true] at hcs
    obtain ⟨rfl, rfl, rfl⟩ := hcs
    have hzl : len ≤ zs.length := by rw [hz]; simpa using hl
    refine ⟨some a, len, cap, rfl, fun h0 => ?_, by unfold maxLen at hm; omega⟩
    obtain ⟨b, off, rfl, hc⟩ := ints_at hcell (by omega)
    refine ⟨b, off, rfl, fun i hi => ?_⟩
    have hil : i < zs.length := by omega
    have hb := bounds_u8 (hwz (zs.getD i 0) (by rw [List.getD_eq_getElem?_getD, List.getElem?_eq_getElem hil]; exact List.getElem_mem hil))
    exact ⟨_, hb.1, hb.2, hc i hil⟩


set_option maxRecDepth 100000 in
theorem contract (H : Type) (enc : TypeId × Value → H) (W : World) (base : Nat) (args : Array Value) (ds gs : List (DataW H)) (before : List MemPlace)
    (hval : ∀ (j : Nat) t v, Tryd.f3.params[j]? = some t → args[j]? = some v → Value.okWide Tryd.prog W .any base t v)
    (hW : DataW.Whole enc Tryd.prog Tryd.f3.params.toList Rows.fnScoresSpec.vars false W args.toList ds gs before) (hL : laidMetH Tryd.prog Rows.fnScoresRow.laid W) :
    Calls Tryd.prog 3 args W fun e W' => ∃ v, e = .returned v ∧ Rows.fnScoresSpec.post enc Tryd.prog Tryd.f3 false true false false W args v W' := by
  have hW' := hW
  obtain ⟨p, q, hA0, hV, rfl, hfz, hnd⟩ := hW
  have hA : DataW.TrodAll enc Tryd.prog W 0 (fun _ => true) true Tryd.f3.params.toList args.toList ds p := hA0
  rw [Tryd.params3] at hA hval
  obtain ⟨v0, v1, d0, d1, p0, p1, rfl, rfl, rfl, h0, h1⟩ := trodAll_two hA
  obtain ⟨_, _, _, _, _, _, rfl⟩ := lenq6 (trodVars_len hV)
  obtain ⟨A0, n0, c0, rfl, hR0, hn0⟩ := rdBy_of_trod (hval 0 22 v0 rfl rfl) h0
  obtain ⟨A1, n1, c1, rfl, hR1, hn1⟩ := rdBy_of_trod (hval 1 22 v1 rfl rfl) h1
  refine (walk A0 A1 n0 n1 c0 c1 W hR0 hR1 hn0 hn1 (tabs_of hL)).mono fun e W' ⟨he, hg⟩ => ?_
  subst he
  exact ⟨_, rfl, law_post hW' laidOut (by kernel_rfl) (by kernel_rfl) (by kernel_rfl) Tryd.underlying4 rfl hg⟩

theorem laid_met (os : Os) : laidMet Tryd.prog Rows.fnScoresRow.laid ((laidWorldF os).forCall (fun _ _ => 0) ⟨#[], #[.slice none 0 0, .slice none 0 0], []⟩).memory :=
  laidMet_of_run' 8 (by kernel_rfl) (by kernel_rfl)
theorem reads (os : Os) {H : Type} (enc : TypeId × Value → H) : ∃ ds gs places, DataW.whole enc Tryd.prog ((laidWorldF os).forCall (fun _ _ => 0) ⟨#[], #[.slice none 0 0, .slice none 0 0], []⟩).memory Tryd.f3.params.toList Rows.fnScoresSpec.vars false #[.slice none 0 0, .slice none 0 0].toList 8 = some (ds, gs, places) :=
  ⟨[.nil, .nil], [Rows.laid_loop_example_g00886_impl_resultScores, Rows.laid_loop_example_g00886_impl_tableDiceSpan, Rows.laid_loop_example_g00886_impl_columnsSpan, Rows.laid_loop_example_g00886_impl_oddsSpan, Rows.laid_loop_example_g00886_impl_resultSpan, Rows.laid_loop_example_g00886_impl_columnShiftSpan], MemPlace.row ⟨0, 0, none⟩ 8 ++ (MemPlace.row ⟨3, 0, none⟩ 2 ++ (MemPlace.row ⟨4, 0, none⟩ 2 ++ (MemPlace.row ⟨5, 0, none⟩ 2 ++ (MemPlace.row ⟨2, 0, none⟩ 2 ++ (MemPlace.row ⟨1, 0, none⟩ 2))))), by kernel_rfl⟩

set_option maxRecDepth 100000 in
theorem lifted (os : Os) (started : os.Started) (H : Type) (enc : TypeId × Value → H) (F : Stop.Interp) :
    ReturnsInHanded {} Tryd.checked os 3 .any ((OpenSpec.ofChange Rows.fnScoresSpec).preRow enc Tryd.prog Tryd.f3 Rows.fnScoresRow.domain false Rows.fnScoresRow.laid) (((OpenSpec.ofChange Rows.fnScoresSpec).at F).post enc Tryd.prog Tryd.f3 false true false false) := by
  obtain ⟨ds, gs, places, hx⟩ := reads os enc
  refine returnsInHanded_of_row (C := Tryd.checked) (s := OpenSpec.ofChange Rows.fnScoresSpec) own started (by kernel_rfl) Tryd.func3
    (witness_row_at (enc := enc) (C := Tryd.checked) false (laidWorldF os) #[.slice none 0 0, .slice none 0 0] rfl (by kernel_rfl) (by kernel_rfl) (by kernel_rfl)
      (OpenSpec.preRow_of_cond 8 hx (by kernel_rfl) (fun k hk => by cases hk) (by kernel_rfl) (laid_met os))) ?_
  intro W base args ds gs before hval hW _ _ _ hL _ _
  exact contract H enc W base args ds gs before hval hW hL

theorem said : Rows.FnScoresSaid :=
  OpenClaim.holds_of_cond 3 Tryd.f3 rfl rfl rfl rfl rfl rfl rfl ⟨rfl, rfl, rfl, rfl, rfl⟩ rfl rfl rfl rfl rfl (by kernel_rfl) Tryd.func3 (by kernel_rfl)
    (of_decide_eq_true (by kernel_rfl)) (by unfold Func.isWrapper; first | (rw [if_pos (by decide +kernel)]; kernel_rfl) | (rw [if_neg (by decide +kernel)]; exact ⟨rfl, rfl⟩))
    (fun os started H enc _ F => by rw [OpenClaim.pre_eq_preRow]; exact lifted os started H enc F)

theorem plain (f : FuncId) (fn : Func) (hf : Tryd.pinned.checked.prog.funcNamed "loop.example/g00886/laws.FnScores" = some f) (hfn : Tryd.pinned.checked.prog.funcs[f]? = some fn) :
    false = Tryd.pinned.checked.prog.looks [] ∧ ∀ (j : Nat) t, fn.params[j]? = some t → Tryd.pinned.checked.prog.wantsStandIn t = false := by
  obtain rfl : f = 3 := Option.some.inj ((show Tryd.prog.funcNamed "loop.example/g00886/laws.FnScores" = some 3 by kernel_rfl).symm.trans hf) |>.symm
  obtain rfl : fn = Tryd.f3 := (Option.some.inj (Tryd.func3.symm.trans hfn)).symm
  refine ⟨by kernel_rfl, fun j t ht => ?_⟩
  rw [Tryd.params3] at ht
  have hm := Array.mem_of_getElem? ht
  simp only [List.mem_toArray, List.mem_cons, List.not_mem_nil, or_false] at hm
  rcases hm with rfl | rfl
  · exact (show Tryd.prog.wantsStandIn 22 = false by kernel_rfl)
  · exact (show Tryd.prog.wantsStandIn 22 = false by kernel_rfl)

/-- The card: the row, with what it lists tied to the program's text. -/
theorem card : Rows.FnScoresCardSaid :=
  Claim7.holds_tied_plain_at .later [] _ _ _ _ said (fun _ h => by cases h) (by kernel_rfl) (fun _ h => by cases h) fnScores_row_tie rfl ⟨rfl, rfl⟩ (by kernel_rfl) rfl plain (by kernel_rfl)
#print axioms card

end Go.Proofs.YtjpfmckoodalnaaDoor.fnScoresLaw
