/-
  What the rows of chapter 12's laws say of the named variables; a world for the witness in which they lie.
-/
import Derived.Test.YtjelgohdjmcoiaaDoorTabV
namespace Go.Proofs.YtjelgohdjmcoiaaDoor
open Go.ChangeShapes Go.WideShapes Go.ChangeAt Go.RowKit Go.Joins

theorem mixedSpanG : Tryd.prog.globalNamed "loop.example/g00886/impl.mixedSpan" = some 0 := by kernel_rfl
theorem mixedSpanTy : (Tryd.prog.globals[0]?).map (·.type) = some 38 := by kernel_rfl
theorem seedSpanG : Tryd.prog.globalNamed "loop.example/g00886/impl.seedSpan" = some 1 := by kernel_rfl
theorem seedSpanTy : (Tryd.prog.globals[1]?).map (·.type) = some 38 := by kernel_rfl
theorem dieNumberSpanG : Tryd.prog.globalNamed "loop.example/g00886/impl.dieNumberSpan" = some 2 := by kernel_rfl
theorem dieNumberSpanTy : (Tryd.prog.globals[2]?).map (·.type) = some 38 := by kernel_rfl
theorem diceSpanG : Tryd.prog.globalNamed "loop.example/g00886/impl.diceSpan" = some 3 := by kernel_rfl
theorem diceSpanTy : (Tryd.prog.globals[3]?).map (·.type) = some 38 := by kernel_rfl
theorem belowSpanG : Tryd.prog.globalNamed "loop.example/g00886/impl.belowSpan" = some 4 := by kernel_rfl
theorem belowSpanTy : (Tryd.prog.globals[4]?).map (·.type) = some 38 := by kernel_rfl
theorem shuffledSpanG : Tryd.prog.globalNamed "loop.example/g00886/impl.shuffledSpan" = some 5 := by kernel_rfl
theorem shuffledSpanTy : (Tryd.prog.globals[5]?).map (·.type) = some 38 := by kernel_rfl
theorem diceSumSpanG : Tryd.prog.globalNamed "loop.example/g00886/impl.diceSumSpan" = some 6 := by kernel_rfl
theorem diceSumSpanTy : (Tryd.prog.globals[6]?).map (·.type) = some 38 := by kernel_rfl
theorem thrownSpanG : Tryd.prog.globalNamed "loop.example/g00886/impl.thrownSpan" = some 7 := by kernel_rfl
theorem thrownSpanTy : (Tryd.prog.globals[7]?).map (·.type) = some 38 := by kernel_rfl
theorem someDiceSpanG : Tryd.prog.globalNamed "loop.example/g00886/impl.someDiceSpan" = some 8 := by kernel_rfl
theorem someDiceSpanTy : (Tryd.prog.globals[8]?).map (·.type) = some 38 := by kernel_rfl
theorem faceSpanG : Tryd.prog.globalNamed "loop.example/g00886/impl.faceSpan" = some 9 := by kernel_rfl
theorem faceSpanTy : (Tryd.prog.globals[9]?).map (·.type) = some 38 := by kernel_rfl
theorem laidMixNumbers {W : World} (h : laidMetH Tryd.prog [("loop.example/g00886/impl.mixedSpan", Rows.laid_loop_example_g00886_impl_mixedSpan)] W) : SpanAt W 0 0 200 := by
  have h' : laidMet Tryd.prog [("loop.example/g00886/impl.mixedSpan", Rows.laid_loop_example_g00886_impl_mixedSpan)] W := h
  obtain ⟨ps, hl, _⟩ := h'
  exact span_of mixedSpanG mixedSpanTy (laid_one hl (.head _))
theorem laidDieAt {W : World} (h : laidMetH Tryd.prog [("loop.example/g00886/impl.seedSpan", Rows.laid_loop_example_g00886_impl_seedSpan), ("loop.example/g00886/impl.dieNumberSpan", Rows.laid_loop_example_g00886_impl_dieNumberSpan)] W) : SpanAt W 1 0 4611686016279904236 ∧ SpanAt W 2 0 1000000 := by
  have h' : laidMet Tryd.prog [("loop.example/g00886/impl.seedSpan", Rows.laid_loop_example_g00886_impl_seedSpan), ("loop.example/g00886/impl.dieNumberSpan", Rows.laid_loop_example_g00886_impl_dieNumberSpan)] W := h
  obtain ⟨ps, hl, _⟩ := h'
  exact ⟨span_of seedSpanG seedSpanTy (laid_one hl (.head _)), span_of dieNumberSpanG dieNumberSpanTy (laid_one hl (.tail _ (.head _)))⟩
theorem laidDiceFrom {W : World} (h : laidMetH Tryd.prog [("loop.example/g00886/impl.seedSpan", Rows.laid_loop_example_g00886_impl_seedSpan), ("loop.example/g00886/impl.dieNumberSpan", Rows.laid_loop_example_g00886_impl_dieNumberSpan), ("loop.example/g00886/impl.diceSpan", Rows.laid_loop_example_g00886_impl_diceSpan)] W) : SpanAt W 1 0 4611686016279904236 ∧ SpanAt W 2 0 1000000 ∧ SpanAt W 3 0 8 := by
  have h' : laidMet Tryd.prog [("loop.example/g00886/impl.seedSpan", Rows.laid_loop_example_g00886_impl_seedSpan), ("loop.example/g00886/impl.dieNumberSpan", Rows.laid_loop_example_g00886_impl_dieNumberSpan), ("loop.example/g00886/impl.diceSpan", Rows.laid_loop_example_g00886_impl_diceSpan)] W := h
  obtain ⟨ps, hl, _⟩ := h'
  exact ⟨span_of seedSpanG seedSpanTy (laid_one hl (.head _)), span_of dieNumberSpanG dieNumberSpanTy (laid_one hl (.tail _ (.head _))), span_of diceSpanG diceSpanTy (laid_one hl (.tail _ (.tail _ (.head _))))⟩
theorem laidNumberBelow {W : World} (h : laidMetH Tryd.prog [("loop.example/g00886/impl.seedSpan", Rows.laid_loop_example_g00886_impl_seedSpan), ("loop.example/g00886/impl.dieNumberSpan", Rows.laid_loop_example_g00886_impl_dieNumberSpan), ("loop.example/g00886/impl.belowSpan", Rows.laid_loop_example_g00886_impl_belowSpan)] W) : SpanAt W 1 0 4611686016279904236 ∧ SpanAt W 2 0 1000000 ∧ SpanAt W 4 1 1000000 := by
  have h' : laidMet Tryd.prog [("loop.example/g00886/impl.seedSpan", Rows.laid_loop_example_g00886_impl_seedSpan), ("loop.example/g00886/impl.dieNumberSpan", Rows.laid_loop_example_g00886_impl_dieNumberSpan), ("loop.example/g00886/impl.belowSpan", Rows.laid_loop_example_g00886_impl_belowSpan)] W := h
  obtain ⟨ps, hl, _⟩ := h'
  exact ⟨span_of seedSpanG seedSpanTy (laid_one hl (.head _)), span_of dieNumberSpanG dieNumberSpanTy (laid_one hl (.tail _ (.head _))), span_of belowSpanG belowSpanTy (laid_one hl (.tail _ (.tail _ (.head _))))⟩
theorem laidShuffleBy {W : World} (h : laidMetH Tryd.prog [("loop.example/g00886/impl.seedSpan", Rows.laid_loop_example_g00886_impl_seedSpan), ("loop.example/g00886/impl.shuffledSpan", Rows.laid_loop_example_g00886_impl_shuffledSpan), ("loop.example/g00886/impl.dieNumberSpan", Rows.laid_loop_example_g00886_impl_dieNumberSpan), ("loop.example/g00886/impl.belowSpan", Rows.laid_loop_example_g00886_impl_belowSpan)] W) : SpanAt W 1 0 4611686016279904236 ∧ SpanAt W 5 0 40 ∧ SpanAt W 2 0 1000000 ∧ SpanAt W 4 1 1000000 := by
  have h' : laidMet Tryd.prog [("loop.example/g00886/impl.seedSpan", Rows.laid_loop_example_g00886_impl_seedSpan), ("loop.example/g00886/impl.shuffledSpan", Rows.laid_loop_example_g00886_impl_shuffledSpan), ("loop.example/g00886/impl.dieNumberSpan", Rows.laid_loop_example_g00886_impl_dieNumberSpan), ("loop.example/g00886/impl.belowSpan", Rows.laid_loop_example_g00886_impl_belowSpan)] W := h
  obtain ⟨ps, hl, _⟩ := h'
  exact ⟨span_of seedSpanG seedSpanTy (laid_one hl (.head _)), span_of shuffledSpanG shuffledSpanTy (laid_one hl (.tail _ (.head _))), span_of dieNumberSpanG dieNumberSpanTy (laid_one hl (.tail _ (.tail _ (.head _)))), span_of belowSpanG belowSpanTy (laid_one hl (.tail _ (.tail _ (.tail _ (.head _)))))⟩
theorem laidSumWays {W : World} (h : laidMetH Tryd.prog [("loop.example/g00886/impl.diceSpan", Rows.laid_loop_example_g00886_impl_diceSpan), ("loop.example/g00886/impl.diceSumSpan", Rows.laid_loop_example_g00886_impl_diceSumSpan)] W) : SpanAt W 3 0 8 ∧ SpanAt W 6 (-100) 100 := by
  have h' : laidMet Tryd.prog [("loop.example/g00886/impl.diceSpan", Rows.laid_loop_example_g00886_impl_diceSpan), ("loop.example/g00886/impl.diceSumSpan", Rows.laid_loop_example_g00886_impl_diceSumSpan)] W := h
  obtain ⟨ps, hl, _⟩ := h'
  exact ⟨span_of diceSpanG diceSpanTy (laid_one hl (.head _)), span_of diceSumSpanG diceSumSpanTy (laid_one hl (.tail _ (.head _)))⟩
theorem laidWaysAtLeast {W : World} (h : laidMetH Tryd.prog [("loop.example/g00886/impl.diceSpan", Rows.laid_loop_example_g00886_impl_diceSpan), ("loop.example/g00886/impl.diceSumSpan", Rows.laid_loop_example_g00886_impl_diceSumSpan)] W) : SpanAt W 3 0 8 ∧ SpanAt W 6 (-100) 100 := by
  have h' : laidMet Tryd.prog [("loop.example/g00886/impl.diceSpan", Rows.laid_loop_example_g00886_impl_diceSpan), ("loop.example/g00886/impl.diceSumSpan", Rows.laid_loop_example_g00886_impl_diceSumSpan)] W := h
  obtain ⟨ps, hl, _⟩ := h'
  exact ⟨span_of diceSpanG diceSpanTy (laid_one hl (.head _)), span_of diceSumSpanG diceSumSpanTy (laid_one hl (.tail _ (.head _)))⟩
theorem laidFacesOf {W : World} (h : laidMetH Tryd.prog [("loop.example/g00886/impl.seedSpan", Rows.laid_loop_example_g00886_impl_seedSpan), ("loop.example/g00886/impl.thrownSpan", Rows.laid_loop_example_g00886_impl_thrownSpan)] W) : SpanAt W 1 0 4611686016279904236 ∧ SpanAt W 7 0 600 := by
  have h' : laidMet Tryd.prog [("loop.example/g00886/impl.seedSpan", Rows.laid_loop_example_g00886_impl_seedSpan), ("loop.example/g00886/impl.thrownSpan", Rows.laid_loop_example_g00886_impl_thrownSpan)] W := h
  obtain ⟨ps, hl, _⟩ := h'
  exact ⟨span_of seedSpanG seedSpanTy (laid_one hl (.head _)), span_of thrownSpanG thrownSpanTy (laid_one hl (.tail _ (.head _)))⟩
theorem laidGreatestOf {W : World} (h : laidMetH Tryd.prog [("loop.example/g00886/impl.someDiceSpan", Rows.laid_loop_example_g00886_impl_someDiceSpan), ("loop.example/g00886/impl.faceSpan", Rows.laid_loop_example_g00886_impl_faceSpan)] W) : SpanAt W 8 1 8 ∧ SpanAt W 9 1 6 := by
  have h' : laidMet Tryd.prog [("loop.example/g00886/impl.someDiceSpan", Rows.laid_loop_example_g00886_impl_someDiceSpan), ("loop.example/g00886/impl.faceSpan", Rows.laid_loop_example_g00886_impl_faceSpan)] W := h
  obtain ⟨ps, hl, _⟩ := h'
  exact ⟨span_of someDiceSpanG someDiceSpanTy (laid_one hl (.head _)), span_of faceSpanG faceSpanTy (laid_one hl (.tail _ (.head _)))⟩
noncomputable def laidWorldDi (os : Os) : World :=
  (setVar (setVar (setVar (setVar (setVar (setVar (setVar (setVar (setVar (setVar (World.holding Tryd.prog os ⟨#[], #[], []⟩) 0 #[.int .i64 0, .int .i64 200]) 1 #[.int .i64 0, .int .i64 4611686016279904236]) 2 #[.int .i64 0, .int .i64 1000000]) 3 #[.int .i64 0, .int .i64 8]) 4 #[.int .i64 1, .int .i64 1000000]) 5 #[.int .i64 0, .int .i64 40]) 6 #[.int .i64 (-100), .int .i64 100]) 7 #[.int .i64 0, .int .i64 600]) 8 #[.int .i64 1, .int .i64 8]) 9 #[.int .i64 1, .int .i64 6])
theorem lenvD1 {α : Type} {l : List α} (h : l.length = 1) : ∃ x0, l = [x0] := by
  match l, h with
  | [x0], _ => exact ⟨_, rfl⟩
theorem lenvD2 {α : Type} {l : List α} (h : l.length = 2) : ∃ x0 x1, l = [x0, x1] := by
  match l, h with
  | [x0, x1], _ => exact ⟨_, _, rfl⟩
theorem lenvD3 {α : Type} {l : List α} (h : l.length = 3) : ∃ x0 x1 x2, l = [x0, x1, x2] := by
  match l, h with
  | [x0, x1, x2], _ => exact ⟨_, _, _, rfl⟩
theorem lenvD4 {α : Type} {l : List α} (h : l.length = 4) : ∃ x0 x1 x2 x3, l = [x0, x1, x2, x3] := by
  match l, h with
  | [x0, x1, x2, x3], _ => exact ⟨_, _, _, _, rfl⟩
end Go.Proofs.YtjelgohdjmcoiaaDoor
