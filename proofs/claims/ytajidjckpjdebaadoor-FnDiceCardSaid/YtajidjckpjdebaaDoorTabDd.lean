/-
  What the row of the law on dice says of the named variables; a world for the witness in which they lie.
-/
import Derived.Test.YtajidjckpjdebaaDoorTabV
namespace Go.Proofs.YtajidjckpjdebaaDoor
open Go.ChangeShapes Go.WideShapes Go.ChangeAt Go.RowKit Go.Joins

theorem seedSpanG : Tryd.prog.globalNamed "loop.example/g00886/impl.seedSpan" = some 0 := by kernel_rfl
theorem seedSpanTy : (Tryd.prog.globals[0]?).map (·.type) = some 45 := by kernel_rfl
theorem dieNumberSpanG : Tryd.prog.globalNamed "loop.example/g00886/impl.dieNumberSpan" = some 1 := by kernel_rfl
theorem dieNumberSpanTy : (Tryd.prog.globals[1]?).map (·.type) = some 45 := by kernel_rfl
theorem diceSpanG : Tryd.prog.globalNamed "loop.example/g00886/impl.diceSpan" = some 2 := by kernel_rfl
theorem diceSpanTy : (Tryd.prog.globals[2]?).map (·.type) = some 45 := by kernel_rfl
theorem shuffledSpanG : Tryd.prog.globalNamed "loop.example/g00886/impl.shuffledSpan" = some 3 := by kernel_rfl
theorem shuffledSpanTy : (Tryd.prog.globals[3]?).map (·.type) = some 45 := by kernel_rfl
theorem belowSpanG : Tryd.prog.globalNamed "loop.example/g00886/impl.belowSpan" = some 4 := by kernel_rfl
theorem belowSpanTy : (Tryd.prog.globals[4]?).map (·.type) = some 45 := by kernel_rfl
theorem thrownSpanG : Tryd.prog.globalNamed "loop.example/g00886/impl.thrownSpan" = some 5 := by kernel_rfl
theorem thrownSpanTy : (Tryd.prog.globals[5]?).map (·.type) = some 45 := by kernel_rfl
theorem laidFnDice {W : World} (h : laidMetH Tryd.prog [("loop.example/g00886/impl.seedSpan", Rows.laid_loop_example_g00886_impl_seedSpan), ("loop.example/g00886/impl.dieNumberSpan", Rows.laid_loop_example_g00886_impl_dieNumberSpan), ("loop.example/g00886/impl.diceSpan", Rows.laid_loop_example_g00886_impl_diceSpan), ("loop.example/g00886/impl.belowSpan", Rows.laid_loop_example_g00886_impl_belowSpan), ("loop.example/g00886/impl.shuffledSpan", Rows.laid_loop_example_g00886_impl_shuffledSpan), ("loop.example/g00886/impl.thrownSpan", Rows.laid_loop_example_g00886_impl_thrownSpan)] W) : SpanAt W 0 0 4611686016279904236 ∧ SpanAt W 1 0 1000000 ∧ SpanAt W 2 0 8 ∧ SpanAt W 3 0 40 ∧ SpanAt W 4 1 1000000 ∧ SpanAt W 5 0 600 := by
  have h' : laidMet Tryd.prog [("loop.example/g00886/impl.seedSpan", Rows.laid_loop_example_g00886_impl_seedSpan), ("loop.example/g00886/impl.dieNumberSpan", Rows.laid_loop_example_g00886_impl_dieNumberSpan), ("loop.example/g00886/impl.diceSpan", Rows.laid_loop_example_g00886_impl_diceSpan), ("loop.example/g00886/impl.belowSpan", Rows.laid_loop_example_g00886_impl_belowSpan), ("loop.example/g00886/impl.shuffledSpan", Rows.laid_loop_example_g00886_impl_shuffledSpan), ("loop.example/g00886/impl.thrownSpan", Rows.laid_loop_example_g00886_impl_thrownSpan)] W := h
  obtain ⟨ps, hl, _⟩ := h'
  exact ⟨span_of seedSpanG seedSpanTy (laid_one hl (.head _)), span_of dieNumberSpanG dieNumberSpanTy (laid_one hl (.tail _ (.head _))), span_of diceSpanG diceSpanTy (laid_one hl (.tail _ (.tail _ (.head _)))), span_of shuffledSpanG shuffledSpanTy (laid_one hl (.tail _ (.tail _ (.tail _ (.tail _ (.head _)))))), span_of belowSpanG belowSpanTy (laid_one hl (.tail _ (.tail _ (.tail _ (.head _))))), span_of thrownSpanG thrownSpanTy (laid_one hl (.tail _ (.tail _ (.tail _ (.tail _ (.tail _ (.head _)))))))⟩
noncomputable def laidWorldDi (os : Os) : World :=
  (setVar (setVar (setVar (setVar (setVar (setVar (World.holding Tryd.prog os ⟨#[], #[], []⟩) 0 #[.int .i64 0, .int .i64 4611686016279904236]) 1 #[.int .i64 0, .int .i64 1000000]) 2 #[.int .i64 0, .int .i64 8]) 3 #[.int .i64 0, .int .i64 40]) 4 #[.int .i64 1, .int .i64 1000000]) 5 #[.int .i64 0, .int .i64 600])
theorem lenvD6 {α : Type} {l : List α} (h : l.length = 6) : ∃ x0 x1 x2 x3 x4 x5, l = [x0, x1, x2, x3, x4, x5] := by
  match l, h with
  | [x0, x1, x2, x3, x4, x5], _ => exact ⟨_, _, _, _, _, _, rfl⟩
end Go.Proofs.YtajidjckpjdebaaDoor
