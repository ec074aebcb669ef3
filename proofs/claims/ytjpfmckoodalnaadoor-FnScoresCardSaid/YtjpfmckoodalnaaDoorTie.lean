/-
  DERIVED. GIVEN WITH THE SEED: THE PROGRAM's TIES (one call each: nine closed facts by the kernel) AND EACH ROW's TIE, after the 31st guide's Derived/Test/Toyas{Tie, Card}.lean. No idea stands in it: it is a product of the set-up. Laid BY PROGRAM, IN A SANDBOX (cutbox-door.mjs). By AI agents, Wed Nov 11 2026. No macro, syntax, notation, axiom, sorry.
-/
import Derived.Test.YtjpfmckoodalnaaDoorRows
import Derived.LaidByTextLater
import Derived.SevenTiedAt
import Derived.LaidSub
import Derived.LaidOnce
namespace Go.Proofs.YtjpfmckoodalnaaDoor
open Go
set_option maxRecDepth 100000
theorem seatTie1 : Tryd.prog.laidByTextLater [("loop.example/g00886/impl.resultScores", Rows.laid_loop_example_g00886_impl_resultScores), ("loop.example/g00886/impl.columnsSpan", Rows.laid_loop_example_g00886_impl_columnsSpan), ("loop.example/g00886/impl.oddsSpan", Rows.laid_loop_example_g00886_impl_oddsSpan), ("loop.example/g00886/impl.tableDiceSpan", Rows.laid_loop_example_g00886_impl_tableDiceSpan), ("loop.example/g00886/impl.resultSpan", Rows.laid_loop_example_g00886_impl_resultSpan), ("loop.example/g00886/impl.columnShiftSpan", Rows.laid_loop_example_g00886_impl_columnShiftSpan)] [.data, .wider, .wider, .wider, .wider, .wider] true :=
  Program.laidByTextLater_by_one 39 8 9 (by kernel_rfl) (by kernel_rfl) (by kernel_rfl) (by kernel_rfl) (by kernel_rfl) (by kernel_rfl) (fun _ _ => by kernel_rfl)
theorem noOwnUnsafe : Tryd.pinned.checked.prog.headLifts.contains "ownunsafe" = false := by kernel_rfl
theorem tie : Tryd.prog.laidByTextLater [("loop.example/g00886/impl.resultScores", Rows.laid_loop_example_g00886_impl_resultScores), ("loop.example/g00886/impl.columnsSpan", Rows.laid_loop_example_g00886_impl_columnsSpan), ("loop.example/g00886/impl.oddsSpan", Rows.laid_loop_example_g00886_impl_oddsSpan), ("loop.example/g00886/impl.tableDiceSpan", Rows.laid_loop_example_g00886_impl_tableDiceSpan), ("loop.example/g00886/impl.resultSpan", Rows.laid_loop_example_g00886_impl_resultSpan), ("loop.example/g00886/impl.columnShiftSpan", Rows.laid_loop_example_g00886_impl_columnShiftSpan)] [.data, .wider, .wider, .wider, .wider, .wider] true :=
  Program.laidByTextLater.sub seatTie1 ["loop.example/g00886/impl.resultScores", "loop.example/g00886/impl.columnsSpan", "loop.example/g00886/impl.oddsSpan", "loop.example/g00886/impl.tableDiceSpan", "loop.example/g00886/impl.resultSpan", "loop.example/g00886/impl.columnShiftSpan"] (by kernel_rfl) (by kernel_rfl)
theorem fnScores_row_tie : Rows.fnScoresRow.laidByTextAt .later Tryd.pinned [.data, .wider, .wider, .wider, .wider, .wider] true :=
  OpenClaim.laidByTextAt_later rfl rfl tie noOwnUnsafe
theorem fnScoresUpto_row_tie : Rows.fnScoresUptoRow.laidByTextAt .later Tryd.pinned [.data, .wider, .wider, .wider, .wider, .wider] true :=
  OpenClaim.laidByTextAt_later rfl rfl tie noOwnUnsafe
end Go.Proofs.YtjpfmckoodalnaaDoor
