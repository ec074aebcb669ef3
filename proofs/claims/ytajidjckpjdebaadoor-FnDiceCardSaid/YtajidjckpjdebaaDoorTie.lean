/-
  DERIVED. GIVEN WITH THE SEED: THE PROGRAM's TIES (one call each: nine closed facts by the kernel) AND EACH ROW's TIE, after the 31st guide's Derived/Test/Toyas{Tie, Card}.lean. No idea stands in it: it is a product of the set-up. Laid BY PROGRAM, IN A SANDBOX (cutbox-door.mjs). By AI agents, Wed Nov 11 2026. No macro, syntax, notation, axiom, sorry.
-/
import Derived.Test.YtajidjckpjdebaaDoorRows
import Derived.LaidByTextLater
import Derived.SevenTiedAt
import Derived.LaidSub
import Derived.LaidOnce
namespace Go.Proofs.YtajidjckpjdebaaDoor
open Go
set_option maxRecDepth 100000
theorem seatTie1 : Tryd.prog.laidByTextLater [("loop.example/g00886/impl.seedSpan", Rows.laid_loop_example_g00886_impl_seedSpan), ("loop.example/g00886/impl.dieNumberSpan", Rows.laid_loop_example_g00886_impl_dieNumberSpan), ("loop.example/g00886/impl.diceSpan", Rows.laid_loop_example_g00886_impl_diceSpan), ("loop.example/g00886/impl.belowSpan", Rows.laid_loop_example_g00886_impl_belowSpan), ("loop.example/g00886/impl.shuffledSpan", Rows.laid_loop_example_g00886_impl_shuffledSpan), ("loop.example/g00886/impl.thrownSpan", Rows.laid_loop_example_g00886_impl_thrownSpan)] [.wider, .wider, .wider, .wider, .wider, .wider] true :=
  Program.laidByTextLater_by_one 39 8 3 (by kernel_rfl) (by kernel_rfl) (by kernel_rfl) (by kernel_rfl) (by kernel_rfl) (by kernel_rfl) (fun _ _ => by kernel_rfl)
theorem noOwnUnsafe : Tryd.pinned.checked.prog.headLifts.contains "ownunsafe" = false := by kernel_rfl
theorem tie : Tryd.prog.laidByTextLater [("loop.example/g00886/impl.seedSpan", Rows.laid_loop_example_g00886_impl_seedSpan), ("loop.example/g00886/impl.dieNumberSpan", Rows.laid_loop_example_g00886_impl_dieNumberSpan), ("loop.example/g00886/impl.diceSpan", Rows.laid_loop_example_g00886_impl_diceSpan), ("loop.example/g00886/impl.belowSpan", Rows.laid_loop_example_g00886_impl_belowSpan), ("loop.example/g00886/impl.shuffledSpan", Rows.laid_loop_example_g00886_impl_shuffledSpan), ("loop.example/g00886/impl.thrownSpan", Rows.laid_loop_example_g00886_impl_thrownSpan)] [.wider, .wider, .wider, .wider, .wider, .wider] true :=
  Program.laidByTextLater.sub seatTie1 ["loop.example/g00886/impl.seedSpan", "loop.example/g00886/impl.dieNumberSpan", "loop.example/g00886/impl.diceSpan", "loop.example/g00886/impl.belowSpan", "loop.example/g00886/impl.shuffledSpan", "loop.example/g00886/impl.thrownSpan"] (by kernel_rfl) (by kernel_rfl)
theorem fnDice_row_tie : Rows.fnDiceRow.laidByTextAt .later Tryd.pinned [.wider, .wider, .wider, .wider, .wider, .wider] true :=
  OpenClaim.laidByTextAt_later rfl rfl tie noOwnUnsafe
theorem fnDiceUpto_row_tie : Rows.fnDiceUptoRow.laidByTextAt .later Tryd.pinned [.wider, .wider, .wider, .wider, .wider, .wider] true :=
  OpenClaim.laidByTextAt_later rfl rfl tie noOwnUnsafe
end Go.Proofs.YtajidjckpjdebaaDoor
