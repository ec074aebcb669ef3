/-
  DERIVED. GIVEN WITH THE SEED: THE PROGRAM's TIES (one call each: nine closed facts by the kernel) AND EACH ROW's TIE, after the 31st guide's Derived/Test/Toyas{Tie, Card}.lean. No idea stands in it: it is a product of the set-up. Laid BY PROGRAM, IN A SANDBOX (cutbox-door.mjs). By AI agents, Wed Nov 11 2026. No macro, syntax, notation, axiom, sorry.
-/
import Derived.Test.YtjelgohdjmcoiaaDoorRows
import Derived.LaidByTextLater
import Derived.SevenTiedAt
import Derived.LaidSub
import Derived.LaidOnce
namespace Go.Proofs.YtjelgohdjmcoiaaDoor
open Go
set_option maxRecDepth 100000
theorem seatTie1 : Tryd.prog.laidByTextLater [("loop.example/g00886/impl.mixedSpan", Rows.laid_loop_example_g00886_impl_mixedSpan), ("loop.example/g00886/impl.seedSpan", Rows.laid_loop_example_g00886_impl_seedSpan), ("loop.example/g00886/impl.dieNumberSpan", Rows.laid_loop_example_g00886_impl_dieNumberSpan), ("loop.example/g00886/impl.diceSpan", Rows.laid_loop_example_g00886_impl_diceSpan), ("loop.example/g00886/impl.someDiceSpan", Rows.laid_loop_example_g00886_impl_someDiceSpan), ("loop.example/g00886/impl.belowSpan", Rows.laid_loop_example_g00886_impl_belowSpan), ("loop.example/g00886/impl.shuffledSpan", Rows.laid_loop_example_g00886_impl_shuffledSpan), ("loop.example/g00886/impl.diceSumSpan", Rows.laid_loop_example_g00886_impl_diceSumSpan), ("loop.example/g00886/impl.thrownSpan", Rows.laid_loop_example_g00886_impl_thrownSpan), ("loop.example/g00886/impl.faceSpan", Rows.laid_loop_example_g00886_impl_faceSpan)] [.wider, .wider, .wider, .wider, .wider, .wider, .wider, .wider, .wider, .wider] true :=
  Program.laidByTextLater_by_one 59 8 3 (by kernel_rfl) (by kernel_rfl) (by kernel_rfl) (by kernel_rfl) (by kernel_rfl) (by kernel_rfl) (fun _ _ => by kernel_rfl)
theorem noOwnUnsafe : Tryd.pinned.checked.prog.headLifts.contains "ownunsafe" = false := by kernel_rfl
theorem tie : Tryd.prog.laidByTextLater [("loop.example/g00886/impl.mixedSpan", Rows.laid_loop_example_g00886_impl_mixedSpan)] [.wider] true :=
  Program.laidByTextLater.sub seatTie1 ["loop.example/g00886/impl.mixedSpan"] (by kernel_rfl) (by kernel_rfl)
theorem fnExactMixNumbers_row_tie : Rows.fnExactMixNumbersRow.laidByTextAt .later Tryd.pinned [.wider] true :=
  OpenClaim.laidByTextAt_later rfl rfl tie noOwnUnsafe
theorem tie2 : Tryd.prog.laidByTextLater [("loop.example/g00886/impl.seedSpan", Rows.laid_loop_example_g00886_impl_seedSpan), ("loop.example/g00886/impl.dieNumberSpan", Rows.laid_loop_example_g00886_impl_dieNumberSpan)] [.wider, .wider] true :=
  Program.laidByTextLater.sub seatTie1 ["loop.example/g00886/impl.seedSpan", "loop.example/g00886/impl.dieNumberSpan"] (by kernel_rfl) (by kernel_rfl)
theorem fnExactDieAt_row_tie : Rows.fnExactDieAtRow.laidByTextAt .later Tryd.pinned [.wider, .wider] true :=
  OpenClaim.laidByTextAt_later rfl rfl tie2 noOwnUnsafe
theorem tie3 : Tryd.prog.laidByTextLater [("loop.example/g00886/impl.seedSpan", Rows.laid_loop_example_g00886_impl_seedSpan), ("loop.example/g00886/impl.dieNumberSpan", Rows.laid_loop_example_g00886_impl_dieNumberSpan), ("loop.example/g00886/impl.diceSpan", Rows.laid_loop_example_g00886_impl_diceSpan)] [.wider, .wider, .wider] true :=
  Program.laidByTextLater.sub seatTie1 ["loop.example/g00886/impl.seedSpan", "loop.example/g00886/impl.dieNumberSpan", "loop.example/g00886/impl.diceSpan"] (by kernel_rfl) (by kernel_rfl)
theorem fnExactDiceFrom_row_tie : Rows.fnExactDiceFromRow.laidByTextAt .later Tryd.pinned [.wider, .wider, .wider] true :=
  OpenClaim.laidByTextAt_later rfl rfl tie3 noOwnUnsafe
theorem tie4 : Tryd.prog.laidByTextLater [("loop.example/g00886/impl.seedSpan", Rows.laid_loop_example_g00886_impl_seedSpan), ("loop.example/g00886/impl.dieNumberSpan", Rows.laid_loop_example_g00886_impl_dieNumberSpan), ("loop.example/g00886/impl.belowSpan", Rows.laid_loop_example_g00886_impl_belowSpan)] [.wider, .wider, .wider] true :=
  Program.laidByTextLater.sub seatTie1 ["loop.example/g00886/impl.seedSpan", "loop.example/g00886/impl.dieNumberSpan", "loop.example/g00886/impl.belowSpan"] (by kernel_rfl) (by kernel_rfl)
theorem fnExactNumberBelow_row_tie : Rows.fnExactNumberBelowRow.laidByTextAt .later Tryd.pinned [.wider, .wider, .wider] true :=
  OpenClaim.laidByTextAt_later rfl rfl tie4 noOwnUnsafe
theorem tie5 : Tryd.prog.laidByTextLater [("loop.example/g00886/impl.seedSpan", Rows.laid_loop_example_g00886_impl_seedSpan), ("loop.example/g00886/impl.dieNumberSpan", Rows.laid_loop_example_g00886_impl_dieNumberSpan), ("loop.example/g00886/impl.belowSpan", Rows.laid_loop_example_g00886_impl_belowSpan), ("loop.example/g00886/impl.shuffledSpan", Rows.laid_loop_example_g00886_impl_shuffledSpan)] [.wider, .wider, .wider, .wider] true :=
  Program.laidByTextLater.sub seatTie1 ["loop.example/g00886/impl.seedSpan", "loop.example/g00886/impl.dieNumberSpan", "loop.example/g00886/impl.belowSpan", "loop.example/g00886/impl.shuffledSpan"] (by kernel_rfl) (by kernel_rfl)
theorem fnExactShuffleBy_row_tie : Rows.fnExactShuffleByRow.laidByTextAt .later Tryd.pinned [.wider, .wider, .wider, .wider] true :=
  OpenClaim.laidByTextAt_later rfl rfl tie5 noOwnUnsafe
theorem tie6 : Tryd.prog.laidByTextLater [("loop.example/g00886/impl.diceSpan", Rows.laid_loop_example_g00886_impl_diceSpan), ("loop.example/g00886/impl.diceSumSpan", Rows.laid_loop_example_g00886_impl_diceSumSpan)] [.wider, .wider] true :=
  Program.laidByTextLater.sub seatTie1 ["loop.example/g00886/impl.diceSpan", "loop.example/g00886/impl.diceSumSpan"] (by kernel_rfl) (by kernel_rfl)
theorem fnExactSumWays_row_tie : Rows.fnExactSumWaysRow.laidByTextAt .later Tryd.pinned [.wider, .wider] true :=
  OpenClaim.laidByTextAt_later rfl rfl tie6 noOwnUnsafe
theorem fnExactWaysAtLeast_row_tie : Rows.fnExactWaysAtLeastRow.laidByTextAt .later Tryd.pinned [.wider, .wider] true :=
  OpenClaim.laidByTextAt_later rfl rfl tie6 noOwnUnsafe
theorem tie7 : Tryd.prog.laidByTextLater [("loop.example/g00886/impl.seedSpan", Rows.laid_loop_example_g00886_impl_seedSpan), ("loop.example/g00886/impl.thrownSpan", Rows.laid_loop_example_g00886_impl_thrownSpan)] [.wider, .wider] true :=
  Program.laidByTextLater.sub seatTie1 ["loop.example/g00886/impl.seedSpan", "loop.example/g00886/impl.thrownSpan"] (by kernel_rfl) (by kernel_rfl)
theorem fnExactFacesOf_row_tie : Rows.fnExactFacesOfRow.laidByTextAt .later Tryd.pinned [.wider, .wider] true :=
  OpenClaim.laidByTextAt_later rfl rfl tie7 noOwnUnsafe
theorem tie8 : Tryd.prog.laidByTextLater [("loop.example/g00886/impl.someDiceSpan", Rows.laid_loop_example_g00886_impl_someDiceSpan), ("loop.example/g00886/impl.faceSpan", Rows.laid_loop_example_g00886_impl_faceSpan)] [.wider, .wider] true :=
  Program.laidByTextLater.sub seatTie1 ["loop.example/g00886/impl.someDiceSpan", "loop.example/g00886/impl.faceSpan"] (by kernel_rfl) (by kernel_rfl)
theorem fnExactGreatestOf_row_tie : Rows.fnExactGreatestOfRow.laidByTextAt .later Tryd.pinned [.wider, .wider] true :=
  OpenClaim.laidByTextAt_later rfl rfl tie8 noOwnUnsafe
theorem fnExactMixNumbersUpto_row_tie : Rows.fnExactMixNumbersUptoRow.laidByTextAt .later Tryd.pinned [.wider] true :=
  OpenClaim.laidByTextAt_later rfl rfl tie noOwnUnsafe
theorem fnExactDieAtUpto_row_tie : Rows.fnExactDieAtUptoRow.laidByTextAt .later Tryd.pinned [.wider, .wider] true :=
  OpenClaim.laidByTextAt_later rfl rfl tie2 noOwnUnsafe
theorem fnExactDiceFromUpto_row_tie : Rows.fnExactDiceFromUptoRow.laidByTextAt .later Tryd.pinned [.wider, .wider, .wider] true :=
  OpenClaim.laidByTextAt_later rfl rfl tie3 noOwnUnsafe
theorem fnExactNumberBelowUpto_row_tie : Rows.fnExactNumberBelowUptoRow.laidByTextAt .later Tryd.pinned [.wider, .wider, .wider] true :=
  OpenClaim.laidByTextAt_later rfl rfl tie4 noOwnUnsafe
theorem fnExactShuffleByUpto_row_tie : Rows.fnExactShuffleByUptoRow.laidByTextAt .later Tryd.pinned [.wider, .wider, .wider, .wider] true :=
  OpenClaim.laidByTextAt_later rfl rfl tie5 noOwnUnsafe
theorem fnExactSumWaysUpto_row_tie : Rows.fnExactSumWaysUptoRow.laidByTextAt .later Tryd.pinned [.wider, .wider] true :=
  OpenClaim.laidByTextAt_later rfl rfl tie6 noOwnUnsafe
theorem fnExactWaysAtLeastUpto_row_tie : Rows.fnExactWaysAtLeastUptoRow.laidByTextAt .later Tryd.pinned [.wider, .wider] true :=
  OpenClaim.laidByTextAt_later rfl rfl tie6 noOwnUnsafe
theorem fnExactFacesOfUpto_row_tie : Rows.fnExactFacesOfUptoRow.laidByTextAt .later Tryd.pinned [.wider, .wider] true :=
  OpenClaim.laidByTextAt_later rfl rfl tie7 noOwnUnsafe
theorem fnExactGreatestOfUpto_row_tie : Rows.fnExactGreatestOfUptoRow.laidByTextAt .later Tryd.pinned [.wider, .wider] true :=
  OpenClaim.laidByTextAt_later rfl rfl tie8 noOwnUnsafe
end Go.Proofs.YtjelgohdjmcoiaaDoor
