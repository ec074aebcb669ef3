/-
  DERIVED. GIVEN WITH THE SEED: THE PROGRAM's TIES (one call each: nine closed facts by the kernel) AND EACH ROW's TIE, after the 31st guide's Derived/Test/Toyas{Tie, Card}.lean. No idea stands in it: it is a product of the set-up. Laid BY PROGRAM, IN A SANDBOX (cutbox-door.mjs). By AI agents, Wed Nov 11 2026. No macro, syntax, notation, axiom, sorry.
-/
import Derived.Test.YtkkcnofplddbmaaDoorRows
import Derived.LaidByTextLater
import Derived.SevenTiedAt
import Derived.LaidSub
import Derived.LaidOnce
namespace Go.Proofs.YtkkcnofplddbmaaDoor
open Go
set_option maxRecDepth 100000
theorem seatTie1 : Tryd.prog.laidByTextLater [("loop.example/g00886/impl.directionSteps", Rows.laid_loop_example_g00886_impl_directionSteps), ("loop.example/g00886/impl.terrainsSpan", Rows.laid_loop_example_g00886_impl_terrainsSpan), ("loop.example/g00886/impl.costSpan", Rows.laid_loop_example_g00886_impl_costSpan), ("loop.example/g00886/impl.shiftSpan", Rows.laid_loop_example_g00886_impl_shiftSpan), ("loop.example/g00886/impl.heightSpan", Rows.laid_loop_example_g00886_impl_heightSpan), ("loop.example/g00886/impl.kindsSpan", Rows.laid_loop_example_g00886_impl_kindsSpan), ("loop.example/g00886/impl.strengthSpan", Rows.laid_loop_example_g00886_impl_strengthSpan), ("loop.example/g00886/impl.movesSpan", Rows.laid_loop_example_g00886_impl_movesSpan), ("loop.example/g00886/impl.stepsSpan", Rows.laid_loop_example_g00886_impl_stepsSpan), ("loop.example/g00886/impl.viewSpan", Rows.laid_loop_example_g00886_impl_viewSpan), ("loop.example/g00886/impl.stackSpan", Rows.laid_loop_example_g00886_impl_stackSpan), ("loop.example/g00886/impl.riverSpan", Rows.laid_loop_example_g00886_impl_riverSpan), ("loop.example/g00886/impl.roadSpan", Rows.laid_loop_example_g00886_impl_roadSpan), ("loop.example/g00886/impl.supplySpan", Rows.laid_loop_example_g00886_impl_supplySpan), ("loop.example/g00886/impl.turnsSpan", Rows.laid_loop_example_g00886_impl_turnsSpan)] [.wider, .wider, .wider, .wider, .wider, .wider, .wider, .wider, .wider, .wider, .wider, .wider, .wider, .wider, .wider] true :=
  Program.laidByTextLater_by_one 90 8 13 (by kernel_rfl) (by kernel_rfl) (by kernel_rfl) (by kernel_rfl) (by kernel_rfl) (by kernel_rfl) (fun _ _ => by kernel_rfl)
theorem noOwnUnsafe : Tryd.pinned.checked.prog.headLifts.contains "ownunsafe" = false := by kernel_rfl
theorem tie : Tryd.prog.laidByTextLater [("loop.example/g00886/impl.terrainsSpan", Rows.laid_loop_example_g00886_impl_terrainsSpan), ("loop.example/g00886/impl.costSpan", Rows.laid_loop_example_g00886_impl_costSpan), ("loop.example/g00886/impl.shiftSpan", Rows.laid_loop_example_g00886_impl_shiftSpan), ("loop.example/g00886/impl.heightSpan", Rows.laid_loop_example_g00886_impl_heightSpan), ("loop.example/g00886/impl.kindsSpan", Rows.laid_loop_example_g00886_impl_kindsSpan), ("loop.example/g00886/impl.strengthSpan", Rows.laid_loop_example_g00886_impl_strengthSpan), ("loop.example/g00886/impl.movesSpan", Rows.laid_loop_example_g00886_impl_movesSpan), ("loop.example/g00886/impl.stepsSpan", Rows.laid_loop_example_g00886_impl_stepsSpan), ("loop.example/g00886/impl.viewSpan", Rows.laid_loop_example_g00886_impl_viewSpan), ("loop.example/g00886/impl.stackSpan", Rows.laid_loop_example_g00886_impl_stackSpan), ("loop.example/g00886/impl.riverSpan", Rows.laid_loop_example_g00886_impl_riverSpan), ("loop.example/g00886/impl.roadSpan", Rows.laid_loop_example_g00886_impl_roadSpan), ("loop.example/g00886/impl.supplySpan", Rows.laid_loop_example_g00886_impl_supplySpan), ("loop.example/g00886/impl.turnsSpan", Rows.laid_loop_example_g00886_impl_turnsSpan)] [.wider, .wider, .wider, .wider, .wider, .wider, .wider, .wider, .wider, .wider, .wider, .wider, .wider, .wider] true :=
  Program.laidByTextLater.sub seatTie1 ["loop.example/g00886/impl.terrainsSpan", "loop.example/g00886/impl.costSpan", "loop.example/g00886/impl.shiftSpan", "loop.example/g00886/impl.heightSpan", "loop.example/g00886/impl.kindsSpan", "loop.example/g00886/impl.strengthSpan", "loop.example/g00886/impl.movesSpan", "loop.example/g00886/impl.stepsSpan", "loop.example/g00886/impl.viewSpan", "loop.example/g00886/impl.stackSpan", "loop.example/g00886/impl.riverSpan", "loop.example/g00886/impl.roadSpan", "loop.example/g00886/impl.supplySpan", "loop.example/g00886/impl.turnsSpan"] (by kernel_rfl) (by kernel_rfl)
theorem fnExactIsRules_row_tie : Rows.fnExactIsRulesRow.laidByTextAt .later Tryd.pinned [.wider, .wider, .wider, .wider, .wider, .wider, .wider, .wider, .wider, .wider, .wider, .wider, .wider, .wider] true :=
  OpenClaim.laidByTextAt_later rfl rfl tie noOwnUnsafe
theorem fnExactTerrainNamed_row_tie : Rows.fnExactTerrainNamedRow.laidByTextAt .later Tryd.pinned [.wider, .wider, .wider, .wider, .wider, .wider, .wider, .wider, .wider, .wider, .wider, .wider, .wider, .wider] true :=
  OpenClaim.laidByTextAt_later rfl rfl tie noOwnUnsafe
theorem fnExactKindNamed_row_tie : Rows.fnExactKindNamedRow.laidByTextAt .later Tryd.pinned [.wider, .wider, .wider, .wider, .wider, .wider, .wider, .wider, .wider, .wider, .wider, .wider, .wider, .wider] true :=
  OpenClaim.laidByTextAt_later rfl rfl tie noOwnUnsafe
theorem tie2 : Tryd.prog.laidByTextLater [("loop.example/g00886/impl.directionSteps", Rows.laid_loop_example_g00886_impl_directionSteps), ("loop.example/g00886/impl.terrainsSpan", Rows.laid_loop_example_g00886_impl_terrainsSpan), ("loop.example/g00886/impl.costSpan", Rows.laid_loop_example_g00886_impl_costSpan), ("loop.example/g00886/impl.shiftSpan", Rows.laid_loop_example_g00886_impl_shiftSpan), ("loop.example/g00886/impl.heightSpan", Rows.laid_loop_example_g00886_impl_heightSpan), ("loop.example/g00886/impl.kindsSpan", Rows.laid_loop_example_g00886_impl_kindsSpan), ("loop.example/g00886/impl.strengthSpan", Rows.laid_loop_example_g00886_impl_strengthSpan), ("loop.example/g00886/impl.movesSpan", Rows.laid_loop_example_g00886_impl_movesSpan), ("loop.example/g00886/impl.stepsSpan", Rows.laid_loop_example_g00886_impl_stepsSpan), ("loop.example/g00886/impl.viewSpan", Rows.laid_loop_example_g00886_impl_viewSpan), ("loop.example/g00886/impl.stackSpan", Rows.laid_loop_example_g00886_impl_stackSpan), ("loop.example/g00886/impl.riverSpan", Rows.laid_loop_example_g00886_impl_riverSpan), ("loop.example/g00886/impl.roadSpan", Rows.laid_loop_example_g00886_impl_roadSpan), ("loop.example/g00886/impl.supplySpan", Rows.laid_loop_example_g00886_impl_supplySpan), ("loop.example/g00886/impl.turnsSpan", Rows.laid_loop_example_g00886_impl_turnsSpan)] [.wider, .wider, .wider, .wider, .wider, .wider, .wider, .wider, .wider, .wider, .wider, .wider, .wider, .wider, .wider] true :=
  Program.laidByTextLater.sub seatTie1 ["loop.example/g00886/impl.directionSteps", "loop.example/g00886/impl.terrainsSpan", "loop.example/g00886/impl.costSpan", "loop.example/g00886/impl.shiftSpan", "loop.example/g00886/impl.heightSpan", "loop.example/g00886/impl.kindsSpan", "loop.example/g00886/impl.strengthSpan", "loop.example/g00886/impl.movesSpan", "loop.example/g00886/impl.stepsSpan", "loop.example/g00886/impl.viewSpan", "loop.example/g00886/impl.stackSpan", "loop.example/g00886/impl.riverSpan", "loop.example/g00886/impl.roadSpan", "loop.example/g00886/impl.supplySpan", "loop.example/g00886/impl.turnsSpan"] (by kernel_rfl) (by kernel_rfl)
theorem fnExactIsBoard_row_tie : Rows.fnExactIsBoardRow.laidByTextAt .later Tryd.pinned [.wider, .wider, .wider, .wider, .wider, .wider, .wider, .wider, .wider, .wider, .wider, .wider, .wider, .wider, .wider] true :=
  OpenClaim.laidByTextAt_later rfl rfl tie2 noOwnUnsafe
theorem fnExactEnterCost_row_tie : Rows.fnExactEnterCostRow.laidByTextAt .later Tryd.pinned [.wider, .wider, .wider, .wider, .wider, .wider, .wider, .wider, .wider, .wider, .wider, .wider, .wider, .wider, .wider] true :=
  OpenClaim.laidByTextAt_later rfl rfl tie2 noOwnUnsafe
theorem fnExactOpenHexes_row_tie : Rows.fnExactOpenHexesRow.laidByTextAt .later Tryd.pinned [.wider, .wider, .wider, .wider, .wider, .wider, .wider, .wider, .wider, .wider, .wider, .wider, .wider, .wider, .wider] true :=
  OpenClaim.laidByTextAt_later rfl rfl tie2 noOwnUnsafe
theorem fnExactStuckKinds_row_tie : Rows.fnExactStuckKindsRow.laidByTextAt .later Tryd.pinned [.wider, .wider, .wider, .wider, .wider, .wider, .wider, .wider, .wider, .wider, .wider, .wider, .wider, .wider, .wider] true :=
  OpenClaim.laidByTextAt_later rfl rfl tie2 noOwnUnsafe
theorem fnExactUnusedTerrains_row_tie : Rows.fnExactUnusedTerrainsRow.laidByTextAt .later Tryd.pinned [.wider, .wider, .wider, .wider, .wider, .wider, .wider, .wider, .wider, .wider, .wider, .wider, .wider, .wider, .wider] true :=
  OpenClaim.laidByTextAt_later rfl rfl tie2 noOwnUnsafe
theorem fnExactMissingTerrains_row_tie : Rows.fnExactMissingTerrainsRow.laidByTextAt .later Tryd.pinned [.wider, .wider, .wider, .wider, .wider, .wider, .wider, .wider, .wider, .wider, .wider, .wider, .wider, .wider, .wider] true :=
  OpenClaim.laidByTextAt_later rfl rfl tie2 noOwnUnsafe
theorem tie3 : Tryd.prog.laidByTextLater [("loop.example/g00886/impl.directionSteps", Rows.laid_loop_example_g00886_impl_directionSteps)] [.wider] true :=
  Program.laidByTextLater.sub seatTie1 ["loop.example/g00886/impl.directionSteps"] (by kernel_rfl) (by kernel_rfl)
theorem fnExactMirrorMap_row_tie : Rows.fnExactMirrorMapRow.laidByTextAt .later Tryd.pinned [.wider] true :=
  OpenClaim.laidByTextAt_later rfl rfl tie3 noOwnUnsafe
theorem fnExactIsRulesUpto_row_tie : Rows.fnExactIsRulesUptoRow.laidByTextAt .later Tryd.pinned [.wider, .wider, .wider, .wider, .wider, .wider, .wider, .wider, .wider, .wider, .wider, .wider, .wider, .wider] true :=
  OpenClaim.laidByTextAt_later rfl rfl tie noOwnUnsafe
theorem fnExactIsBoardUpto_row_tie : Rows.fnExactIsBoardUptoRow.laidByTextAt .later Tryd.pinned [.wider, .wider, .wider, .wider, .wider, .wider, .wider, .wider, .wider, .wider, .wider, .wider, .wider, .wider, .wider] true :=
  OpenClaim.laidByTextAt_later rfl rfl tie2 noOwnUnsafe
theorem fnExactTerrainNamedUpto_row_tie : Rows.fnExactTerrainNamedUptoRow.laidByTextAt .later Tryd.pinned [.wider, .wider, .wider, .wider, .wider, .wider, .wider, .wider, .wider, .wider, .wider, .wider, .wider, .wider] true :=
  OpenClaim.laidByTextAt_later rfl rfl tie noOwnUnsafe
theorem fnExactKindNamedUpto_row_tie : Rows.fnExactKindNamedUptoRow.laidByTextAt .later Tryd.pinned [.wider, .wider, .wider, .wider, .wider, .wider, .wider, .wider, .wider, .wider, .wider, .wider, .wider, .wider] true :=
  OpenClaim.laidByTextAt_later rfl rfl tie noOwnUnsafe
theorem fnExactEnterCostUpto_row_tie : Rows.fnExactEnterCostUptoRow.laidByTextAt .later Tryd.pinned [.wider, .wider, .wider, .wider, .wider, .wider, .wider, .wider, .wider, .wider, .wider, .wider, .wider, .wider, .wider] true :=
  OpenClaim.laidByTextAt_later rfl rfl tie2 noOwnUnsafe
theorem fnExactOpenHexesUpto_row_tie : Rows.fnExactOpenHexesUptoRow.laidByTextAt .later Tryd.pinned [.wider, .wider, .wider, .wider, .wider, .wider, .wider, .wider, .wider, .wider, .wider, .wider, .wider, .wider, .wider] true :=
  OpenClaim.laidByTextAt_later rfl rfl tie2 noOwnUnsafe
theorem fnExactStuckKindsUpto_row_tie : Rows.fnExactStuckKindsUptoRow.laidByTextAt .later Tryd.pinned [.wider, .wider, .wider, .wider, .wider, .wider, .wider, .wider, .wider, .wider, .wider, .wider, .wider, .wider, .wider] true :=
  OpenClaim.laidByTextAt_later rfl rfl tie2 noOwnUnsafe
theorem fnExactUnusedTerrainsUpto_row_tie : Rows.fnExactUnusedTerrainsUptoRow.laidByTextAt .later Tryd.pinned [.wider, .wider, .wider, .wider, .wider, .wider, .wider, .wider, .wider, .wider, .wider, .wider, .wider, .wider, .wider] true :=
  OpenClaim.laidByTextAt_later rfl rfl tie2 noOwnUnsafe
theorem fnExactMissingTerrainsUpto_row_tie : Rows.fnExactMissingTerrainsUptoRow.laidByTextAt .later Tryd.pinned [.wider, .wider, .wider, .wider, .wider, .wider, .wider, .wider, .wider, .wider, .wider, .wider, .wider, .wider, .wider] true :=
  OpenClaim.laidByTextAt_later rfl rfl tie2 noOwnUnsafe
theorem fnExactMirrorMapUpto_row_tie : Rows.fnExactMirrorMapUptoRow.laidByTextAt .later Tryd.pinned [.wider] true :=
  OpenClaim.laidByTextAt_later rfl rfl tie3 noOwnUnsafe
end Go.Proofs.YtkkcnofplddbmaaDoor
