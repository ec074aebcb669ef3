/-
  The closed facts of the row on IsCombatTable.
-/
import Derived.Test.YtcdfbcmfpeceeaaDoorTabO
import Derived.JoinedCond
namespace Go.Proofs.YtcdfbcmfpeceeaaDoor.isCombatTableFacts
open Go.ChangeShapes Go.WideShapes Go.ChangeAt Go.RowKit Go.Joins

theorem closed : joinedFacts Tryd.pinned.checked.prog 5 Tryd.f5 (OpenSpec.ofChange Rows.fnExactIsCombatTableSpec).bare Rows.fnExactIsCombatTableRow = true := by kernel_rfl

end Go.Proofs.YtcdfbcmfpeceeaaDoor.isCombatTableFacts
