/-
  The closed facts of the row on ColumnFor.
-/
import Derived.Test.YtcdfbcmfpeceeaaDoorTabO
import Derived.JoinedCond
namespace Go.Proofs.YtcdfbcmfpeceeaaDoor.columnForFacts
open Go.ChangeShapes Go.WideShapes Go.ChangeAt Go.RowKit Go.Joins

theorem closed : joinedFacts Tryd.pinned.checked.prog 6 Tryd.f6 (OpenSpec.ofChange Rows.fnExactColumnForSpec).bare Rows.fnExactColumnForRow = true := by kernel_rfl

end Go.Proofs.YtcdfbcmfpeceeaaDoor.columnForFacts
