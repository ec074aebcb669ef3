/-
  The closed facts of the row on CountResults.
-/
import Derived.Test.YtcdfbcmfpeceeaaDoorTabO
import Derived.JoinedCond
namespace Go.Proofs.YtcdfbcmfpeceeaaDoor.countResultsFacts
open Go.ChangeShapes Go.WideShapes Go.ChangeAt Go.RowKit Go.Joins

theorem closed : joinedFacts Tryd.pinned.checked.prog 11 Tryd.f11 (OpenSpec.ofChange Rows.fnExactCountResultsSpec).bare Rows.fnExactCountResultsRow = true := by kernel_rfl

end Go.Proofs.YtcdfbcmfpeceeaaDoor.countResultsFacts
