/-
  The closed facts of the row on IsMonotone.
-/
import Derived.Test.YtcdfbcmfpeceeaaDoorTabO
import Derived.JoinedCond
namespace Go.Proofs.YtcdfbcmfpeceeaaDoor.isMonotoneFacts
open Go.ChangeShapes Go.WideShapes Go.ChangeAt Go.RowKit Go.Joins

theorem closed : joinedFacts Tryd.pinned.checked.prog 10 Tryd.f10 (OpenSpec.ofChange Rows.fnExactIsMonotoneSpec).bare Rows.fnExactIsMonotoneRow = true := by kernel_rfl

end Go.Proofs.YtcdfbcmfpeceeaaDoor.isMonotoneFacts
