/-
  The closed facts of the row on ResultAt.
-/
import Derived.Test.YtcdfbcmfpeceeaaDoorTabO
import Derived.JoinedCond
namespace Go.Proofs.YtcdfbcmfpeceeaaDoor.resultAtFacts
open Go.ChangeShapes Go.WideShapes Go.ChangeAt Go.RowKit Go.Joins

theorem closed : joinedFacts Tryd.pinned.checked.prog 8 Tryd.f8 (OpenSpec.ofChange Rows.fnExactResultAtSpec).bare Rows.fnExactResultAtRow = true := by kernel_rfl

end Go.Proofs.YtcdfbcmfpeceeaaDoor.resultAtFacts
