/-
  The closed facts of the row on MeanScore.
-/
import Derived.Test.YtcdfbcmfpeceeaaDoorTabO
import Derived.JoinedCond
namespace Go.Proofs.YtcdfbcmfpeceeaaDoor.meanScoreFacts
open Go.ChangeShapes Go.WideShapes Go.ChangeAt Go.RowKit Go.Joins

theorem closed : joinedFacts Tryd.pinned.checked.prog 12 Tryd.f12 (OpenSpec.ofChange Rows.fnExactMeanScoreSpec).bare Rows.fnExactMeanScoreRow = true := by kernel_rfl

end Go.Proofs.YtcdfbcmfpeceeaaDoor.meanScoreFacts
