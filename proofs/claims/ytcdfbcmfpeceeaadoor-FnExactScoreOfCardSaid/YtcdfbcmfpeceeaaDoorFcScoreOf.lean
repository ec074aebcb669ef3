/-
  The closed facts of the row on ScoreOf.
-/
import Derived.Test.YtcdfbcmfpeceeaaDoorTabO
import Derived.JoinedCond
namespace Go.Proofs.YtcdfbcmfpeceeaaDoor.scoreOfFacts
open Go.ChangeShapes Go.WideShapes Go.ChangeAt Go.RowKit Go.Joins

theorem closed : joinedFacts Tryd.pinned.checked.prog 9 Tryd.f9 (OpenSpec.ofChange Rows.fnExactScoreOfSpec).bare Rows.fnExactScoreOfRow = true := by kernel_rfl

end Go.Proofs.YtcdfbcmfpeceeaaDoor.scoreOfFacts
