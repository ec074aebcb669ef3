/-
  The closed facts of the row on TableText.
-/
import Derived.Test.YtcdfbcmfpeceeaaDoorTabO
import Derived.JoinedCond
namespace Go.Proofs.YtcdfbcmfpeceeaaDoor.tableTextFacts
open Go.ChangeShapes Go.WideShapes Go.ChangeAt Go.RowKit Go.Joins

theorem closed : joinedFacts Tryd.pinned.checked.prog 13 Tryd.f13 (OpenSpec.ofChange Rows.fnExactTableTextSpec).bare Rows.fnExactTableTextRow = true := by kernel_rfl

end Go.Proofs.YtcdfbcmfpeceeaaDoor.tableTextFacts
