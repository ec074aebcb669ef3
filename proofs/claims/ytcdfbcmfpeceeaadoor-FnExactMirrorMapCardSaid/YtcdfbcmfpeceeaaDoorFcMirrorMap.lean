/-
  The closed facts of the row on MirrorMap.
-/
import Derived.Test.YtcdfbcmfpeceeaaDoorTab
import Derived.JoinedCond
namespace Go.Proofs.YtcdfbcmfpeceeaaDoor.mirrorMapFacts
open Go.ChangeShapes Go.WideShapes Go.ChangeAt Go.RowKit Go.Joins

theorem closed : joinedFacts Tryd.pinned.checked.prog 4 Tryd.f4 (OpenSpec.ofChange Rows.fnExactMirrorMapSpec).bare Rows.fnExactMirrorMapRow = true := by kernel_rfl

end Go.Proofs.YtcdfbcmfpeceeaaDoor.mirrorMapFacts
