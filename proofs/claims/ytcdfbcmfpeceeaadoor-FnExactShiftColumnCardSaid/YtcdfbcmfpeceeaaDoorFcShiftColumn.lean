/-
  The closed facts of the row on ShiftColumn.
-/
import Derived.Test.YtcdfbcmfpeceeaaDoorTabO
import Derived.JoinedCond
namespace Go.Proofs.YtcdfbcmfpeceeaaDoor.shiftColumnFacts
open Go.ChangeShapes Go.WideShapes Go.ChangeAt Go.RowKit Go.Joins

theorem closed : joinedFacts Tryd.pinned.checked.prog 7 Tryd.f7 (OpenSpec.ofChange Rows.fnExactShiftColumnSpec).bare Rows.fnExactShiftColumnRow = true := by kernel_rfl

end Go.Proofs.YtcdfbcmfpeceeaaDoor.shiftColumnFacts
