/-
  The closed facts of the row on BoardText.
-/
import Derived.JoinedCond
import Derived.Test.YtmolpkjdjkhnpabGreatDoorQb
namespace Go.Proofs.YtmolpkjdjkhnpabGreatDoor.boardTextFacts
open Go.ChangeShapes Go.WideShapes Go.ChangeAt Go.RowKit Go.Joins

theorem closed : joinedFacts Tryz.pinned.checked.prog 3 Tryz.f3 (OpenSpec.ofChange Rows.fnExactBoardTextSpec).bare Rows.fnExactBoardTextRow = true := by kernel_rfl

end Go.Proofs.YtmolpkjdjkhnpabGreatDoor.boardTextFacts
