/-
  The closed facts of the row on KindLine.
-/
import Derived.JoinedCond
import Derived.Test.YtpdcmpojjchobaaDoorBua
namespace Go.Proofs.YtpdcmpojjchobaaDoor.kindLineFacts
open Go.ChangeShapes Go.WideShapes Go.ChangeAt Go.RowKit Go.Joins

theorem closed : joinedFacts Tryd.pinned.checked.prog 3 Tryd.f3 (OpenSpec.ofChange Rows.fnExactKindLineSpec).bare Rows.fnExactKindLineRow = true := by kernel_rfl

end Go.Proofs.YtpdcmpojjchobaaDoor.kindLineFacts
