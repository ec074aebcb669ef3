/-
  The closed facts of the row on MapText.
-/
import Derived.JoinedCond
import Derived.Test.YtpdcmpojjchobaaDoorBua
namespace Go.Proofs.YtpdcmpojjchobaaDoor.mapTextFacts
open Go.ChangeShapes Go.WideShapes Go.ChangeAt Go.RowKit Go.Joins

theorem closed : joinedFacts Tryd.pinned.checked.prog 6 Tryd.f6 (OpenSpec.ofChange Rows.fnExactMapTextSpec).bare Rows.fnExactMapTextRow = true := by kernel_rfl

end Go.Proofs.YtpdcmpojjchobaaDoor.mapTextFacts
