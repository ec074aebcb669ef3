/-
  The closed facts of the row on RulesText.
-/
import Derived.JoinedCond
import Derived.Test.YtpdcmpojjchobaaDoorBua
namespace Go.Proofs.YtpdcmpojjchobaaDoor.rulesTextFacts
open Go.ChangeShapes Go.WideShapes Go.ChangeAt Go.RowKit Go.Joins

theorem closed : joinedFacts Tryd.pinned.checked.prog 5 Tryd.f5 (OpenSpec.ofChange Rows.fnExactRulesTextSpec).bare Rows.fnExactRulesTextRow = true := by kernel_rfl

end Go.Proofs.YtpdcmpojjchobaaDoor.rulesTextFacts
