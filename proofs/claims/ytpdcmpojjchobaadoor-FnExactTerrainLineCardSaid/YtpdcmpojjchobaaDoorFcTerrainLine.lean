/-
  The closed facts of the row on TerrainLine.
-/
import Derived.JoinedCond
import Derived.Test.YtpdcmpojjchobaaDoorBua
namespace Go.Proofs.YtpdcmpojjchobaaDoor.terrainLineFacts
open Go.ChangeShapes Go.WideShapes Go.ChangeAt Go.RowKit Go.Joins

theorem closed : joinedFacts Tryd.pinned.checked.prog 4 Tryd.f4 (OpenSpec.ofChange Rows.fnExactTerrainLineSpec).bare Rows.fnExactTerrainLineRow = true := by kernel_rfl

end Go.Proofs.YtpdcmpojjchobaaDoor.terrainLineFacts
