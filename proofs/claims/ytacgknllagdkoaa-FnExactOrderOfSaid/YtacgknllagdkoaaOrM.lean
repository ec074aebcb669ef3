/-
  Orders as plain numbers: whether a unit of a side is on the map, where its path leads, the code of an order, the first order of a sheet with a fault. No program is looked into.
-/
import Derived.Test.YtacgknllagdkoaaSuM
import Derived.Test.YtacgknllagdkoaaCsM
import Derived.Test.YtacgknllagdkoaaRulM
import Derived.Test.YtacgknllagdkoaaInts
import Derived.StillTailTactics
import Derived.Deep.Cut
import Derived.Maps.AppendAt
namespace Go.Proofs.Ytacgknllagdkoaa
open Go.RowKit

structure Odr where
  u : Int
  p : List Int
  a : Int
end Go.Proofs.Ytacgknllagdkoaa
