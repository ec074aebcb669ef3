/-
  What every law on maps needs: the argument's lists, the copies of the map, the cells of the two boxes.
-/
import Derived.Test.YtacgknllagdkoaaToMap
import Derived.Test.YtacgknllagdkoaaLaw
import Derived.Test.YtacgknllagdkoaaRulM
import Derived.Deep.RegionHeld3
import Derived.Deep.DeepHandedRow
import Derived.Lib.LaidTab
import Derived.FnData
import Derived.Test.YtacgknllagdkoaaHex
import Derived.LoopTactic
import Derived.IntWalk
import Derived.Test.YtacgknllagdkoaaDirs
import Derived.Test.YtacgknllagdkoaaFar
import Derived.RegionTactic
import Derived.BigRegion
import Derived.Test.YtacgknllagdkoaaMapK
import Derived.Test.YtacgknllagdkoaaRdS
import Derived.Lib.SmallJoins
import Derived.Deep.Fields
namespace Go.Proofs.Ytacgknllagdkoaa
open Go.ChangeShapes Go.WideShapes Go.ChangeAt Go.RowKit Go.Joins

/-- What an argument's three lists are: slices that read as lists, of Go's own lengths and numbers. -/
structure Reads (w : World) (t r d : Value) (lt lr ld : List Int) : Prop where
  rt : RdI w t lt
  rr : RdI w r lr
  rd : RdI w d ld
  bt : lt.length ≤ 9223372036854775807
  br : lr.length ≤ 9223372036854775807
  bd : ld.length ≤ 9223372036854775807
  it : ∀ x ∈ lt, isI64 x
  ir : ∀ x ∈ lr, isI64 x
  id : ∀ x ∈ ld, isI64 x
end Go.Proofs.Ytacgknllagdkoaa
