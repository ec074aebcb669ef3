/-
  Costs of steps and paths as plain numbers: what a step costs, the hexes of a path, the costs along it, how many first steps are within moves, the cheapest and the costliest step. No program is looked into.
-/
import Derived.Test.YtacgknllagdkoaaBrdI
import Derived.Test.YtacgknllagdkoaaMapK
import Derived.Test.YtacgknllagdkoaaHex
import Derived.LoopTactic
import Derived.IntWalk
import Derived.Test.YtacgknllagdkoaaDirs
import Derived.Test.YtacgknllagdkoaaFar
import Derived.RegionTactic
import Derived.BigRegion
import Derived.Deep.RegionHeld3
import Derived.Test.YtacgknllagdkoaaRulM
import Derived.Test.YtacgknllagdkoaaInts
import Derived.Test.YtacgknllagdkoaaGood
namespace Go.Proofs.Ytacgknllagdkoaa
open Go.RowKit

/-- What the weather adds along a road. -/
def wRd (tw : Int) : Int := if tw = 2 then 1 else 0
/-- The cost of a step from a hex in a direction, or 0. -/
def stp (l : List Ter) (lt lr ld : List Int) (W H rv rd : Int) (k : Nat) (tw i dd : Int) : Int :=
  if nbB W H i dd = true then
    if costB l lt k (nbI W i dd).toNat = 0 then 0
    else if hasB ld (edgI W i dd) = true then rd + wRd tw
    else costB l lt k (nbI W i dd).toNat + tw + (if hasB lr (edgI W i dd) = true then rv else 0)
  else 0
end Go.Proofs.Ytacgknllagdkoaa
