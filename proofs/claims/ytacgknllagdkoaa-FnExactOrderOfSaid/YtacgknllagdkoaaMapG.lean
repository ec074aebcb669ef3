/-
  Rivers and roads of a map, the program's and the reference's: what plain functions say, and nothing that was there is changed. The table of directions holds what the program's text lays.
-/
import Derived.Test.YtacgknllagdkoaaGood
namespace Go.Proofs.Ytacgknllagdkoaa
open Go.RowKit

def hasB (l : List Int) (m : Int) : Bool := l.contains m
end Go.Proofs.Ytacgknllagdkoaa
