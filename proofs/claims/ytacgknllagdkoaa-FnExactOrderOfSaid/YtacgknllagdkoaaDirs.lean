/-
  The six directions as plain functions on integers.
-/
import Derived.Test.YtacgknllagdkoaaHex
namespace Go.Proofs.Ytacgknllagdkoaa
open Go.RowKit

def dirQ (d : Int) : Int := if d = 0 then 1 else if d = 1 then 1 else if d = 2 then 0 else if d = 3 then -1 else if d = 4 then -1 else 0
def dirR (d : Int) : Int := if d = 0 then 0 else if d = 1 then -1 else if d = 2 then -1 else if d = 3 then 0 else if d = 4 then 1 else 1
end Go.Proofs.Ytacgknllagdkoaa
