/-
  Maps as plain numbers and lists: indices, neighbours, edges, valid maps. No program is looked into.
-/
import Derived.Test.YtacgknllagdkoaaDirs
import Derived.Test.YtacgknllagdkoaaRulM
import Derived.Test.YtacgknllagdkoaaInts
namespace Go.Proofs.Ytacgknllagdkoaa
open Go.RowKit

def dirB (d : Int) : Bool := decide (0 ≤ d) && decide (d ≤ 5)
def onI (W H i : Int) : Bool := decide (0 ≤ i) && decide (i < W * H)
def inM (W H q r : Int) : Bool := (decide (0 ≤ q) && decide (q < W)) && (decide (0 ≤ r) && decide (r < H))
def idxM (W q r : Int) : Int := r * W + q
def nbQ (W i d : Int) : Int := i % W + dirQ d
def nbR (W i d : Int) : Int := i / W + dirR d
def nbM (W H i d : Int) : Bool := inM W H (nbQ W i d) (nbR W i d)
def nbB (W H i d : Int) : Bool := onI W H i && (dirB d && nbM W H i d)
def nbI (W i d : Int) : Int := idxM W (nbQ W i d) (nbR W i d)
def edgI (W i d : Int) : Int := if d < 3 then 3 * i + d else 3 * nbI W i d + d - 3
end Go.Proofs.Ytacgknllagdkoaa
