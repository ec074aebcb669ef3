/-
  The reference's mirrored map: three lists in memory of their own. Nothing that was there is changed.
-/
import Derived.Test.YtcdfbcmfpeceeaaDoorMirP
import Derived.Test.YtcdfbcmfpeceeaaDoorToMap
import Derived.Test.YtcdfbcmfpeceeaaDoorPutI
import Derived.Deep.RegionWith
import Derived.Deep.CutRange
namespace Go.Proofs.YtcdfbcmfpeceeaaDoor
open Go.RowKit

/-- The terrain of the mirrored map, when 'q' hexes have been written. -/
def mirT (W H : Int) (lt : List Int) (n : Nat) : Nat → List Int
  | 0 => List.replicate n 0
  | q + 1 => (mirT W H lt n q).set (mirI W H q).toNat (lt[q]?.getD 0)
theorem mirT_length (W H : Int) (lt : List Int) (n : Nat) : ∀ q, (mirT W H lt n q).length = n
  | 0 => by simp [mirT]
  | q + 1 => by simp [mirT, mirT_length W H lt n q]
end Go.Proofs.YtcdfbcmfpeceeaaDoor
