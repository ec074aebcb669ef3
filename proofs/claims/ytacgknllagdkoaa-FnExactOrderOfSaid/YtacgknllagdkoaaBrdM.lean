/-
  Boards as plain data: when a board is valid, the cost to enter a hex, open hexes, unused and missing terrains, stuck kinds. No program is looked into.
-/
import Derived.Test.YtacgknllagdkoaaRulM
import Derived.Test.YtacgknllagdkoaaMapG
import Derived.Test.YtacgknllagdkoaaMapM
namespace Go.Proofs.Ytacgknllagdkoaa
open Go.RowKit

/-- What a terrain costs a kind. -/
def costT (l : List Ter) (t k : Nat) : Int := (((l[t]?).map (·.cost)).getD [])[k]?.getD 0
/-- What a hex costs a kind. -/
def costB (l : List Ter) (lt : List Int) (k i : Nat) : Int := costT l (lt[i]?.getD 0).toNat k
end Go.Proofs.Ytacgknllagdkoaa
