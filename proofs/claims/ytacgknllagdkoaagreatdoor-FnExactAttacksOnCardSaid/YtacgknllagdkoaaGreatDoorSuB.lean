/-
 A breadth first search with a payload: each hex that is reached bears what its forerunner bore, and one step more; ranks in the queue never fall, and each rank is the least number of hexes of a way. No program is looked into.
-/
import Derived.Test.YtacgknllagdkoaaGreatDoorQa
import Derived.Test.YtacgknllagdkoaaGreatDoorQa
namespace Go.Proofs.YtacgknllagdkoaaGreatDoor
open Go.RowKit
/-- A way of n hexes from a source to k. -/
inductive WayN (nb:Nat→List Nat) (ok:Nat→Bool) (src:List Nat):Nat→Nat→Prop
 | src {k:Nat}:k ∈ src→ok k=true→WayN nb ok src k 1
 | step {x k n:Nat}:WayN nb ok src x n→k ∈ nb x→ok k=true→WayN nb ok src k (n+1)
section
variable {α:Type} (nx:α→Nat→α) (ok:Nat→Bool)
variable (nb:Nat→List Nat) (p0:α) (src:List Nat)
end
section
variable {α:Type} {nx:α→Nat→α} {ok:Nat→Bool}
def keysNodup (Q:List (Nat × α)):Prop:=(Q.map (·.1)).Nodup
variable {nb:Nat→List Nat} {p0:α} {src:List Nat}
end
section
variable {α:Type} {nx:α→Nat→α} {ok:Nat→Bool} {nb:Nat→List Nat} {p0:α} {src:List Nat}
end
/-- A path from a source to k. -/
inductive PathN (nb:Nat→List Nat) (ok:Nat→Bool) (src:List Nat):List Nat→Nat→Prop
 | src {k:Nat}:k ∈ src→ok k=true→PathN nb ok src [k] k
 | step {p:List Nat} {x k:Nat}:PathN nb ok src p x→k ∈ nb x→ok k=true→PathN nb ok src (p++[k]) k
end Go.Proofs.YtacgknllagdkoaaGreatDoor
