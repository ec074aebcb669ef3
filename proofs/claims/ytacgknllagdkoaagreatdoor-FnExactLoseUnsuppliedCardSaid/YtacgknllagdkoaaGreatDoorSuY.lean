/-
 Ways of units as plain data: which way a unit has, whether it is in supply. No program is looked into.
-/
import Derived.Test.YtacgknllagdkoaaGreatDoorSuM
import Derived.Test.YtacgknllagdkoaaGreatDoorSuS
import Derived.Deep.Cut
import Derived.Deep.RegionHeld3
import Derived.Test.YtacgknllagdkoaaGreatDoorSuV
import Derived.Test.YtacgknllagdkoaaGreatDoorZnS
import Derived.Test.YtacgknllagdkoaaGreatDoorZnM
import Derived.Test.YtacgknllagdkoaaGreatDoorQa
import Derived.Test.YtacgknllagdkoaaGreatDoorQe
import Derived.Test.YtacgknllagdkoaaGreatDoorQj
import Derived.Test.YtacgknllagdkoaaGreatDoorQm
import Derived.Test.YtacgknllagdkoaaGreatDoorQp
namespace Go.Proofs.YtacgknllagdkoaaGreatDoor
open Go.RowKit
def wayU (l:List Ter) (m:List Knd) (lt lr ld:List Int) (W:Int) (us:List Uni) (H:Int) (ls:List Int) (z:Uni):List Nat:=wayN (fun j=>pasB l m lt lr ld W us z.s z.k.toNat j) W H (srcN ls) lt.length z.a.toNat
def supU (l:List Ter) (m:List Knd) (lt lr ld:List Int) (W:Int) (us:List Uni) (H d:Int) (ls:List Int) (z:Uni):Bool:=decide (z.a ≠ -1) && insB (wayU l m lt lr ld W us H ls z).length d
theorem bl_nil {f:Nat→Bool}:(fun j:Nat=>!hasB [] (j:Int) && f j)=f:=funext fun j=>by simp [hasB]
end Go.Proofs.YtacgknllagdkoaaGreatDoor
