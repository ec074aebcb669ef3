/-
  The reference's test of a map returns what a plain function on lists says, and changes nothing that was there.
-/
import Derived.Test.YtacgknllagdkoaaMapK
import Derived.Test.YtacgknllagdkoaaHex
import Derived.LoopTactic
import Derived.IntWalk
import Derived.Test.YtacgknllagdkoaaDirs
import Derived.Test.YtacgknllagdkoaaFar
import Derived.RegionTactic
import Derived.BigRegion
import Derived.Deep.RegionHeld3
import Derived.Test.YtacgknllagdkoaaRulM
import Derived.Test.YtacgknllagdkoaaInts
namespace Go.Proofs.Ytacgknllagdkoaa
open Go.RowKit

theorem Lists.k5 {w w' : World} {b : Nat} {v0 v1 v2 v3 v4 t r d : Value} {lt lr ld : List Int} (hL : Lists w t r d lt lr ld)
    (h : w'.cell? ⟨b, 0, none⟩ = some v0 ∧ w'.cell? ⟨b, 1, none⟩ = some v1 ∧ w'.cell? ⟨b, 2, none⟩ = some v2 ∧ w'.cell? ⟨b, 3, none⟩ = some v3 ∧ w'.cell? ⟨b, 4, none⟩ = some v4 ∧ Kp w w') : Lists w' t r d lt lr ld := hL.keep h.2.2.2.2.2

end Go.Proofs.Ytacgknllagdkoaa
