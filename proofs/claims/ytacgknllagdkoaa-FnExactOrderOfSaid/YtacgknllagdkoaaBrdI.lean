/-
  The program's functions on boards: missing terrains, the test of a board, the cost to enter a hex. Nothing that was there is changed. The named variables hold what the program's text lays.
-/
import Derived.Test.YtacgknllagdkoaaBrdM
import Derived.Test.YtacgknllagdkoaaListI
import Derived.Test.YtacgknllagdkoaaRulC
import Derived.Test.YtacgknllagdkoaaIsRulesI
import Derived.Test.YtacgknllagdkoaaMapK
import Derived.Test.YtacgknllagdkoaaHex
import Derived.LoopTactic
import Derived.IntWalk
import Derived.Test.YtacgknllagdkoaaDirs
import Derived.Test.YtacgknllagdkoaaFar
import Derived.RegionTactic
import Derived.BigRegion
import Derived.Deep.RegionHeld3
import Derived.Test.YtacgknllagdkoaaRulM
import Derived.Test.YtacgknllagdkoaaInts
namespace Go.Proofs.Ytacgknllagdkoaa
open Go.RowKit

/-- What a board is in memory. -/
structure BrdAt (w : World) (At Ak : Option Addr) (nt nk : Nat) (l : List Ter) (m : List Knd) (x r y : Value) (lt lr ld : List Int) : Prop where
  R : RulAt w At Ak nt nk l m
  L : Lists w x r y lt lr ld
theorem BrdAt.keep {w w' : World} {At Ak : Option Addr} {nt nk : Nat} {l : List Ter} {m : List Knd} {x r y : Value} {lt lr ld : List Int} (h : BrdAt w At Ak nt nk l m x r y lt lr ld) (k : Kp w w') : BrdAt w' At Ak nt nk l m x r y lt lr ld :=
  ⟨h.R.keep k, h.L.keep k⟩

end Go.Proofs.Ytacgknllagdkoaa
