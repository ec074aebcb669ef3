/-
  The program's lists of edges and its test of a map return what plain functions on lists say, and change nothing that was there. The table of directions holds what the program's text lays.
-/
import Derived.Test.YtacgknllagdkoaaMapM
import Derived.Test.YtacgknllagdkoaaHex
import Derived.LoopTactic
import Derived.IntWalk
import Derived.Test.YtacgknllagdkoaaDirs
import Derived.Test.YtacgknllagdkoaaFar
import Derived.RegionTactic
import Derived.BigRegion
import Derived.Deep.RegionHeld3
import Derived.Test.YtacgknllagdkoaaInts
namespace Go.Proofs.Ytacgknllagdkoaa
open Go.RowKit

/-- What a map's three lists are: slices that read as lists of numbers of 64 bits. -/
structure Lists (w : World) (t r d : Value) (lt lr ld : List Int) : Prop where
  rt : RdI w t lt
  rr : RdI w r lr
  rd : RdI w d ld
  bt : lt.length ≤ 1048576
  br : lr.length ≤ 1048576
  bd : ld.length ≤ 1048576
  it : ∀ x ∈ lt, isI64 x
  ir : ∀ x ∈ lr, isI64 x
  id : ∀ x ∈ ld, isI64 x
theorem Lists.keep {w w' : World} {t r d : Value} {lt lr ld : List Int} (h : Lists w t r d lt lr ld) (k : Kp w w') : Lists w' t r d lt lr ld :=
  ⟨h.rt.keep k, h.rr.keep k, h.rd.keep k, h.bt, h.br, h.bd, h.it, h.ir, h.id⟩

end Go.Proofs.Ytacgknllagdkoaa
