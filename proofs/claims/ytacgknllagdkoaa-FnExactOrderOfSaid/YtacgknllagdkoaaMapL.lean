/-
  The laws' own functions on maps: the size, the copy (in memory of its own), the comparison of two maps that read as the same lists. Nothing that was there is changed.
-/
import Derived.Test.YtacgknllagdkoaaMapK
import Derived.Test.YtacgknllagdkoaaOpenI
import Derived.OpenShut
namespace Go.Proofs.Ytacgknllagdkoaa
open Go.RowKit

/-- Three slices that the call owns, in blocks of their own from a number on. -/
structure Own3 (w : World) (base : Nat) (t r d : Value) (lt lr ld : List Int) : Prop where
  ot : OwnI w base t lt
  or : OwnI w base r lr
  od : OwnI w base d ld
  tr : ∀ g, t.ownBlock = some g → r.ownBlock ≠ some g
  td : ∀ g, t.ownBlock = some g → d.ownBlock ≠ some g
  rd : ∀ g, r.ownBlock = some g → d.ownBlock ≠ some g
theorem Own3.keep {w w' : World} {base : Nat} {t r d : Value} {lt lr ld : List Int} (h : Own3 w base t r d lt lr ld) (k : Kp w w') : Own3 w' base t r d lt lr ld :=
  ⟨h.ot.keep k, h.or.keep k, h.od.keep k, h.tr, h.td, h.rd⟩

end Go.Proofs.Ytacgknllagdkoaa
