/-
  New lists of numbers: none, one more; a call's answer that is a list and whether there is one.
-/
import Derived.Test.YtacgknllagdkoaaInts
namespace Go.Proofs.Ytacgknllagdkoaa
open Go.RowKit

/-- A new list of numbers and true, or none and false. -/
theorem OwnI.nil (w : World) (base : Nat) : OwnI w base (.slice none 0 0) [] := World.ownsRow_nil w base _ 1
end Go.Proofs.Ytacgknllagdkoaa
