/-
  What the laws' sizes say: a negative number, or what is left and that all is small.
-/
import Derived.Test.YtgeophllbmjjfaaDoorHex
namespace Go.Proofs.YtgeophllbmjjfaaDoor
open Go.RowKit

/-- A negative number, or what is left and P. -/
def SzPost (P : Prop) (w : World) (e : Ending) (w' : World) : Prop := ∃ r : Int, e = .returned (.int .i64 r) ∧ r ≤ 1048576 ∧ -1 ≤ r ∧ (0 ≤ r → P) ∧ Kp w w'

end Go.Proofs.YtgeophllbmjjfaaDoor
