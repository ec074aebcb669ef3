/-
  A range of permitted numbers: whether a number lies in it, and a variable that holds one.
-/
import Derived.Test.YtmodcmkmfedgoaaDoorRulM
import Derived.Deep.RegionHeld3
namespace Go.Proofs.YtmodcmkmfedgoaaDoor
open Go.RowKit

def SpanAt (w : World) (g : Nat) (lo hi : Int) : Prop := w.cell? ⟨g, 0, none⟩ = some (.int .i64 lo) ∧ w.cell? ⟨g, 1, none⟩ = some (.int .i64 hi)

end Go.Proofs.YtmodcmkmfedgoaaDoor
