/-
  Marking the cells of a slice of hexes that the call owns with k, k+1, .., and finding the marks again.
-/
import Derived.Test.YtacgknllagdkoaaRow
import Derived.Maps.AppendAt
namespace Go.Proofs.Ytacgknllagdkoaa
open Go.RowKit

def marks (k0 : Int) (m : Nat) : List Value := (List.range m).map fun j : Nat => .int .i64 (k0 + (j : Int))
theorem marks_at (k0 : Int) (m j : Nat) (h : j < m) : (marks k0 m)[j]? = some (.int .i64 (k0 + j)) := by simp [marks, h]
theorem marks_length (k0 : Int) (m : Nat) : (marks k0 m).length = m := by simp [marks]

end Go.Proofs.Ytacgknllagdkoaa
