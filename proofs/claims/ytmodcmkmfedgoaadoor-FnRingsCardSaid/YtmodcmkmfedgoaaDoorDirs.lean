/-
  The six directions as plain functions on integers.
-/
import Derived.Test.YtmodcmkmfedgoaaDoorHex
namespace Go.Proofs.YtmodcmkmfedgoaaDoor
open Go.RowKit

def dirQ (d : Int) : Int := if d = 0 then 1 else if d = 1 then 1 else if d = 2 then 0 else if d = 3 then -1 else if d = 4 then -1 else 0
def dirR (d : Int) : Int := if d = 0 then 0 else if d = 1 then -1 else if d = 2 then -1 else if d = 3 then 0 else if d = 4 then 1 else 1
theorem dir_bd (d : Int) : -1 ≤ dirQ d ∧ dirQ d ≤ 1 ∧ -1 ≤ dirR d ∧ dirR d ≤ 1 := by
  unfold dirQ dirR
  repeat' split
  all_goals omega

theorem six {d : Int} (h0 : 0 ≤ d) (h5 : d ≤ 5) : d = 0 ∨ d = 1 ∨ d = 2 ∨ d = 3 ∨ d = 4 ∨ d = 5 := by omega

end Go.Proofs.YtmodcmkmfedgoaaDoor
