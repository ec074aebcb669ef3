/-
  The closed facts of the row on IsSurrounded.
-/
import Derived.Test.YtiojmbbdcccokaaGreatDoorFcP
import Derived.Test.YtiojmbbdcccokaaGreatDoorQa
import Derived.Test.YtiojmbbdcccokaaGreatDoorQa
namespace Go.Proofs.YtiojmbbdcccokaaGreatDoor.isSurroundedFacts
open Go.ChangeShapes Go.WideShapes Go.ChangeAt Go.RowKit Go.Joins

set_option maxHeartbeats 8000000 in
theorem isSurroundedClosed : joinedFacts Tryz.pinned.checked.prog 6 Tryz.f6 (OpenSpec.ofChange Rows.fnExactIsSurroundedSpec).bare Rows.fnExactIsSurroundedRow = true := by
  unfold joinedFacts
  refine (and_t (and_t (and_t (and_t (and_t (and_t (and_t (and_t (and_t (and_t (and_t (and_t (and_t (and_t (and_t (and_t (and_t (and_t (and_t (and_t (and_t (and_t (and_t (and_t (and_t (and_t (and_t (and_t (and_t (and_t (and_t ?_ fpLaid) fpMaps) ?_) ?_) ?_) ?_) ?_) ?_) ?_) ?_) ?_) ?_) ?_) ?_) ?_) ?_) ?_) ?_) ?_) ?_) ?_) ?_) ?_) fpHeard) fpEnter) ?_) ?_) ?_) ?_) ?_) ?_)
  all_goals as_aux_lemma => kernel_rfl

end Go.Proofs.YtiojmbbdcccokaaGreatDoor.isSurroundedFacts
