/-
  The closed facts of the row on FreeExits.
-/
import Derived.Test.YtiojmbbdcccokaaGreatDoorFcP
import Derived.Test.YtiojmbbdcccokaaGreatDoorQa
import Derived.Test.YtiojmbbdcccokaaGreatDoorQa
namespace Go.Proofs.YtiojmbbdcccokaaGreatDoor.freeExitsFacts
open Go.ChangeShapes Go.WideShapes Go.ChangeAt Go.RowKit Go.Joins

set_option maxHeartbeats 8000000 in
theorem freeExitsClosed : joinedFacts Tryz.pinned.checked.prog 5 Tryz.f5 (OpenSpec.ofChange Rows.fnExactFreeExitsSpec).bare Rows.fnExactFreeExitsRow = true := by
  unfold joinedFacts
  refine (and_t (and_t (and_t (and_t (and_t (and_t (and_t (and_t (and_t (and_t (and_t (and_t (and_t (and_t (and_t (and_t (and_t (and_t (and_t (and_t (and_t (and_t (and_t (and_t (and_t (and_t (and_t (and_t (and_t (and_t (and_t ?_ fpLaid) fpMaps) ?_) ?_) ?_) ?_) ?_) ?_) ?_) ?_) ?_) ?_) ?_) ?_) ?_) ?_) ?_) ?_) ?_) ?_) ?_) ?_) ?_) fpHeard) fpEnter) ?_) ?_) ?_) ?_) ?_) ?_)
  all_goals as_aux_lemma => kernel_rfl

end Go.Proofs.YtiojmbbdcccokaaGreatDoor.freeExitsFacts
