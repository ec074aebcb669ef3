/-
  The closed facts of the row on UnitsAt.
-/
import Derived.Test.YtncmjpgknckhjaaGreatDoorFcP
import Derived.Test.YtncmjpgknckhjaaGreatDoorQa
import Derived.Test.YtncmjpgknckhjaaGreatDoorQa
namespace Go.Proofs.YtncmjpgknckhjaaGreatDoor.unitsAtFacts
open Go.ChangeShapes Go.WideShapes Go.ChangeAt Go.RowKit Go.Joins

set_option maxHeartbeats 8000000 in
theorem unitsAtClosed : joinedFacts Tryz.pinned.checked.prog 3 Tryz.f3 (OpenSpec.ofChange Rows.fnExactUnitsAtSpec).bare Rows.fnExactUnitsAtRow = true := by
  unfold joinedFacts
  refine (and_t (and_t (and_t (and_t (and_t (and_t (and_t (and_t (and_t (and_t (and_t (and_t (and_t (and_t (and_t (and_t (and_t (and_t (and_t (and_t (and_t (and_t (and_t (and_t (and_t (and_t (and_t (and_t (and_t (and_t (and_t ?_ fpLaid) fpMaps) ?_) ?_) ?_) ?_) ?_) ?_) ?_) ?_) ?_) ?_) ?_) ?_) ?_) ?_) ?_) ?_) ?_) ?_) ?_) ?_) ?_) fpHeard) fpEnter) ?_) ?_) ?_) ?_) ?_) ?_)
  all_goals as_aux_lemma => kernel_rfl

end Go.Proofs.YtncmjpgknckhjaaGreatDoor.unitsAtFacts
