/-
  Closed facts of the program.
-/
import Derived.Test.YtgeophllbmjjfaaDoorLaw
import Derived.JoinedCond
namespace Go.Proofs.YtgeophllbmjjfaaDoor
open Go.ChangeShapes Go.WideShapes Go.ChangeAt Go.RowKit Go.Joins

theorem and_t {a b : Bool} (ha : a = true) (hb : b = true) : (a && b) = true := by rw [ha, hb]; rfl
theorem fpLaid : laidOutB Tryd.pinned.checked.prog = true := by kernel_rfl
theorem fpMaps : mapsRowed Tryd.pinned.checked.prog = true := by kernel_rfl
theorem fpHeard : Program.stopsHeard Tryd.pinned.checked.prog = true := by kernel_rfl
theorem fpEnter : Program.mayEnter Tryd.pinned.checked.prog = true := by kernel_rfl

end Go.Proofs.YtgeophllbmjjfaaDoor
