/-
  Closed facts of the program.
-/
import Derived.JoinedCond
import Derived.Test.YtbohefollbmhkaaGreatDoorQe
namespace Go.Proofs.YtbohefollbmhkaaGreatDoor
open Go.ChangeShapes Go.WideShapes Go.ChangeAt Go.RowKit Go.Joins

theorem and_t {a b : Bool} (ha : a = true) (hb : b = true) : (a && b) = true := by rw [ha, hb]; rfl
theorem fpLaid : laidOutB Tryz.pinned.checked.prog = true := by kernel_rfl
theorem fpMaps : mapsRowed Tryz.pinned.checked.prog = true := by kernel_rfl
theorem fpHeard : Program.stopsHeard Tryz.pinned.checked.prog = true := by kernel_rfl
theorem fpEnter : Program.mayEnter Tryz.pinned.checked.prog = true := by kernel_rfl

end Go.Proofs.YtbohefollbmhkaaGreatDoor
