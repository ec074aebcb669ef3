/-
  The reference's test of a name; slices of strings as lists: the place of a string, whether it is there, and whether all names are valid and differ. Nothing that was there is changed.
-/
import Derived.Test.YtacgknllagdkoaaRulM
import Derived.Test.YtacgknllagdkoaaInts
import Derived.Test.YtacgknllagdkoaaHex
import Derived.LoopTactic
import Derived.IntWalk
import Derived.Test.YtacgknllagdkoaaDirs
import Derived.Test.YtacgknllagdkoaaFar
import Derived.RegionTactic
import Derived.BigRegion
import Derived.Deep.RegionHeld3
namespace Go.Proofs.Ytacgknllagdkoaa
open Go.RowKit

/-- The slice v reads as the list l of strings. -/
def RdS (w : World) (v : Value) (l : List ByteArray) : Prop :=
  ∃ A c, v = .slice A l.length c ∧ (0 < l.length → ∃ g off, A = some ⟨g, off, none⟩ ∧ ∀ i x, l[i]? = some x → w.cell? ⟨g, off + i, none⟩ = some (.string x))
theorem RdS.keep {w w' : World} {v : Value} {l : List ByteArray} (h : RdS w v l) (hk : Kp w w') : RdS w' v l := by
  obtain ⟨A, c, rfl, h⟩ := h
  refine ⟨A, c, rfl, fun h0 => ?_⟩
  obtain ⟨g, off, rfl, hc⟩ := h h0
  exact ⟨g, off, rfl, fun i x hx => hk.cell (hc i x hx)⟩

end Go.Proofs.Ytacgknllagdkoaa
