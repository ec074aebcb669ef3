/-
  The reference's draws of two hexes, of a hex and one beside it, of two hexes and a number; all that was there is as it was.
-/
import Derived.Test.YtmodcmkmfedgoaaDoorCuB
import Derived.Test.YtmodcmkmfedgoaaDoorStep
import Derived.Deep.Cut
import Derived.Deep.RegionHeld3
import Derived.OwnWalk
namespace Go.Proofs.YtmodcmkmfedgoaaDoor
open Go.RowKit

/-- A hex drawn. -/
def HexC (base g K : Nat) (w : World) (e : Ending) (w' : World) : Prop :=
  ∃ q r : Int, e = .returned (hx q r) ∧ (-41 ≤ q ∧ q ≤ 41 ∧ -41 ≤ r ∧ r ≤ 41) ∧ Cu w' base g (K + 6) ∧ w.grownBy w' (some g)
theorem anyHexC (base g K : Nat) (w : World) (h : Cu w base g K) (hK : K ≤ 90000) :
    Calls Tryd.prog 18 #[.pointer (some ⟨g, 0, none⟩)] w (HexC base g K w) := by
  obtain ⟨A, n, c, p, h1, h2, h3, h4, h5, h6⟩ := h
  refine (anyHex_any g A n c p w h1 h2 (by omega) h3 (fun h0 a ha => (h6 h0 a ha).1)).mono ?_
  rintro e w' ⟨q, r, rfl, bd, ⟨p', hp', cu⟩, hg⟩
  exact ⟨q, r, rfl, bd, ⟨A, n, c, p', cu, h2.grown hg (fun h0 a ha => (h6 h0 a ha).1), h3, by omega, h5, h6⟩, hg⟩

end Go.Proofs.YtmodcmkmfedgoaaDoor
