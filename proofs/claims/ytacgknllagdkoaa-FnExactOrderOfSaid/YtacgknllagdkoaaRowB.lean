/-
  What a function says that returns a new list of hexes and true, or none and false; small facts on slices of hexes that a call owns.
-/
import Derived.Test.YtacgknllagdkoaaMark
import Derived.Laws.MakeOwn
namespace Go.Proofs.Ytacgknllagdkoaa
open Go.RowKit

theorem grown_set (w : World) (g j : Nat) (u : Value) : w.grownBy (w.setCell ⟨g, j, none⟩ u) (some g) :=
  ⟨rfl, rfl, rfl, by simp, fun k _ hk => heap_setCell_other w ⟨g, j, none⟩ k u (fun e => hk (by simp [e]))⟩
end Go.Proofs.Ytacgknllagdkoaa
