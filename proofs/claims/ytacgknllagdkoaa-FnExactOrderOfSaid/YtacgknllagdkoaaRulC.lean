/-
  The laws' copy of rules: the same lists and numbers, in memory of its own. Nothing that was there is changed.
-/
import Derived.Test.YtacgknllagdkoaaRulE
import Derived.Test.YtacgknllagdkoaaToMap
namespace Go.Proofs.Ytacgknllagdkoaa
open Go.RowKit

/-- The cells of a copied terrain, at a place of a row's list. -/
theorem liveN {w : World} {base g n sz : Nat} {e : TypeId} {ys : List Value} {cap : Nat} (h : w.ownsRow base e sz (.slice (some ⟨g, 0, none⟩) n cap) n ys) {j : Nat} (hj : j < n * sz) : (∃ u, w.cell? ⟨g, j, none⟩ = some u) ∧ w.frozen? ⟨g, j, none⟩ = false := by
  have hlen : ys.length = n * sz := h.1
  exact ⟨⟨_, (h.cellAt j (by omega)).trans (List.getElem?_eq_getElem (by omega))⟩, h.frozenAt j⟩

theorem ownBlock_len (A : Option Addr) (x y c : Nat) : (Value.slice A x c).ownBlock = (Value.slice A y c).ownBlock := by cases A <;> rfl
end Go.Proofs.Ytacgknllagdkoaa
