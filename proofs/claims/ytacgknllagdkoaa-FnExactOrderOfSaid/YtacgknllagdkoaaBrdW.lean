/-
  The laws' marking of copied boards: only the copy's own blocks are written, and the number handed back is not less. (What the marks are is not said here.)
-/
import Derived.Test.YtacgknllagdkoaaBrdL
import Derived.Test.YtacgknllagdkoaaMarkI
import Derived.Test.YtacgknllagdkoaaMk
import Derived.Laws.BytesArg
namespace Go.Proofs.Ytacgknllagdkoaa
open Go.RowKit

theorem live_grown {w w' : World} {base g n sz : Nat} {e : TypeId} {ys : List Value} {cap : Nat} (h : w.ownsRow base e sz (.slice (some ⟨g, 0, none⟩) n cap) n ys) {row : Option Nat} (gr : w.grownBy w' row) (hne : some g ≠ row) : w'.ownsRow base e sz (.slice (some ⟨g, 0, none⟩) n cap) n ys :=
  World.ownsRow.kept h gr (.inr (fun e => hne (by rw [← e]; rfl)))
/-- What the marking of terrains needs of the terrains from the q-th on. -/
theorem OwnI.kp_set {w w1 : World} {base g j : Nat} {v : Value} {l : List Int} (h : OwnI w base v l) (k : Kp w w1) (hg : g < base) (u : Value) : OwnI (w1.setCell ⟨g, j, none⟩ u) base v l := by
  have h1 := h.keep k
  exact h1.far (h1.not hg) u

end Go.Proofs.Ytacgknllagdkoaa
