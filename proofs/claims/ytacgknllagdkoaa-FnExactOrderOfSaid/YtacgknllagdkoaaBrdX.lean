/-
  The laws' marking of copied kinds, rules, maps and boards: only the copy's own blocks are written, and the number handed back is not less.
-/
import Derived.Test.YtacgknllagdkoaaBrdW
namespace Go.Proofs.Ytacgknllagdkoaa
open Go.RowKit

theorem Mk.row {lo hi base g n sz : Nat} {w w' : World} {e : TypeId} {cap : Nat} {xs : List Value} (h : Mk lo hi w w') (o : w.ownsRow base e sz (.slice (some ⟨g, 0, none⟩) n cap) n xs) (hb : hi ≤ g) : w'.ownsRow base e sz (.slice (some ⟨g, 0, none⟩) n cap) n xs :=
  h.own o (fun b e => by
    have : g = b := by simpa [Value.ownBlock] using e
    omega)
theorem Mk.cell_hi {lo hi : Nat} {w w' : World} (h : Mk lo hi w w') {b o : Nat} {v : Value} (hb : hi ≤ b) (hc : w.cell? ⟨b, o, none⟩ = some v) : w'.cell? ⟨b, o, none⟩ = some v :=
  (World.cell?_of_block (w := w) (h.2 b hb (cell_lt hc))).trans hc
end Go.Proofs.Ytacgknllagdkoaa
