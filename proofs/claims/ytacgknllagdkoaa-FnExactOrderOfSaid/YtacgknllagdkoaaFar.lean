/-
  Small facts on cells behind stores into another block. No program is looked into.
-/
import Derived.Test.YtacgknllagdkoaaHex
namespace Go.Proofs.Ytacgknllagdkoaa
open Go.RowKit

theorem cell_lt {w : World} {b o : Nat} {v : Value} (h : w.cell? ⟨b, o, none⟩ = some v) : b < w.heap.size := by
  rcases Nat.lt_or_ge b w.heap.size with hlt | hge
  · exact hlt
  · simp [World.cell?, Array.getElem?_eq_none hge] at h
theorem Kp.liv {W w1 : World} (hk : Kp W w1) {p : Addr} {v : Value} (h : W.cell? p = some v ∧ W.frozen? p = false) : w1.cell? p = some v ∧ w1.frozen? p = false := by
  have hlt : p.block < W.heap.size := by
    rcases Nat.lt_or_ge p.block W.heap.size with hlt | hge
    · exact hlt
    · have := h.1
      simp [World.cell?, Array.getElem?_eq_none hge] at this
  exact ⟨hk.cell h.1, (Below.frozen hk hlt).trans h.2⟩

end Go.Proofs.Ytacgknllagdkoaa
