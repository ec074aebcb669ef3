/-
  Small facts on cells behind stores into another block. No program is looked into.
-/
import Derived.Test.YtgeophllbmjjfaaDoorHex
namespace Go.Proofs.YtgeophllbmjjfaaDoor
open Go.RowKit

theorem far2 {w : World} {p : Addr} {v : Value} (h : w.cell? p = some v) {g i j : Nat} {X Y : Value} (hne : p.block ≠ g) : ((w.setCell ⟨g, i, none⟩ X).setCell ⟨g, j, none⟩ Y).cell? p = some v := by
  rw [World.cell?_setCell_other _ _ _ _ (fun e => hne (by rw [← e])), World.cell?_setCell_other _ _ _ _ (fun e => hne (by rw [← e])), h]
theorem far_four {w : World} {b0 b1 o0 o1 o2 o3 : Nat} {v0 v1 v2 v3 : Value} {g i j : Nat} {X Y : Value} (hne : b0 ≠ g ∧ b1 ≠ g)
    (h : w.cell? ⟨b0, o0, none⟩ = some v0 ∧ w.cell? ⟨b0, o1, none⟩ = some v1 ∧ w.cell? ⟨b1, o2, none⟩ = some v2 ∧ w.cell? ⟨b1, o3, none⟩ = some v3) :
    ((w.setCell ⟨g, i, none⟩ X).setCell ⟨g, j, none⟩ Y).cell? ⟨b0, o0, none⟩ = some v0 ∧ ((w.setCell ⟨g, i, none⟩ X).setCell ⟨g, j, none⟩ Y).cell? ⟨b0, o1, none⟩ = some v1 ∧ ((w.setCell ⟨g, i, none⟩ X).setCell ⟨g, j, none⟩ Y).cell? ⟨b1, o2, none⟩ = some v2 ∧ ((w.setCell ⟨g, i, none⟩ X).setCell ⟨g, j, none⟩ Y).cell? ⟨b1, o3, none⟩ = some v3 :=
  ⟨far2 h.1 hne.1, far2 h.2.1 hne.1, far2 h.2.2.1 hne.2, far2 h.2.2.2 hne.2⟩
theorem far_two {w : World} {b0 o0 o1 : Nat} {v0 v1 : Value} {g i j : Nat} {X Y : Value} (hne : b0 ≠ g) (h : w.cell? ⟨b0, o0, none⟩ = some v0 ∧ w.cell? ⟨b0, o1, none⟩ = some v1) :
    ((w.setCell ⟨g, i, none⟩ X).setCell ⟨g, j, none⟩ Y).cell? ⟨b0, o0, none⟩ = some v0 ∧ ((w.setCell ⟨g, i, none⟩ X).setCell ⟨g, j, none⟩ Y).cell? ⟨b0, o1, none⟩ = some v1 :=
  ⟨far2 h.1 hne, far2 h.2 hne⟩

theorem cell_lt {w : World} {b o : Nat} {v : Value} (h : w.cell? ⟨b, o, none⟩ = some v) : b < w.heap.size := by
  rcases Nat.lt_or_ge b w.heap.size with hlt | hge
  · exact hlt
  · simp [World.cell?, Array.getElem?_eq_none hge] at h
theorem Kp.liv {W w1 : World} (hk : Kp W w1) {p : Addr} {v : Value} (h : W.cell? p = some v ∧ W.frozen? p = false) : w1.cell? p = some v ∧ w1.frozen? p = false := by
  have hlt : p.block < W.heap.size := by
    rcases Nat.lt_or_ge p.block W.heap.size with hlt | hge
    · exact hlt
    · have := h.1
      simp [World.cell?, Array.getElem?_eq_none hge] at this
  exact ⟨hk.cell h.1, (Below.frozen hk hlt).trans h.2⟩

end Go.Proofs.YtgeophllbmjjfaaDoor
