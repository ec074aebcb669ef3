/-
  A box of three numbers that may be written.
-/
import Derived.Test.YtpenimbmonenpaaDoorRowC
namespace Go.Proofs.YtpenimbmonenpaaDoor
open Go.RowKit

/-- A box of three numbers that may be written. -/
def Bx3 (W : World) (g : Nat) (a b c : Int) : Prop := (W.cell? ⟨g, 0, none⟩ = some (.int .i64 a) ∧ W.cell? ⟨g, 1, none⟩ = some (.int .i64 b) ∧ W.cell? ⟨g, 2, none⟩ = some (.int .i64 c)) ∧ W.frozen? ⟨g, 0, none⟩ = false ∧ W.frozen? ⟨g, 1, none⟩ = false ∧ W.frozen? ⟨g, 2, none⟩ = false
theorem Bx3.keep {W W' : World} {g : Nat} {a b c : Int} (h : Bx3 W g a b c) (k : Kp W W') : Bx3 W' g a b c := by
  have hlt : g < W.heap.size := cell_lt h.1.1
  exact ⟨⟨k.cell h.1.1, k.cell h.1.2.1, k.cell h.1.2.2⟩, (k.cells.2 g 0 hlt).trans h.2.1, (k.cells.2 g 1 hlt).trans h.2.2.1, (k.cells.2 g 2 hlt).trans h.2.2.2⟩
theorem Bx3.drew {W : World} {g : Nat} {a b c : Int} (h : Bx3 W g a b c) : Bx3 W.drew g a b c := h
theorem Bx3.new (w : World) (a b c : Int) (t : TypeId) : Bx3 (w.alloc (.cells #[.int .i64 a, .int .i64 b, .int .i64 c] t)) w.heap.size a b c :=
  ⟨⟨by simp [go_sem], by simp [go_sem], by simp [go_sem]⟩, by simp [go_sem], by simp [go_sem], by simp [go_sem]⟩
end Go.Proofs.YtpenimbmonenpaaDoor
