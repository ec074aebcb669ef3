/-
  The mix of a list of numbers: the program's and the reference's are the plain one, and nothing that was there is changed.
-/
import Derived.Test.YtgeophllbmjjfaaDoorDiM
import Derived.Test.YtgeophllbmjjfaaDoorSpanB
import Derived.Test.YtgeophllbmjjfaaDoorListI
import Derived.StillTailTactics
import Derived.Deep.Cut
import Derived.Maps.AppendAt
namespace Go.Proofs.YtgeophllbmjjfaaDoor
open Go.RowKit

/-- A box of two numbers that may be written. -/
def Bx (W : World) (g : Nat) (a b : Int) : Prop := W.cell? ⟨g, 0, none⟩ = some (.int .i64 a) ∧ W.cell? ⟨g, 1, none⟩ = some (.int .i64 b) ∧ W.frozen? ⟨g, 0, none⟩ = false ∧ W.frozen? ⟨g, 1, none⟩ = false
theorem Bx.keep {W W' : World} {g : Nat} {a b : Int} (h : Bx W g a b) (k : Kp W W') : Bx W' g a b := by
  have hlt : g < W.heap.size := cell_lt h.1
  exact ⟨k.cell h.1, k.cell h.2.1, (k.cells.2 g 0 hlt).trans h.2.2.1, (k.cells.2 g 1 hlt).trans h.2.2.2⟩
theorem Bx.drew {W : World} {g : Nat} {a b : Int} (h : Bx W g a b) : Bx W.drew g a b := h
theorem Bx.set0 {W : World} {g : Nat} {a b : Int} (h : Bx W g a b) (x : Int) : Bx (W.setCell ⟨g, 0, none⟩ (.int .i64 x)) g x b := by
  obtain ⟨h0, h1, f0, f1⟩ := h
  exact ⟨by simp [go_sem, *], by simp [go_sem, *], by simp [go_sem, *], by simp [go_sem, *]⟩
theorem Bx.set1 {W : World} {g : Nat} {a b : Int} (h : Bx W g a b) (x : Int) : Bx (W.setCell ⟨g, 1, none⟩ (.int .i64 x)) g a x := by
  obtain ⟨h0, h1, f0, f1⟩ := h
  exact ⟨by simp [go_sem, *], by simp [go_sem, *], by simp [go_sem, *], by simp [go_sem, *]⟩
theorem Bx.far {W : World} {g : Nat} {a b : Int} (h : Bx W g a b) {q o : Nat} (hp : q ≠ g) (u : Value) : Bx (W.setCell ⟨q, o, none⟩ u) g a b := by
  obtain ⟨h0, h1, f0, f1⟩ := h
  have hq : g ≠ q := fun e => hp e.symm
  exact ⟨by simp [go_sem, *], by simp [go_sem, *], by simp [go_sem, *], by simp [go_sem, *]⟩
theorem Bx.new (w : World) (a b : Int) (t : TypeId) : Bx (w.alloc (.cells #[.int .i64 a, .int .i64 b] t)) w.heap.size a b :=
  ⟨by simp [go_sem], by simp [go_sem], by simp [go_sem], by simp [go_sem]⟩

end Go.Proofs.YtgeophllbmjjfaaDoor
