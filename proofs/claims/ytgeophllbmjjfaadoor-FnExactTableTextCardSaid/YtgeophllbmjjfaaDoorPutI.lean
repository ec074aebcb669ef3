/-
  A store into a list of integers that the call owns; a new list of zeros.
-/
import Derived.Test.YtgeophllbmjjfaaDoorListI
namespace Go.Proofs.YtgeophllbmjjfaaDoor
open Go.RowKit

theorem cellsI_set (l : List Int) (k : Nat) (x : Int) : cellsI (l.set k x) = (cellsI l).set k (.int .i64 x) := by simp [cellsI, List.map_set]
theorem cellsI_zero (n : Nat) : (madeCells #[.int .i64 0] n).toList = cellsI (List.replicate n 0) := by
  apply List.ext_getElem?
  intro i
  by_cases h : i < n
  · have : i % 1 = 0 := Nat.mod_one i
    simp [madeCells, cellsI, h, this]
  · simp [madeCells, cellsI, h]
/-- The cell at k, that it may be written, and what is owned when it has been. -/
theorem OwnI.put {w : World} {base n g cap : Nat} {l : List Int} (h : OwnI w base (.slice (some ⟨g, 0, none⟩) n cap) l) (hn : l.length = n) {k : Nat} (hk : k < n) (x : Int) :
    (∃ u, w.cell? ⟨g, k, none⟩ = some u) ∧ w.frozen? ⟨g, k, none⟩ = false ∧ OwnI (w.setCell ⟨g, k, none⟩ (.int .i64 x)) base (.slice (some ⟨g, 0, none⟩) n cap) (l.set k x) := by
  subst hn
  have ho : w.ownsRow base 3 1 (.slice (some ⟨g, 0, none⟩) l.length cap) l.length (cellsI l) := h
  have hlen : (cellsI l).length = l.length * 1 := ho.1
  refine ⟨⟨_, (ho.cellAt k (by omega)).trans (List.getElem?_eq_getElem (by omega))⟩, ho.frozenAt k, ?_⟩
  have o1 := (ho.stored k (.int .i64 x)).1
  unfold OwnI
  rw [cellsI_set, List.length_set]
  exact o1

theorem ownI_zero (w : World) (n : Nat) (hn : n ≤ 1048576) : OwnI (w.alloc (.cells (madeCells #[.int .i64 0] n) 3)) w.heap.size (.slice (some ⟨w.heap.size, 0, none⟩) n n) (List.replicate n 0) := by
  have own0 : (w.alloc (.cells (madeCells #[.int .i64 0] n) 3)).ownsRow w.heap.size 3 1 (.slice (some ⟨w.heap.size, 0, none⟩) n n) n (madeCells #[.int .i64 0] n).toList :=
    World.ownsRow_lit w _ n (Nat.le_refl _) (by simp only [maxLen]; omega) (by rw [size_madeCells, Nat.mul_one])
  rw [cellsI_zero] at own0
  unfold OwnI
  rw [List.length_replicate]
  exact own0

end Go.Proofs.YtgeophllbmjjfaaDoor
