/-
  Marking the cells of slices of integers that the call owns with k, k+1, .., and finding the marks again.
-/
import Derived.Test.YtpenimbmonenpaaDoorInts
namespace Go.Proofs.YtpenimbmonenpaaDoor
open Go.RowKit

theorem marks1_step (k0 : Int) (xs : List Value) (t n : Nat) (hl : xs.length = n * 1) (ht : t < n) :
    (marks k0 t ++ xs.drop t).set t (.int .i64 (k0 + t)) = marks k0 (t + 1) ++ xs.drop (t + 1) := by
  apply List.ext_getElem?
  intro j
  rw [List.getElem?_set]
  simp only [List.length_append, marks_length, List.length_drop]
  by_cases h1 : t = j
  · subst h1
    rw [if_pos rfl, if_pos (by omega), List.getElem?_append_left (by rw [marks_length]; omega), marks_at _ _ _ (by omega)]
  · rw [if_neg h1]
    by_cases h3 : j < t
    · rw [List.getElem?_append_left (by rw [marks_length]; omega), List.getElem?_append_left (by rw [marks_length]; omega), marks_at _ _ _ h3, marks_at _ _ _ (by omega)]
    · rw [List.getElem?_append_right (by rw [marks_length]; omega), List.getElem?_append_right (by rw [marks_length]; omega), marks_length, marks_length, List.getElem?_drop, List.getElem?_drop]
      congr 1
      omega

theorem OwnI.block' {w : World} {base : Nat} {v : Value} {l : List Int} (h : OwnI w base v l) (g : Nat) (hg : w.heap.size ≤ g) : v.ownBlock ≠ some g := fun e => by
  have := (World.ownsRow.lt h g e).2
  omega

theorem apart_ne {x y : Value} (h : ∀ g, x.ownBlock = some g → y.ownBlock ≠ some g) : y.ownBlock = none ∨ y.ownBlock ≠ x.ownBlock := by
  cases hy : y.ownBlock
  · exact .inl rfl
  · rename_i g
    exact .inr fun e => h g e.symm hy
theorem apart_sym {x y : Value} (h : ∀ g, x.ownBlock = some g → y.ownBlock ≠ some g) : ∀ g, y.ownBlock = some g → x.ownBlock ≠ some g := fun g hy hx => h g hx hy

end Go.Proofs.YtpenimbmonenpaaDoor
