/-
  Marking the cells of a slice of hexes that the call owns with k, k+1, .., and finding the marks again.
-/
import Derived.Test.YtgeophllbmjjfaaDoorRow
import Derived.Maps.AppendAt
namespace Go.Proofs.YtgeophllbmjjfaaDoor
open Go.RowKit

def marks (k0 : Int) (m : Nat) : List Value := (List.range m).map fun j : Nat => .int .i64 (k0 + (j : Int))
theorem marks_at (k0 : Int) (m j : Nat) (h : j < m) : (marks k0 m)[j]? = some (.int .i64 (k0 + j)) := by simp [marks, h]
theorem marks_length (k0 : Int) (m : Nat) : (marks k0 m).length = m := by simp [marks]

theorem marks_step (k0 : Int) (xs : List Value) (t n : Nat) (hl : xs.length = n * 2) (ht : t < n) :
    ((marks k0 (t * 2) ++ xs.drop (t * 2)).set (t * 2) (.int .i64 (k0 + (t * 2 : Nat)))).set (t * 2 + 1) (.int .i64 (k0 + (t * 2 + 1 : Nat))) = marks k0 ((t + 1) * 2) ++ xs.drop ((t + 1) * 2) := by
  apply List.ext_getElem?
  intro j
  rw [List.getElem?_set, List.getElem?_set]
  simp only [List.length_set, List.length_append, marks_length, List.length_drop]
  by_cases h1 : t * 2 + 1 = j
  · subst h1
    rw [if_pos rfl, if_pos (by omega), List.getElem?_append_left (by rw [marks_length]; omega), marks_at _ _ _ (by omega)]
  · rw [if_neg h1]
    by_cases h2 : t * 2 = j
    · subst h2
      rw [if_pos rfl, if_pos (by omega), List.getElem?_append_left (by rw [marks_length]; omega), marks_at _ _ _ (by omega)]
    · rw [if_neg h2]
      by_cases h3 : j < t * 2
      · rw [List.getElem?_append_left (by rw [marks_length]; omega), List.getElem?_append_left (by rw [marks_length]; omega), marks_at _ _ _ h3, marks_at _ _ _ (by omega)]
      · rw [List.getElem?_append_right (by rw [marks_length]; omega), List.getElem?_append_right (by rw [marks_length]; omega), marks_length, marks_length, List.getElem?_drop, List.getElem?_drop]
        congr 1
        omega

end Go.Proofs.YtgeophllbmjjfaaDoor
