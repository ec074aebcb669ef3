/-
  Small facts on rows of cells that a call owns, and on lists to which one element is added.
-/
import Derived.Test.YtgeophllbmjjfaaDoorRowB
namespace Go.Proofs.YtgeophllbmjjfaaDoor
open Go.RowKit

theorem ownsRow_base {w : World} {base b : Nat} {e : TypeId} {size : Nat} {v : Value} {n : Nat} {xs : List Value} (h : w.ownsRow base e size v n xs) (hb : b ≤ base) : w.ownsRow b e size v n xs := by
  refine ⟨h.1, ?_⟩
  rcases h.2 with h | ⟨g, cap, cur, h1, h2, h3⟩
  · exact .inl h
  · exact .inr ⟨g, cap, cur, h1, by omega, h3⟩
theorem snoc_cases {α : Type} {l : List α} {a x : α} {i : Nat} (h : (l ++ [a])[i]? = some x) : (i < l.length ∧ l[i]? = some x) ∨ (i = l.length ∧ x = a) := by
  rcases Nat.lt_or_ge i l.length with hi | hi
  · rw [List.getElem?_append_left hi] at h
    exact .inl ⟨hi, h⟩
  · rw [List.getElem?_append_right hi] at h
    match e : i - l.length, h with
    | 0, h =>
      simp at h
      exact .inr ⟨by omega, h.symm⟩
    | n + 1, h => simp at h

end Go.Proofs.YtgeophllbmjjfaaDoor
