/-
  The reference's tests of numbers within a range, one and all of a list.
-/
import Derived.Test.YtpenimbmonenpaaDoorRulM
import Derived.Test.YtpenimbmonenpaaDoorInts
namespace Go.Proofs.YtpenimbmonenpaaDoor
open Go.RowKit

theorem drop_step {α : Type} {l : List α} {k : Nat} {x : α} (h : l[k]? = some x) : l.drop k = x :: l.drop (k + 1) := by
  obtain ⟨hk, rfl⟩ := List.getElem?_eq_some_iff.1 h
  exact List.drop_eq_getElem_cons hk
theorem all_no {f : Int → Bool} {x : Int} {l : List Int} (h : f x = false) : (x :: l).all f = false := by simp [h]
theorem all_go {f : Int → Bool} {x : Int} {l : List Int} (h : f x = true) : (x :: l).all f = l.all f := by simp [h]
theorem l1In_sp (n lo hi : Int) (w : World) :
    Calls Tryd.prog 20 #[.int .i64 n, .int .i64 lo, .int .i64 hi] w fun e w' => e = .returned (.bool (spB lo hi n)) ∧ w = w' := l1In_gen n lo hi w

theorem upto_more {f : Nat → Bool} {k : Nat} (h : f k = true) (hn : ∀ j, j < k → f j = true) : ∀ j, j < k + 1 → f j = true := fun j hj => by
  rcases Nat.lt_or_ge j k with h1 | h1
  · exact hn j h1
  · obtain rfl : j = k := by omega
    exact h

end Go.Proofs.YtpenimbmonenpaaDoor
