/-
  Slices of hexes as lists of pairs of integers; comparing two that hold the same list, marking one's cells and finding the marks again. Nothing else is changed.
-/
import Derived.Test.YtgeophllbmjjfaaDoorHexB
import Derived.Test.YtgeophllbmjjfaaDoorFar
import Derived.Laws.AppendOwn
import Derived.Laws.OwnMore
import Derived.OwnWalk
import Derived.Deep.RegionHeld3
namespace Go.Proofs.YtgeophllbmjjfaaDoor
open Go.RowKit

theorem Kp.grown {a w w' : World} {row : Option Nat} (h : Kp a w) (hg : w.grownBy w' row) (hr : ∀ k, row = some k → a.heap.size ≤ k) : Kp a w' := Below.grown h hg (Below.size h) hr

/-- The slice v reads as the list l of hexes. -/
def RdH (w : World) (v : Value) (l : List (Int × Int)) : Prop :=
  ∃ A c, v = .slice A l.length c ∧ (0 < l.length → ∃ g off, A = some ⟨g, off, none⟩ ∧ ∀ i x, l[i]? = some x → w.cell? ⟨g, off + i * 2, none⟩ = some (.int .i64 x.1) ∧ w.cell? ⟨g, off + i * 2 + 1, none⟩ = some (.int .i64 x.2))
theorem RdH.keep {w w' : World} {v : Value} {l : List (Int × Int)} (h : RdH w v l) (hk : Kp w w') : RdH w' v l := by
  obtain ⟨A, c, rfl, h⟩ := h
  refine ⟨A, c, rfl, fun h0 => ?_⟩
  obtain ⟨g, off, rfl, hc⟩ := h h0
  exact ⟨g, off, rfl, fun i x hx => ⟨hk.cell (hc i x hx).1, hk.cell (hc i x hx).2⟩⟩

/-- The cells of a list of hexes. -/
def cellsH : List (Int × Int) → List Value
  | [] => []
  | x :: l => .int .i64 x.1 :: .int .i64 x.2 :: cellsH l
theorem cellsH_length : ∀ l, (cellsH l).length = l.length * 2
  | [] => rfl
  | x :: l => by simp only [cellsH, List.length_cons, cellsH_length l]; omega
theorem cellsH_append : ∀ l m, cellsH (l ++ m) = cellsH l ++ cellsH m
  | [], _ => rfl
  | x :: l, m => by simp only [cellsH, List.cons_append, cellsH_append l m]
theorem cellsH_at : ∀ (l : List (Int × Int)) (i : Nat) (x : Int × Int), l[i]? = some x → (cellsH l)[i * 2]? = some (.int .i64 x.1) ∧ (cellsH l)[i * 2 + 1]? = some (.int .i64 x.2)
  | [], _, _, h => by simp at h
  | y :: l, 0, x, h => by
    simp only [List.getElem?_cons_zero, Option.some.injEq] at h
    subst h
    exact ⟨rfl, rfl⟩
  | y :: l, i + 1, x, h => by
    have := cellsH_at l i x (by simpa using h)
    have e1 : (i + 1) * 2 = i * 2 + 1 + 1 := by omega
    rw [e1]
    exact ⟨by simpa [cellsH] using this.1, by simpa [cellsH] using this.2⟩

theorem ownsRow_keep {w w' : World} {base : Nat} {e : TypeId} {size : Nat} {v : Value} {n : Nat} {xs : List Value} (h : w.ownsRow base e size v n xs) (hk : Kp w w') : w'.ownsRow base e size v n xs :=
  h.kept (row := none) ⟨hk.os, hk.tape, hk.output, hk.size, fun k hlt _ => hk.block k hlt⟩ (by cases hv : v.ownBlock <;> simp)
end Go.Proofs.YtgeophllbmjjfaaDoor
