/-
  What a function says that returns a new list of hexes and true, or none and false; small facts on slices of hexes that a call owns.
-/
import Derived.Test.YtgeophllbmjjfaaDoorMark
import Derived.Laws.MakeOwn
namespace Go.Proofs.YtgeophllbmjjfaaDoor
open Go.RowKit

def allOk (l : List (Int × Int)) : Bool := l.all fun x => okH x.1 x.2
theorem allOk_false {l : List (Int × Int)} {i : Nat} {x : Int × Int} (hx : l[i]? = some x) (h : okH x.1 x.2 = false) : allOk l = false := by
  unfold allOk
  rw [List.all_eq_false]
  exact ⟨x, List.mem_of_getElem? hx, by simp [h]⟩
theorem allOk_true {l : List (Int × Int)} (h : ∀ (i : Nat) x, l[i]? = some x → okH x.1 x.2 = true) : allOk l = true := by
  unfold allOk
  rw [List.all_eq_true]
  intro x hx
  obtain ⟨i, hi, rfl⟩ := List.mem_iff_getElem.1 hx
  exact h i _ (List.getElem?_eq_getElem hi)

theorem grown_set (w : World) (g j : Nat) (u : Value) : w.grownBy (w.setCell ⟨g, j, none⟩ u) (some g) :=
  ⟨rfl, rfl, rfl, by simp, fun k _ hk => heap_setCell_other w ⟨g, j, none⟩ k u (fun e => hk (by simp [e]))⟩
theorem grown_frozen {w w' : World} {row : Option Nat} (hg : w.grownBy w' row) {b o : Nat} {v : Value} (h : w.cell? ⟨b, o, none⟩ = some v) (hne : some b ≠ row) (hf : w.frozen? ⟨b, o, none⟩ = false) : w'.frozen? ⟨b, o, none⟩ = false :=
  (World.frozen?_of_block (hg.block b (cell_lt h) hne)).trans hf

theorem two_new (w : World) (x y : Value) (t : TypeId) : ∀ j u, [x, y][j]? = some u → (w.alloc (.cells #[x, y] t)).cell? ((⟨w.heap.size, 0, none⟩ : Addr).add j) = some u := by
  intro j u hj
  match j, hj with
  | 0, hj => simp at hj; subst hj; simp [Addr.add]
  | 1, hj => simp at hj; subst hj; simp [Addr.add]

end Go.Proofs.YtgeophllbmjjfaaDoor
