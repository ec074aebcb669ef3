/-
  New lists of numbers: none, one more; a call's answer that is a list and whether there is one.
-/
import Derived.Test.YtgeophllbmjjfaaDoorInts
namespace Go.Proofs.YtgeophllbmjjfaaDoor
open Go.RowKit

/-- A new list of numbers and true, or none and false. -/
def ListPostI (ok : Bool) (l : List Int) (w : World) (e : Ending) (w' : World) : Prop :=
  ∃ v, e = .returned (.tuple #[v, .bool ok]) ∧ OwnI w' w.heap.size v (if ok = true then l else []) ∧ Kp w w'
theorem OwnI.nil (w : World) (base : Nat) : OwnI w base (.slice none 0 0) [] := World.ownsRow_nil w base _ 1
theorem ListPostI.no {l : List Int} {w w' : World} (hk : Kp w w') : ListPostI false l w (.returned (.tuple #[.slice none 0 0, .bool false])) w' := ⟨_, rfl, OwnI.nil _ _, hk⟩
theorem OwnI.snoc {w : World} {base : Nat} {v : Value} {l : List Int} {x : Int} (h : w.ownsRow base 3 1 v (l.length + 1) (cellsI l ++ [.int .i64 x])) : OwnI w base v (l ++ [x]) := by
  unfold OwnI cellsI
  rw [List.map_append, List.length_append]
  exact h
theorem one_cell (w : World) (x : Value) (t : TypeId) : ∀ j u, [x][j]? = some u → (w.alloc (.cells #[x] t)).cell? ((⟨w.heap.size, 0, none⟩ : Addr).add j) = some u := by
  intro j u hj
  match j, hj with
  | 0, hj => simp at hj; subst hj; simp [Addr.add]

end Go.Proofs.YtgeophllbmjjfaaDoor
