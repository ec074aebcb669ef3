/-
  What a function says that returns a new list of hexes and true, or none and false; small facts on slices of hexes that a call owns.
-/
import Derived.Test.YtmodcmkmfedgoaaDoorMark
import Derived.Laws.MakeOwn
namespace Go.Proofs.YtmodcmkmfedgoaaDoor
open Go.RowKit

def allOk (l : List (Int × Int)) : Bool := l.all fun x => okH x.1 x.2
theorem allOk_false {l : List (Int × Int)} {i : Nat} {x : Int × Int} (hx : l[i]? = some x) (h : okH x.1 x.2 = false) : allOk l = false := by
  unfold allOk
  rw [List.all_eq_false]
  exact ⟨x, List.mem_of_getElem? hx, by simp [h]⟩
theorem allOk_true {l : List (Int × Int)} (h : ∀ (i : Nat) x, l[i]? = some x → okH x.1 x.2 = true) : allOk l = true := by
  unfold allOk
  rw [List.all_eq_true]
  intro x hx
  obtain ⟨i, hi, rfl⟩ := List.mem_iff_getElem.1 hx
  exact h i _ (List.getElem?_eq_getElem hi)

/-- A new list of hexes and true, or none and false. -/
def ListPost (ok : Bool) (l : List (Int × Int)) (w : World) (e : Ending) (w' : World) : Prop :=
  ∃ v, e = .returned (.tuple #[v, .bool ok]) ∧ OwnH w' w.heap.size v (if ok = true then l else []) ∧ Kp w w'
theorem OwnH.nil (w : World) (base : Nat) : OwnH w base (.slice none 0 0) [] := World.ownsRow_nil w base _ 2
theorem ListPost.no {l : List (Int × Int)} {w w' : World} (hk : Kp w w') : ListPost false l w (.returned (.tuple #[.slice none 0 0, .bool false])) w' := ⟨_, rfl, OwnH.nil _ _, hk⟩

theorem grown_set (w : World) (g j : Nat) (u : Value) : w.grownBy (w.setCell ⟨g, j, none⟩ u) (some g) :=
  ⟨rfl, rfl, rfl, by simp, fun k _ hk => heap_setCell_other w ⟨g, j, none⟩ k u (fun e => hk (by simp [e]))⟩
theorem OwnH.far {w : World} {base : Nat} {v : Value} {l : List (Int × Int)} (h : OwnH w base v l) {g j : Nat} (hne : v.ownBlock ≠ some g) (u : Value) : OwnH (w.setCell ⟨g, j, none⟩ u) base v l :=
  World.ownsRow.kept h (grown_set w g j u) (.inr hne)
theorem OwnH.snoc {w : World} {base : Nat} {v : Value} {l : List (Int × Int)} {x : Int × Int} (h : w.ownsRow base 25 2 v (l.length + 1) (cellsH l ++ [.int .i64 x.1, .int .i64 x.2])) : OwnH w base v (l ++ [x]) := by
  unfold OwnH
  rw [cellsH_append, List.length_append]
  exact h
theorem OwnH.block {w : World} {base : Nat} {v : Value} {l : List (Int × Int)} (h : OwnH w base v l) (g : Nat) (hg : w.heap.size ≤ g) : v.ownBlock ≠ some g := fun e => by
  have := (World.ownsRow.lt h g e).2
  omega
theorem OwnH.from_ {w : World} {base : Nat} {v : Value} {l : List (Int × Int)} (h : OwnH w base v l) : ∀ k, v.ownBlock = some k → base ≤ k := fun k e => (World.ownsRow.lt h k e).1
theorem grown_frozen {w w' : World} {row : Option Nat} (hg : w.grownBy w' row) {b o : Nat} {v : Value} (h : w.cell? ⟨b, o, none⟩ = some v) (hne : some b ≠ row) (hf : w.frozen? ⟨b, o, none⟩ = false) : w'.frozen? ⟨b, o, none⟩ = false :=
  (World.frozen?_of_block (hg.block b (cell_lt h) hne)).trans hf

theorem infoHex : (Tryd.prog.info? 25).map (fun i => (i.zero, i.size, i.bytes)) = some (some (hx 0 0), 2, 16) := by kernel_rfl
theorem two_new (w : World) (x y : Value) (t : TypeId) : ∀ j u, [x, y][j]? = some u → (w.alloc (.cells #[x, y] t)).cell? ((⟨w.heap.size, 0, none⟩ : Addr).add j) = some u := by
  intro j u hj
  match j, hj with
  | 0, hj => simp at hj; subst hj; simp [Addr.add]
  | 1, hj => simp at hj; subst hj; simp [Addr.add]

end Go.Proofs.YtmodcmkmfedgoaaDoor
