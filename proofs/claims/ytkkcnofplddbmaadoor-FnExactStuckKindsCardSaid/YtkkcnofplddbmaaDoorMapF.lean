/-
  The functions on places and edges of a map, the program's and the reference's, return what plain functions say, and change nothing that was there. The table of directions holds what the program's text lays.
-/
import Derived.Test.YtkkcnofplddbmaaDoorGood
namespace Go.Proofs.YtkkcnofplddbmaaDoor
open Go.RowKit

theorem mapOk_side {W H : Int} {lt lr ld : List Int} (h : mapOk W H lt lr ld = true) : 1 ≤ W ∧ W ≤ 10 ∧ 1 ≤ H ∧ H ≤ 10 := by
  simp only [mapOk, Bool.and_eq_true] at h
  exact ⟨(sideB_true h.1).1, (sideB_true h.1).2, (sideB_true h.2.1).1, (sideB_true h.2.1).2⟩

theorem l1In_dir (x : Int) (w : World) : Calls Tryd.prog 91 #[.int .i64 x, .int .i64 0, .int .i64 5] w fun e w' => e = .returned (.bool (dirB x)) ∧ w = w' := l1In_gen x 0 5 w

theorem edgesOk_one (W H x : Int) : edgesOk W H [x] = edgeB W H x := by
  unfold edgesOk edgesFrom edgesFrom
  cases h : edgeB W H x
  · rfl
  · have := inB_true (edgeB_true h)
    simp
    omega
theorem one_newI (w : World) (v : Value) (T : TypeId) (x : Int) (hv : v = .int .i64 x) : RdI (w.alloc (.cells #[v] T)) (.slice (some ⟨w.heap.size, 0, none⟩) 1 1) [x] := by
  subst hv
  refine ⟨_, _, rfl, fun _ => ⟨w.heap.size, 0, rfl, fun i y hy => ?_⟩⟩
  match i, hy with
  | 0, hy =>
    simp at hy
    subst hy
    simp [go_sem]
end Go.Proofs.YtkkcnofplddbmaaDoor
