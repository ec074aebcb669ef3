/-
  The reference's mix, the number of a mix, dice and numbers below another: both sides are the plain ones, and nothing that was there is changed.
-/
import Derived.Test.YtgeophllbmjjfaaDoorDiI
namespace Go.Proofs.YtgeophllbmjjfaaDoor
open Go.RowKit

theorem shl31 (a : Int) (h0 : 0 ≤ a) (h1 : a ≤ 2147483647) : IntKind.i64.wrap (a * 2 ^ 31) = a * 2147483648 := by
  rw [show (2 : Int) ^ 31 = 2147483648 by decide]
  exact IntWalk.i64_in _ (by omega)


theorem rd2 (w : World) (x y : Int) (T : TypeId) : RdI (w.alloc (.cells #[.int .i64 x, .int .i64 y] T)) (.slice (some ⟨w.heap.size, 0, none⟩) 2 2) [x, y] := by
  refine ⟨_, _, rfl, fun _ => ⟨w.heap.size, 0, rfl, fun i z hz => ?_⟩⟩
  rcases i with _ | _ | i
  · simp at hz
    subst hz
    simp [go_sem]
  · simp at hz
    subst hz
    simp [go_sem]
  · simp at hz
theorem rd3 (w : World) (x y z : Int) (T : TypeId) : RdI (w.alloc (.cells #[.int .i64 x, .int .i64 y, .int .i64 z] T)) (.slice (some ⟨w.heap.size, 0, none⟩) 3 3) [x, y, z] := by
  refine ⟨_, _, rfl, fun _ => ⟨w.heap.size, 0, rfl, fun i z hz => ?_⟩⟩
  rcases i with _ | _ | _ | i
  · simp at hz
    subst hz
    simp [go_sem]
  · simp at hz
    subst hz
    simp [go_sem]
  · simp at hz
    subst hz
    simp [go_sem]
  · simp at hz

def dieN (s i : Int) : Int := 1 + (mixL [s, i]).1 % 6
def belN (s i n : Int) : Int := (mixL [s, i, n]).1 % n
theorem dieN_bd (s i : Int) : 1 ≤ dieN s i ∧ dieN s i ≤ 6 := by
  unfold dieN
  have := emod_bd (n := (mixL [s, i]).1) (m := 6) (by omega)
  omega

theorem belN_bd (s i n : Int) (hn : 1 ≤ n) : 0 ≤ belN s i n ∧ belN s i n < n := emod_bd (by omega)

end Go.Proofs.YtgeophllbmjjfaaDoor
