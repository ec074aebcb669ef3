/-
  A range of permitted numbers: whether a number lies in it, and a variable that holds one.
-/
import Derived.Test.YtgeophllbmjjfaaDoorRulM
import Derived.Deep.RegionHeld3
namespace Go.Proofs.YtgeophllbmjjfaaDoor
open Go.RowKit

theorem has_any (lo hi n : Int) (w : World) :
    Calls Tryd.prog 41 #[.agg #[.int .i64 lo, .int .i64 hi], .int .i64 n] w fun e w' => e = .returned (.bool (spB lo hi n)) ∧ Kp w w' := by
  by_cases h1 : lo ≤ n
  · by_cases h2 : n ≤ hi
    · go_enter Tryd.func41, Tryd.ntmps41
      go_wp2
      go_ret
      exact ⟨ret_bool (by simp [spB, h1, h2]), (Kp.refl _).alloc _⟩
    · have hd : decide (n ≤ hi) = false := by simpa using h2
      go_enter Tryd.func41, Tryd.ntmps41
      go_wp2
      go_ret
      exact ⟨ret_bool (by simp [spB]; omega), (Kp.refl _).alloc _⟩
  · have hd : decide (lo ≤ n) = false := by simpa using h1
    go_enter Tryd.func41, Tryd.ntmps41
    go_wp2
    go_ret
    exact ⟨ret_bool (by simp [spB]; omega), (Kp.refl _).alloc _⟩

def SpanAt (w : World) (g : Nat) (lo hi : Int) : Prop := w.cell? ⟨g, 0, none⟩ = some (.int .i64 lo) ∧ w.cell? ⟨g, 1, none⟩ = some (.int .i64 hi)

end Go.Proofs.YtgeophllbmjjfaaDoor
