/-
  Dice and numbers below another of a seed by the reference; the mix of a list by both sides. Nothing that was there is changed.
-/
import Derived.Test.YtpenimbmonenpaaDoorDiK
namespace Go.Proofs.YtpenimbmonenpaaDoor
open Go.RowKit

theorem dSeed_any (s : Int) (w : World) :
    Calls Tryd.prog 21 #[.int .i64 s] w fun e w' => e = .returned (.bool (seedB s)) ∧ w = w' := by
  have C := Lib.hid (l1In_sp s 0 4611686016279904236 w)
  have hE := Lib.hid (show spB 0 4611686016279904236 s = seedB s from rfl)
  generalize seedB s = X at *
  generalize spB 0 4611686016279904236 s = Y at *
  go_enter Tryd.func21, Tryd.ntmps21
  go_wp2_with fail
  refine C.out.mono ?_
  rintro e1 w1 ⟨rfl, rfl⟩
  go_wp2_with fail
  go_ret
  exact ⟨ret_bool hE.out, rfl⟩

theorem belX (s i n : Int) : belB s i n = (dieB s i && spB 1 1000000 n) := by simp [belB, dieB, Bool.and_assoc]
theorem dicX (s i n : Int) : dicB s i n = (dieB s i && (spB 0 8 n && decide (i + n ≤ 1000001))) := by simp [dicB, dieB, Bool.and_assoc]

def mixB (l : List Int) : Bool := decide (l.length ≤ 200)
end Go.Proofs.YtpenimbmonenpaaDoor
