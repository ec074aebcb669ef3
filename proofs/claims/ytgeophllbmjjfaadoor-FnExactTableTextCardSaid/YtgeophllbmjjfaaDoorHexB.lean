/-
  More small functions on hexes: differences, shifts, valid or zero, comparing. They return what plain functions on integers say, and change nothing that was there.
-/
import Derived.Test.YtgeophllbmjjfaaDoorHex
import Derived.LoopTactic
import Derived.IntWalk
namespace Go.Proofs.YtgeophllbmjjfaaDoor
open Go.RowKit

def vI (b : Bool) (x : Int) : Int := if b = true then x else 0
abbrev ib (b : Bool) (x : Int) : Value := .tuple #[.int .i64 (vI b x), .bool b]
theorem vI_true (x : Int) : vI true x = x := rfl
theorem vI_false (x : Int) : vI false x = 0 := rfl
abbrev hb3 (b : Bool) (q r : Int) : Value := .tuple #[hx (vI b q) (vI b r), .bool b]

theorem l1In_gen (n lo hi : Int) (w : World) :
    Calls Tryd.prog 34 #[.int .i64 n, .int .i64 lo, .int .i64 hi] w fun e w' => e = .returned (.bool (decide (lo ≤ n) && decide (n ≤ hi))) ∧ w = w' := by
  by_cases h1 : lo ≤ n
  · by_cases h2 : n ≤ hi
    · go_enter Tryd.func34, Tryd.ntmps34
      go_wp2
      go_ret
      exact ⟨ret_bool (by simp [h1, h2]), rfl⟩
    · have d2 : decide (n ≤ hi) = false := by simpa using h2
      go_enter Tryd.func34, Tryd.ntmps34
      go_wp2
      go_ret
      exact ⟨ret_bool (by simp), rfl⟩
  · have d1 : decide (lo ≤ n) = false := by simpa using h1
    go_enter Tryd.func34, Tryd.ntmps34
    go_wp2
    go_ret
    exact ⟨ret_bool (by simp), rfl⟩

theorem hb3_eq {b b' : Bool} {q r q' r' : Int} (h : b = b') (hq : q = q') (hr : r = r') : hb3 b q r = hb3 b' q' r' := by rw [h, hq, hr]

end Go.Proofs.YtgeophllbmjjfaaDoor
