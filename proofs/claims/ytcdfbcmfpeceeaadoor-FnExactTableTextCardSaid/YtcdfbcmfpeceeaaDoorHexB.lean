/-
  More small functions on hexes: differences, shifts, valid or zero, comparing. They return what plain functions on integers say, and change nothing that was there.
-/
import Derived.Test.YtcdfbcmfpeceeaaDoorHex
import Derived.LoopTactic
import Derived.IntWalk
namespace Go.Proofs.YtcdfbcmfpeceeaaDoor
open Go.RowKit

def vI (b : Bool) (x : Int) : Int := if b = true then x else 0
abbrev ib (b : Bool) (x : Int) : Value := .tuple #[.int .i64 (vI b x), .bool b]
theorem vI_true (x : Int) : vI true x = x := rfl
theorem vI_false (x : Int) : vI false x = 0 := rfl
abbrev hb3 (b : Bool) (q r : Int) : Value := .tuple #[hx (vI b q) (vI b r), .bool b]

theorem shifted_any (q r dq dr : Int) (w : World) (h1 : -1000 ≤ q) (h2 : q ≤ 1000) (h3 : -1000 ≤ r) (h4 : r ≤ 1000) (h5 : -1000 ≤ dq) (h6 : dq ≤ 1000) (h7 : -1000 ≤ dr) (h8 : dr ≤ 1000) :
    Calls Tryd.prog 157 #[hx q r, hx dq dr] w fun e w' => e = .returned (hx (q + dq) (r + dr)) ∧ Kp w w' := by
  go_enter Tryd.func157, Tryd.ntmps157
  go_wp2
  exact bodyPost_ret (v := hx (q + dq) (r + dr)) (by simp [results, Tryd.results157, go_sem]) rfl ⟨rfl, (((Kp.refl _).alloc _).alloc _).alloc _⟩

theorem l1In_gen (n lo hi : Int) (w : World) :
    Calls Tryd.prog 63 #[.int .i64 n, .int .i64 lo, .int .i64 hi] w fun e w' => e = .returned (.bool (decide (lo ≤ n) && decide (n ≤ hi))) ∧ w = w' := by
  by_cases h1 : lo ≤ n
  · by_cases h2 : n ≤ hi
    · go_enter Tryd.func63, Tryd.ntmps63
      go_wp2
      go_ret
      exact ⟨ret_bool (by simp [h1, h2]), rfl⟩
    · have d2 : decide (n ≤ hi) = false := by simpa using h2
      go_enter Tryd.func63, Tryd.ntmps63
      go_wp2
      go_ret
      exact ⟨ret_bool (by simp), rfl⟩
  · have d1 : decide (lo ≤ n) = false := by simpa using h1
    go_enter Tryd.func63, Tryd.ntmps63
    go_wp2
    go_ret
    exact ⟨ret_bool (by simp), rfl⟩

theorem hb3_eq {b b' : Bool} {q r q' r' : Int} (h : b = b') (hq : q = q') (hr : r = r') : hb3 b q r = hb3 b' q' r' := by rw [h, hq, hr]

end Go.Proofs.YtcdfbcmfpeceeaaDoor
