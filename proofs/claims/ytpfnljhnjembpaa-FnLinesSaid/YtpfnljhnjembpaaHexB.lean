/-
  More small functions on hexes: differences, shifts, valid or zero, comparing. They return what plain functions on integers say, and change nothing that was there.
-/
import Derived.Test.YtpfnljhnjembpaaHex
import Derived.LoopTactic
import Derived.IntWalk
namespace Go.Proofs.Ytpfnljhnjembpaa
open Go.RowKit

def vI (b : Bool) (x : Int) : Int := if b = true then x else 0
theorem vI_true (x : Int) : vI true x = x := rfl
theorem vI_false (x : Int) : vI false x = 0 := rfl
abbrev hb3 (b : Bool) (q r : Int) : Value := .tuple #[hx (vI b q) (vI b r), .bool b]

theorem eqHex_any (aq ar bq br : Int) (w : World) :
    Calls Try.prog 33 #[hx aq ar, hx bq br] w fun e w' => e = .returned (.bool (decide (aq = bq) && decide (ar = br))) ∧ Kp w w' := by
  by_cases h1 : aq = bq
  · subst h1
    by_cases h2 : ar = br
    · subst h2
      go_enter Try.func33, Try.ntmps33
      go_wp2
      go_ret
      exact ⟨ret_bool (by simp), ((Kp.refl _).alloc _).alloc _⟩
    · have hd : (ar == br) = false := by simpa using h2
      have hd' : (ar != br) = true := by simpa using h2
      go_enter Try.func33, Try.ntmps33
      go_wp2
      go_ret
      exact ⟨ret_bool (by simp [h2]), ((Kp.refl _).alloc _).alloc _⟩
  · have hd : (aq == bq) = false := by simpa using h1
    have hd' : (aq != bq) = true := by simpa using h1
    go_enter Try.func33, Try.ntmps33
    go_wp2
    go_ret
    exact ⟨ret_bool (by simp [h1]), ((Kp.refl _).alloc _).alloc _⟩

theorem offsetTo_any (aq ar bq br : Int) (w : World) (h1 : -200 ≤ aq) (h2 : aq ≤ 200) (h3 : -200 ≤ ar) (h4 : ar ≤ 200) (h5 : -200 ≤ bq) (h6 : bq ≤ 200) (h7 : -200 ≤ br) (h8 : br ≤ 200) :
    Calls Try.prog 17 #[hx aq ar, hx bq br] w fun e w' => e = .returned (hx (bq - aq) (br - ar)) ∧ Kp w w' := by
  go_enter Try.func17, Try.ntmps17
  go_wp2
  exact bodyPost_ret (v := hx (bq - aq) (br - ar)) (by simp [results, Try.results17, go_sem]) rfl ⟨rfl, (((Kp.refl _).alloc _).alloc _).alloc _⟩

theorem l1In_gen (n lo hi : Int) (w : World) :
    Calls Try.prog 28 #[.int .i64 n, .int .i64 lo, .int .i64 hi] w fun e w' => e = .returned (.bool (decide (lo ≤ n) && decide (n ≤ hi))) ∧ w = w' := by
  by_cases h1 : lo ≤ n
  · by_cases h2 : n ≤ hi
    · go_enter Try.func28, Try.ntmps28
      go_wp2
      go_ret
      exact ⟨ret_bool (by simp [h1, h2]), rfl⟩
    · have d2 : decide (n ≤ hi) = false := by simpa using h2
      go_enter Try.func28, Try.ntmps28
      go_wp2
      go_ret
      exact ⟨ret_bool (by simp), rfl⟩
  · have d1 : decide (lo ≤ n) = false := by simpa using h1
    go_enter Try.func28, Try.ntmps28
    go_wp2
    go_ret
    exact ⟨ret_bool (by simp), rfl⟩

theorem hb3_eq {b b' : Bool} {q r q' r' : Int} (h : b = b') (hq : q = q') (hr : r = r') : hb3 b q r = hb3 b' q' r' := by rw [h, hq, hr]

end Go.Proofs.Ytpfnljhnjembpaa
