/-
  More small functions on hexes: differences, shifts, valid or zero, comparing. They return what plain functions on integers say, and change nothing that was there.
-/
import Derived.Test.YtmodcmkmfedgoaaDoorHex
import Derived.LoopTactic
import Derived.IntWalk
namespace Go.Proofs.YtmodcmkmfedgoaaDoor
open Go.RowKit

def vI (b : Bool) (x : Int) : Int := if b = true then x else 0
abbrev ib (b : Bool) (x : Int) : Value := .tuple #[.int .i64 (vI b x), .bool b]
theorem vI_true (x : Int) : vI true x = x := rfl
theorem vI_false (x : Int) : vI false x = 0 := rfl
abbrev hb3 (b : Bool) (q r : Int) : Value := .tuple #[hx (vI b q) (vI b r), .bool b]

theorem shifted_any (q r dq dr : Int) (w : World) (h1 : -1000 ≤ q) (h2 : q ≤ 1000) (h3 : -1000 ≤ r) (h4 : r ≤ 1000) (h5 : -1000 ≤ dq) (h6 : dq ≤ 1000) (h7 : -1000 ≤ dr) (h8 : dr ≤ 1000) :
    Calls Tryd.prog 22 #[hx q r, hx dq dr] w fun e w' => e = .returned (hx (q + dq) (r + dr)) ∧ Kp w w' := by
  go_enter Tryd.func22, Tryd.ntmps22
  go_wp2
  exact bodyPost_ret (v := hx (q + dq) (r + dr)) (by simp [results, Tryd.results22, go_sem]) rfl ⟨rfl, (((Kp.refl _).alloc _).alloc _).alloc _⟩

theorem offsetTo_any (aq ar bq br : Int) (w : World) (h1 : -200 ≤ aq) (h2 : aq ≤ 200) (h3 : -200 ≤ ar) (h4 : ar ≤ 200) (h5 : -200 ≤ bq) (h6 : bq ≤ 200) (h7 : -200 ≤ br) (h8 : br ≤ 200) :
    Calls Tryd.prog 28 #[hx aq ar, hx bq br] w fun e w' => e = .returned (hx (bq - aq) (br - ar)) ∧ Kp w w' := by
  go_enter Tryd.func28, Tryd.ntmps28
  go_wp2
  exact bodyPost_ret (v := hx (bq - aq) (br - ar)) (by simp [results, Tryd.results28, go_sem]) rfl ⟨rfl, (((Kp.refl _).alloc _).alloc _).alloc _⟩

theorem onlyValid_any (q r : Int) (w : World) :
    Calls Tryd.prog 43 #[hx q r] w fun e w' => e = .returned (hb3 (okH q r) q r) ∧ Kp w w' := by
  cases ha : okH q r
  · go_enter Tryd.func43, Tryd.ntmps43
    go_wp2_with (go_at_call 20; refine (isHex_any _ _ _).mono ?_; rintro e w1 ⟨rfl, hk⟩; obtain ⟨hc, hf⟩ := hk.cells; have hz : w.heap.size < w1.heap.size := (by have := hk.size; (try simp at this); omega); have hz' : w.heap.size + 1 < w1.heap.size := (by have := hk.size; (try simp at this); omega))
    exact bodyPost_ret (v := hb3 false q r) (by simp [results, Tryd.results43, go_sem, hc, vI]) rfl ⟨rfl, (((((Kp.refl _).alloc _).alloc _).trans hk).setCell (by simp) _).setCell (by simp) _⟩
  · go_enter Tryd.func43, Tryd.ntmps43
    go_wp2_with (go_at_call 20; refine (isHex_any _ _ _).mono ?_; rintro e w1 ⟨rfl, hk⟩; obtain ⟨hc, hf⟩ := hk.cells; have hz : w.heap.size < w1.heap.size := (by have := hk.size; (try simp at this); omega); have hz' : w.heap.size + 1 < w1.heap.size := (by have := hk.size; (try simp at this); omega))
    exact bodyPost_ret (v := hb3 true q r) (by simp [results, Tryd.results43, go_sem, hc, vI]) rfl ⟨rfl, (((((Kp.refl _).alloc _).alloc _).trans hk).setCell (by simp) _).setCell (by simp) _⟩

theorem l1In_gen (n lo hi : Int) (w : World) :
    Calls Tryd.prog 25 #[.int .i64 n, .int .i64 lo, .int .i64 hi] w fun e w' => e = .returned (.bool (decide (lo ≤ n) && decide (n ≤ hi))) ∧ w = w' := by
  by_cases h1 : lo ≤ n
  · by_cases h2 : n ≤ hi
    · go_enter Tryd.func25, Tryd.ntmps25
      go_wp2
      go_ret
      exact ⟨ret_bool (by simp [h1, h2]), rfl⟩
    · have d2 : decide (n ≤ hi) = false := by simpa using h2
      go_enter Tryd.func25, Tryd.ntmps25
      go_wp2
      go_ret
      exact ⟨ret_bool (by simp), rfl⟩
  · have d1 : decide (lo ≤ n) = false := by simpa using h1
    go_enter Tryd.func25, Tryd.ntmps25
    go_wp2
    go_ret
    exact ⟨ret_bool (by simp), rfl⟩

theorem hb3_eq {b b' : Bool} {q r q' r' : Int} (h : b = b') (hq : q = q') (hr : r = r') : hb3 b q r = hb3 b' q' r' := by rw [h, hq, hr]

end Go.Proofs.YtmodcmkmfedgoaaDoor
