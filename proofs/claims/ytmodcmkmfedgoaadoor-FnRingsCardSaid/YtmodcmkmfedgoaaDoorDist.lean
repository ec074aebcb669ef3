/-
  The functions on distances return what a plain function on integers says, for valid hexes, and change nothing that was there.
-/
import Derived.Test.YtmodcmkmfedgoaaDoorHexB
import Derived.Deep.QuietTactic
import Derived.BigQuiet
import Derived.IntWalk
namespace Go.Proofs.YtmodcmkmfedgoaaDoor
open Go.RowKit

def absI (n : Int) : Int := if n < 0 then -n else n
def distI (q r : Int) : Int := (absI q + absI r + absI (q + r)) / 2
def distH (aq ar bq br : Int) : Int := distI (bq - aq) (br - ar)
theorem absI_neg {n : Int} (h : n < 0) : absI n = -n := by simp [absI, h]
theorem absI_pos {n : Int} (h : ¬ n < 0) : absI n = n := by simp [absI, h]
theorem absI_bd (n : Int) : 0 ≤ absI n ∧ n ≤ absI n ∧ -n ≤ absI n ∧ (absI n ≤ n ∨ absI n ≤ -n) := by unfold absI; split <;> omega

theorem absolute_any (n : Int) (w : World) (h1 : -1000 ≤ n) (h2 : n ≤ 1000) :
    Calls Tryd.prog 41 #[.int .i64 n] w fun e w' => e = .returned (.int .i64 (absI n)) ∧ w' = w := by
  by_cases h : n < 0
  · go_enter Tryd.func41, Tryd.ntmps41
    go_wp2
    go_ret
    exact ⟨ret_int (absI_neg h).symm, rfl⟩
  · go_enter Tryd.func41, Tryd.ntmps41
    go_wp2
    go_ret
    exact ⟨ret_int (absI_pos (by omega)).symm, rfl⟩

theorem l1Abs_any (n : Int) (w : World) (h1 : -1000 ≤ n) (h2 : n ≤ 1000) :
    Calls Tryd.prog 44 #[.int .i64 n] w fun e w' => e = .returned (.int .i64 (absI n)) ∧ w = w' := by
  by_cases h : n < 0
  · go_enter Tryd.func44, Tryd.ntmps44
    go_wp2
    go_ret
    exact ⟨ret_int (absI_neg h).symm, rfl⟩
  · by_cases h0 : n = 0
    · subst h0
      go_enter Tryd.func44, Tryd.ntmps44
      go_wp2
      go_ret
      exact ⟨ret_int (absI_pos (by omega)).symm, rfl⟩
    · go_enter Tryd.func44, Tryd.ntmps44
      go_wp2
      go_ret
      exact ⟨ret_int (absI_pos (by omega)).symm, rfl⟩

theorem length_any (q r : Int) (w : World) (h1 : -400 ≤ q) (h2 : q ≤ 400) (h3 : -400 ≤ r) (h4 : r ≤ 400) :
    Calls Tryd.prog 29 #[hx q r] w fun e w' => e = .returned (.int .i64 (distI q r)) ∧ Kp w w' := by
  have b1 := absI_bd q
  have b2 := absI_bd r
  have b3 := absI_bd (q + r)
  go_enter Tryd.func29, Tryd.ntmps29
  go_wp2
  go_quiet ((go_at_call 41; exact Calls.quiet_of_same (absolute_any _ _ (by omega) (by omega))))
  go_wp2
  go_ret
  exact ⟨rfl, ((Kp.refl _).alloc _).drewN _⟩

theorem hDistance_any (aq ar bq br : Int) (w : World) (h1 : -200 ≤ aq) (h2 : aq ≤ 200) (h3 : -200 ≤ ar) (h4 : ar ≤ 200) (h5 : -200 ≤ bq) (h6 : bq ≤ 200) (h7 : -200 ≤ br) (h8 : br ≤ 200) :
    Calls Tryd.prog 37 #[hx aq ar, hx bq br] w fun e w' => e = .returned (.int .i64 (distH aq ar bq br)) ∧ Kp w w' := by
  have b1 := absI_bd (bq - aq)
  have b2 := absI_bd (br - ar)
  have b3 := absI_bd (bq - aq + (br - ar))
  go_enter Tryd.func37, Tryd.ntmps37
  go_wp2
  go_quiet (fail)
  go_wp2_with (go_at_call 44; refine (l1Abs_any _ _ (by omega) (by omega)).mono ?_; rintro e w' ⟨rfl, rfl⟩)
  go_ret
  exact ⟨rfl, (((Kp.refl _).alloc _).alloc _).drewN _⟩

def ok2 (aq ar bq br : Int) : Bool := okH aq ar && okH bq br
def distOf (aq ar bq br : Int) : Int := if ok2 aq ar bq br = true then distH aq ar bq br else 0
theorem distOf_yes {aq ar bq br : Int} (h : okH aq ar = true) (h' : okH bq br = true) : distOf aq ar bq br = distH aq ar bq br ∧ ok2 aq ar bq br = true := by
  have e : ok2 aq ar bq br = true := by simp [ok2, h, h']
  exact ⟨by simp [distOf, e], e⟩
theorem distOf_no1 {aq ar bq br : Int} (h : okH aq ar = false) : distOf aq ar bq br = 0 ∧ ok2 aq ar bq br = false := by
  have e : ok2 aq ar bq br = false := by simp [ok2, h]
  exact ⟨by simp [distOf, e], e⟩
theorem distOf_no2 {aq ar bq br : Int} (h : okH bq br = false) : distOf aq ar bq br = 0 ∧ ok2 aq ar bq br = false := by
  have e : ok2 aq ar bq br = false := by simp [ok2, h]
  exact ⟨by simp [distOf, e], e⟩
theorem ret_ib {a b : Int} {c d : Bool} (h : b = a ∧ d = c) : Ending.returned (.tuple #[.int .i64 a, .bool c]) = .returned (.tuple #[.int .i64 b, .bool d]) := by rw [h.1, h.2]

theorem distanceOf_any (aq ar bq br : Int) (w : World) :
    Calls Tryd.prog 9 #[hx aq ar, hx bq br] w fun e w' => e = .returned (.tuple #[.int .i64 (distOf aq ar bq br), .bool (ok2 aq ar bq br)]) ∧ Kp w w' := by
  cases ha : okH aq ar
  · go_enter Tryd.func9, Tryd.ntmps9
    go_wp2_with (go_at_call 20; refine (isHex_any _ _ _).mono ?_; rintro e w1 ⟨rfl, hk⟩)
    go_ret2
    exact ⟨ret_ib (distOf_no1 ha), (((Kp.refl _).alloc _).alloc _).trans hk⟩
  · cases hb : okH bq br
    · go_enter Tryd.func9, Tryd.ntmps9
      go_wp2_with (go_at_call 20; refine (isHex_any _ _ _).mono ?_; rintro e w1 ⟨rfl, hk⟩; obtain ⟨hc, hf⟩ := hk.cells; have hz : w.heap.size < w1.heap.size := (by have := hk.size; (try simp at this); omega); have hz' : w.heap.size + 1 < w1.heap.size := (by have := hk.size; (try simp at this); omega))
      go_ret2
      exact ⟨ret_ib (distOf_no2 hb), by repeat (first | exact (((Kp.refl _).alloc _).alloc _) | refine Kp.trans ?_ (by assumption))⟩
    · have A1 := okH_true ha
      have B1 := okH_true hb
      go_enter Tryd.func9, Tryd.ntmps9
      go_wp2_with (first | (go_at_call 20; refine (isHex_any _ _ _).mono ?_; rintro e w1 ⟨rfl, hk⟩; obtain ⟨hc, hf⟩ := hk.cells; have hz : w.heap.size < w1.heap.size := (by have := hk.size; (try simp at this); omega); have hz' : w.heap.size + 1 < w1.heap.size := (by have := hk.size; (try simp at this); omega)) | (go_at_call 28; refine (offsetTo_any _ _ _ _ _ (by omega) (by omega) (by omega) (by omega) (by omega) (by omega) (by omega) (by omega)).mono ?_; rintro e w1 ⟨rfl, hk⟩) | (go_at_call 29; refine (length_any _ _ _ (by omega) (by omega) (by omega) (by omega)).mono ?_; rintro e w1 ⟨rfl, hk⟩))
      go_ret2
      exact ⟨ret_ib (distOf_yes ha hb), by repeat (first | exact (((Kp.refl _).alloc _).alloc _) | refine Kp.trans ?_ (by assumption))⟩

end Go.Proofs.YtmodcmkmfedgoaaDoor
