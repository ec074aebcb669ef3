/-
  The six directions: the table of the program and the two lists of the reference hold the same steps; the functions on neighbours return what plain functions on integers say, and change nothing that was there.
-/
import Derived.Test.YtcdfbcmfpeceeaaDoorHexB
import Derived.Test.YtcdfbcmfpeceeaaDoorDirs
import Derived.Test.YtcdfbcmfpeceeaaDoorFar
import Derived.RegionTactic
import Derived.BigRegion
import Derived.Deep.RegionHeld3
namespace Go.Proofs.YtcdfbcmfpeceeaaDoor
open Go.RowKit

theorem isDirection_any (n : Int) (w : World) :
    Calls Tryd.prog 155 #[.int .i64 n] w fun e w' => e = .returned (.bool (decide (0 ≤ n) && decide (n ≤ 5))) ∧ w = w' := by
  by_cases h1 : 0 ≤ n
  · by_cases h2 : n < 6
    · have h3 : n ≤ 5 := by omega
      go_enter Tryd.func155, Tryd.ntmps155
      go_wp2
      go_ret
      exact ⟨ret_bool (by simp [h1, h3]), rfl⟩
    · have h3 : ¬ n ≤ 5 := by omega
      go_enter Tryd.func155, Tryd.ntmps155
      go_wp2
      go_ret
      exact ⟨ret_bool (by simp; omega), rfl⟩
  · go_enter Tryd.func155, Tryd.ntmps155
    go_wp2
    go_ret
    exact ⟨ret_bool (by simp; omega), rfl⟩


/-- The program's table of directions, as its text lays it. -/
def Tab (w : World) : Prop := ∀ d : Nat, d < 6 → w.cell? ⟨7, d * 2, none⟩ = some (.int .i64 (dirQ d)) ∧ w.cell? ⟨7, d * 2 + 1, none⟩ = some (.int .i64 (dirR d))
theorem Tab.keep {w w' : World} (h : Tab w) (hk : Kp w w') : Tab w' := fun d hd => ⟨hk.cell (h d hd).1, hk.cell (h d hd).2⟩

def nbOk (q r d : Int) : Bool := okH q r && (decide (0 ≤ d) && decide (d ≤ 5)) && okH (q + dirQ d) (r + dirR d)

/-- The answer of DirectionTo at the differences x, y. -/
def dirRes (x y : Int) : Int × Bool :=
  if x = 1 ∧ y = 0 then (0, true) else if x = 1 ∧ y = -1 then (1, true) else if x = 0 ∧ y = -1 then (2, true) else if x = -1 ∧ y = 0 then (3, true) else if x = -1 ∧ y = 1 then (4, true) else if x = 0 ∧ y = 1 then (5, true) else (0, false)
def noDir (x y : Int) (k : Nat) : Prop := ∀ j : Nat, j < k → ¬ (x = dirQ j ∧ y = dirR j)
theorem dirRes_at {x y : Int} {k : Nat} (hk : k < 6) (h : x = dirQ k ∧ y = dirR k) : dirRes x y = ((k : Int), true) := by
  obtain ⟨rfl, rfl⟩ := h
  match k, hk with
  | 0, _ => decide
  | 1, _ => decide
  | 2, _ => decide
  | 3, _ => decide
  | 4, _ => decide
  | 5, _ => decide
theorem dirRes_no {x y : Int} (h : noDir x y 6) : dirRes x y = (0, false) := by
  have h0 := h 0 (by omega)
  have h1 := h 1 (by omega)
  have h2 := h 2 (by omega)
  have h3 := h 3 (by omega)
  have h4 := h 4 (by omega)
  have h5 := h 5 (by omega)
  simp [dirQ, dirR] at h0 h1 h2 h3 h4 h5
  unfold dirRes
  rw [if_neg (by omega), if_neg (by omega), if_neg (by omega), if_neg (by omega), if_neg (by omega), if_neg (by omega)]
theorem noDir_succ {x y : Int} {k : Nat} (h : noDir x y k) (hk : ¬ (x = dirQ k ∧ y = dirR k)) : noDir x y (k + 1) := fun j hj => by
  rcases Nat.lt_succ_iff_lt_or_eq.1 hj with h' | rfl
  · exact h j h'
  · exact hk
end Go.Proofs.YtcdfbcmfpeceeaaDoor
