/-
  Plain facts on counts of sums: they are symmetric, and a count is the difference of two counts from a sum on. No program is looked into.
-/
import Derived.Test.YtmhkjcgdjoeldaaDoorDiX
namespace Go.Proofs.YtmhkjcgdjoeldaaDoor
open Go.RowKit

def wTab : List (List Int) := [[1], [0, 1, 1, 1, 1, 1, 1], [0, 0, 1, 2, 3, 4, 5, 6, 5, 4, 3, 2, 1], [0, 0, 0, 1, 3, 6, 10, 15, 21, 25, 27, 27, 25, 21, 15, 10, 6, 3, 1], [0, 0, 0, 0, 1, 4, 10, 20, 35, 56, 80, 104, 125, 140, 146, 140, 125, 104, 80, 56, 35, 20, 10, 4, 1], [0, 0, 0, 0, 0, 1, 5, 15, 35, 70, 126, 205, 305, 420, 540, 651, 735, 780, 780, 735, 651, 540, 420, 305, 205, 126, 70, 35, 15, 5, 1], [0, 0, 0, 0, 0, 0, 1, 6, 21, 56, 126, 252, 456, 756, 1161, 1666, 2247, 2856, 3431, 3906, 4221, 4332, 4221, 3906, 3431, 2856, 2247, 1666, 1161, 756, 456, 252, 126, 56, 21, 6, 1], [0, 0, 0, 0, 0, 0, 0, 1, 7, 28, 84, 210, 462, 917, 1667, 2807, 4417, 6538, 9142, 12117, 15267, 18327, 20993, 22967, 24017, 24017, 22967, 20993, 18327, 15267, 12117, 9142, 6538, 4417, 2807, 1667, 917, 462, 210, 84, 28, 7, 1], [0, 0, 0, 0, 0, 0, 0, 0, 1, 8, 36, 120, 330, 792, 1708, 3368, 6147, 10480, 16808, 25488, 36688, 50288, 65808, 82384, 98813, 113688, 125588, 133288, 135954, 133288, 125588, 113688, 98813, 82384, 65808, 50288, 36688, 25488, 16808, 10480, 6147, 3368, 1708, 792, 330, 120, 36, 8, 1]]
theorem ways_tab : ∀ n : Fin 9, waysL n.val = wTab.getD n.val [] := by decide +kernel
theorem tab_sym : ∀ n : Fin 9, ∀ j : Fin 64, j.val ≤ 7 * n.val → getI (wTab.getD n.val []) j.val = getI (wTab.getD n.val []) (7 * n.val - j.val) := by decide +kernel
theorem ways_sym {n : Nat} (hn : n ≤ 8) {j : Nat} (hj : j ≤ 7 * n) : getI (waysL n) j = getI (waysL n) (7 * n - j) := by
  have h1 := ways_tab ⟨n, by omega⟩
  have h2 := tab_sym ⟨n, by omega⟩ ⟨j, by omega⟩ hj
  simp only at h1 h2
  rw [h1]
  exact h2
theorem sum_sym {n m : Int} (h : swB n m = true) : sumN n (7 * n - m) = sumN n m := by
  simp only [swB, Bool.and_eq_true] at h
  have hn := sp_bd h.1
  obtain ⟨N, rfl⟩ : ∃ N : Nat, n = N := ⟨n.toNat, by omega⟩
  have hl := waysL_len N
  unfold sumN
  rw [Int.toNat_natCast]
  by_cases h0 : m < 0
  · rw [if_pos h0, if_neg (by omega)]
    exact getI_none (by omega)
  · by_cases h1 : 7 * (N : Int) - m < 0
    · rw [if_pos h1, if_neg h0]
      exact (getI_none (by omega)).symm
    · rw [if_neg h1, if_neg h0]
      obtain ⟨M, rfl⟩ : ∃ M : Nat, m = M := ⟨m.toNat, by omega⟩
      have e : (7 * (N : Int) - (M : Int)).toNat = 7 * N - M := by omega
      rw [e, Int.toNat_natCast]
      exact (ways_sym (by omega) (by omega)).symm
theorem atS_diff (l : List Int) (m : Int) : ∀ q : Nat, atS l m q - atS l (m + 1) q = if 0 ≤ m ∧ m < q then getI l m.toNat else 0
  | 0 => by
    rw [if_neg (by omega)]
    rfl
  | q + 1 => by
    have ih := atS_diff l m q
    by_cases h1 : m = (q : Int)
    · subst h1
      rw [if_neg (by omega)] at ih
      rw [if_pos (by omega), Int.toNat_natCast]
      simp only [atS]
      rw [if_pos (Int.le_refl _), if_neg (by omega)]
      omega
    · simp only [atS]
      by_cases h2 : m ≤ (q : Int)
      · rw [if_pos h2, if_pos (by omega)]
        by_cases h3 : 0 ≤ m
        · rw [if_pos ⟨h3, by omega⟩] at ih ⊢
          omega
        · rw [if_neg (by omega)] at ih ⊢
          omega
      · rw [if_neg h2, if_neg (by omega)]
        rw [if_neg (by omega)] at ih ⊢
        exact ih
def alN (n m : Int) : Int := atS (waysL n.toNat) m (waysL n.toNat).length
theorem al_diff (n m : Int) : alN n m - alN n (m + 1) = sumN n m := by
  unfold alN sumN
  rw [atS_diff]
  by_cases h0 : m < 0
  · rw [if_pos h0, if_neg (by omega)]
  · rw [if_neg h0]
    by_cases h1 : m < ((waysL n.toNat).length : Int)
    · rw [if_pos ⟨by omega, h1⟩]
    · rw [if_neg (by omega)]
      exact (getI_none (by omega)).symm
theorem al_bd {n m : Int} (h : swB n m = true) : 0 ≤ alN n m ∧ alN n m ≤ 1000000000000000000 := by
  simp only [swB, Bool.and_eq_true] at h
  have hn := sp_bd h.1
  have h1 := atS_bd (m := m) (by omega) (ways_bd (n := n.toNat) (by omega)) (waysL n.toNat).length
  have hl := waysL_len n.toNat
  unfold alN
  have : ((waysL n.toNat).length : Int) ≤ 49 := by omega
  have : ((waysL n.toNat).length : Int) * 4000000000000000 ≤ 49 * 4000000000000000 := Int.mul_le_mul_of_nonneg_right this (by omega)
  omega

end Go.Proofs.YtmhkjcgdjoeldaaDoor
