/-
  Plain facts on rings and disks: every hex of a ring is as far as the radius, a disk has 3 n (n + 1) + 1 hexes. No program is looked into.
-/
import Derived.Test.YtmodcmkmfedgoaaDoorRing
import Derived.Test.YtmodcmkmfedgoaaDoorDisk
namespace Go.Proofs.YtmodcmkmfedgoaaDoor
open Go.RowKit

theorem posR_shift (n : Nat) (q r : Int) : ∀ i, posR n q r i = (q + (posR n 0 0 i).1, r + (posR n 0 0 i).2)
  | 0 => by simp only [posR]; congr 1 <;> omega
  | i + 1 => by
    rw [posR, posR_shift n q r i]
    simp only [posR]
    congr 1 <;> omega
theorem pos_dist : ∀ n, n ≤ 6 → ∀ i, i < 6 * n → distI (posR n 0 0 i).1 (posR n 0 0 i).2 = (n : Int) := by decide +kernel
theorem ring_far {q r n : Int} (h : ringOk q r n = true) {i : Nat} {x : Int × Int} (hx : (ringL n.toNat q r)[i]? = some x) : distOf q r x.1 x.2 = n ∧ ok2 q r x.1 x.2 = true := by
  simp only [ringOk, Bool.and_eq_true, decide_eq_true_eq] at h
  obtain ⟨⟨h1, h0, h6⟩, hall⟩ := h
  have hok : okH x.1 x.2 = true := by
    cases e : okH x.1 x.2
    · have := allOk_false hx e
      rw [this] at hall
      cases hall
    · rfl
  obtain ⟨m, rfl⟩ := Int.eq_ofNat_of_zero_le h0
  rw [Int.toNat_natCast] at hx
  refine ⟨?_, (distOf_yes h1 hok).2⟩
  rw [(distOf_yes h1 hok).1]
  unfold ringL at hx
  unfold distH
  by_cases hm : m = 0
  · rw [if_pos hm] at hx
    have hx' : x = (q, r) := by
      rcases i with _ | i
      · simpa using hx.symm
      · simp at hx
    subst hx' hm
    simp [distI, absI]
  · rw [if_neg hm] at hx
    have hi : i < 6 * m := by
      have := (List.getElem?_eq_some_iff.1 hx).1
      rw [ringUp_length] at this
      exact this
    rw [ringUp_at m q r (6 * m) i hi, posR_shift] at hx
    obtain rfl := Option.some.inj hx
    have := pos_dist m (by omega) i hi
    rw [← this]
    congr 1 <;> (simp only []; omega)

theorem rowF_leq (n : Nat) (q r a : Int) : ∀ j, (rowF n q r a j).length = (rowF n 0 0 a j).length
  | 0 => rfl
  | j + 1 => by
    rw [rowF, rowF, List.length_append, List.length_append, rowF_leq n q r a j]
    congr 1
    unfold oneF
    split <;> rfl
theorem diskF_leq (n : Nat) (q r : Int) : ∀ i, (diskF n q r i).length = (diskF n 0 0 i).length
  | 0 => rfl
  | i + 1 => by
    rw [diskF, diskF, List.length_append, List.length_append, diskF_leq n q r i, rowF_leq n q r]
set_option maxRecDepth 20000 in
theorem disk0_len : ∀ n, n ≤ 6 → (diskF n 0 0 (2 * n + 1)).length = 3 * n * (n + 1) + 1 := by decide +kernel
theorem disk_size {q r n : Int} (h : diskOk q r n = true) : (0 ≤ n ∧ n ≤ 6) ∧ ((diskL n.toNat q r).length : Int) = 3 * n * (n + 1) + 1 := by
  simp only [diskOk, Bool.and_eq_true, decide_eq_true_eq] at h
  obtain ⟨⟨_, h0, h6⟩, _⟩ := h
  obtain ⟨m, rfl⟩ := Int.eq_ofNat_of_zero_le h0
  refine ⟨⟨h0, h6⟩, ?_⟩
  rw [Int.toNat_natCast]
  unfold diskL
  rw [diskF_leq, disk0_len m (by omega)]
  simp
end Go.Proofs.YtmodcmkmfedgoaaDoor
