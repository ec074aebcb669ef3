/-
  Lines as plain numbers: each hex of a line's step k has distance k from the beginning and N - k from the end, is valid, and the line back has the same hexes. No program is looked into.
-/
import Derived.Test.YtpfnljhnjembpaaLineS
namespace Go.Proofs.Ytpfnljhnjembpaa
open Go.RowKit

theorem nrI_mul {m p : Int} (hp : 1 ≤ p) : nrI (m * p) p = [m] := by
  unfold nrI
  rw [nrFS_1 (by rw [Int.mul_emod_left]; omega), Int.mul_ediv_cancel _ (by omega)]
theorem nrI_iv {n p lo hi x : Int} (hp : 1 ≤ p) (h1 : lo * p ≤ n) (h2 : n ≤ hi * p) (hx : x ∈ nrI n p) : lo ≤ x ∧ x ≤ hi := by
  have f1 : lo ≤ n / p := Int.le_ediv_of_mul_le (by omega) h1
  have f2 : n / p ≤ hi := by
    have := Int.ediv_le_ediv (show 0 < p by omega) h2
    rwa [Int.mul_ediv_cancel _ (by omega)] at this
  have em := Int.emod_nonneg n (show p ≠ 0 by omega)
  have ed := Int.ediv_mul_add_emod n p
  have f3 : 0 < n % p → n / p < hi := fun hr => by
    rcases Int.lt_or_eq_of_le f2 with h | h
    · exact h
    · rw [h] at ed
      omega
  unfold nrI nrFS at hx
  split at hx
  · simp at hx
    omega
  · rename_i hc
    have := f3 (by omega)
    split at hx
    · simp at hx
      omega
    · simp at hx
      omega

/-- What a rounded coordinate between a and b at step k of N can be. -/
def Iv (a b k N x : Int) : Prop := (b ≤ a → a - k ≤ x ∧ x ≤ a ∧ b ≤ x ∧ x ≤ b + (N - k)) ∧ (a ≤ b → a ≤ x ∧ x ≤ a + k ∧ b - (N - k) ≤ x ∧ x ≤ b)
theorem iv_of {a b k N x : Int} (hN : 1 ≤ N) (k0 : 0 ≤ k) (k1 : k ≤ N) (d1 : -N ≤ b - a) (d2 : b - a ≤ N) (hx : x ∈ nrI (a * N + (b - a) * k) N) : Iv a b k N x := by
  have e1 : (a - k) * N = a * N - k * N := Int.sub_mul _ _ _
  have e2 : (a + k) * N = a * N + k * N := Int.add_mul _ _ _
  have e3 : (b + (N - k)) * N = b * N + (N * N - k * N) := by rw [Int.add_mul, Int.sub_mul]
  have e4 : (b - (N - k)) * N = b * N - (N * N - k * N) := by rw [Int.sub_mul, Int.sub_mul]
  have e5 : b * N = a * N + (b - a) * N := by rw [Int.sub_mul]; omega
  have p1 : 0 ≤ (N + (b - a)) * k := Int.mul_nonneg (by omega) k0
  have p2 : 0 ≤ (N - (b - a)) * k := Int.mul_nonneg (by omega) k0
  have p3 : 0 ≤ (N + (b - a)) * (N - k) := Int.mul_nonneg (by omega) (by omega)
  have p4 : 0 ≤ (N - (b - a)) * (N - k) := Int.mul_nonneg (by omega) (by omega)
  have c1 : k * N = N * k := Int.mul_comm _ _
  rw [Int.add_mul] at p1
  rw [Int.sub_mul] at p2
  rw [Int.add_mul, Int.mul_sub, Int.mul_sub] at p3
  rw [Int.sub_mul, Int.mul_sub, Int.mul_sub] at p4
  refine ⟨fun h => ?_, fun h => ?_⟩
  · have q1 : 0 ≤ (a - b) * k := Int.mul_nonneg (by omega) k0
    have q2 : 0 ≤ (a - b) * (N - k) := Int.mul_nonneg (by omega) (by omega)
    have f1 : (a - b) * k = -((b - a) * k) := by rw [← Int.neg_mul]; congr 1; omega
    have f2 : (a - b) * (N - k) = -((b - a) * N) + (b - a) * k := by rw [Int.mul_sub, show a - b = -(b - a) by omega, Int.neg_mul, Int.neg_mul]; omega
    obtain ⟨x1, x2⟩ := nrI_iv (lo := a - k) (hi := a) hN (by omega) (by omega) hx
    obtain ⟨x3, x4⟩ := nrI_iv (lo := b) (hi := b + (N - k)) hN (by omega) (by omega) hx
    omega
  · have q1 : 0 ≤ (b - a) * k := Int.mul_nonneg (by omega) k0
    have q2 : 0 ≤ (b - a) * (N - k) := Int.mul_nonneg (by omega) (by omega)
    rw [Int.mul_sub] at q2
    obtain ⟨x1, x2⟩ := nrI_iv (lo := a) (hi := a + k) hN (by omega) (by omega) hx
    obtain ⟨x3, x4⟩ := nrI_iv (lo := b - (N - k)) (hi := b) hN (by omega) (by omega) hx
    omega

theorem dist_of {u v k : Int} (hk : 0 ≤ k) (a : -k ≤ u) (b : u ≤ k) (c : -k ≤ v) (d : v ≤ k) (e : -k ≤ u + v) (f : u + v ≤ k) (h : u = k ∨ u = -k ∨ v = k ∨ v = -k ∨ u + v = k ∨ u + v = -k) : distI u v = k := by
  have b1 := absI_bd u
  have b2 := absI_bd v
  have b3 := absI_bd (u + v)
  unfold distI
  omega
theorem dist_inv {u v N : Int} (h : N = distI u v) : (-N ≤ u ∧ u ≤ N ∧ -N ≤ v ∧ v ≤ N ∧ -N ≤ u + v ∧ u + v ≤ N) ∧ (u = N ∨ u = -N ∨ v = N ∨ v = -N ∨ u + v = N ∨ u + v = -N) := by
  have b1 := absI_bd u
  have b2 := absI_bd v
  have b3 := absI_bd (u + v)
  unfold distI at h
  omega

/-- The three ways in which a hex of a step lies on the line. -/
def OnL (aq ar bq br k N x y : Int) : Prop :=
  (bq - aq = N ∧ x = aq + k ∧ Iv ar br k N y) ∨ (bq - aq = -N ∧ x = aq - k ∧ Iv ar br k N y) ∨ (br - ar = N ∧ y = ar + k ∧ Iv aq bq k N x) ∨ (br - ar = -N ∧ y = ar - k ∧ Iv aq bq k N x) ∨
  (bq - aq + (br - ar) = N ∧ x + y = aq + ar + k ∧ Iv aq bq k N x) ∨ (bq - aq + (br - ar) = -N ∧ x + y = aq + ar - k ∧ Iv aq bq k N x)

theorem cancel {a b N : Int} (hN : 1 ≤ N) (h : a * N = b * N) : a = b := Int.eq_of_mul_eq_mul_right (by omega) h
theorem tmod_mul {m p : Int} : (m * p).tmod p = 0 := Int.mul_tmod_left m p
theorem tdiv_mul {m p : Int} (hp : 1 ≤ p) : (m * p).tdiv p = m := Int.mul_tdiv_cancel m (by omega)
theorem tdiv_exact {n p : Int} (h : n.tmod p = 0) : n.tdiv p * p = n := by
  have := Int.tdiv_mul_add_tmod n p
  omega
theorem exact_mem {n p x : Int} (hp : 1 ≤ p) (h : x * p = n) : x ∈ nrI n p := by
  rw [← h, nrI_mul hp]
  simp

theorem onL_of {aq ar bq br k N x y : Int} (hN : 1 ≤ N) (hd : N = distI (bq - aq) (br - ar)) (k0 : 0 ≤ k) (k1 : k ≤ N) (h : (x, y) ∈ cellsL (aq * N + (bq - aq) * k) (ar * N + (br - ar) * k) N) : OnL aq ar bq br k N x y := by
  obtain ⟨⟨i1, i2, i3, i4, i5, i6⟩, dom⟩ := dist_inv hd
  have kc : N * k = k * N := Int.mul_comm _ _
  have nk : -N * k = -(k * N) := by rw [Int.neg_mul, kc]
  have ap : (aq + k) * N = aq * N + k * N := Int.add_mul _ _ _
  have am : (aq - k) * N = aq * N - k * N := Int.sub_mul _ _ _
  have rp : (ar + k) * N = ar * N + k * N := Int.add_mul _ _ _
  have rm : (ar - k) * N = ar * N - k * N := Int.sub_mul _ _ _
  have sp : (aq + ar + k) * N = aq * N + ar * N + k * N := by rw [Int.add_mul, Int.add_mul]
  have sm : (aq + ar - k) * N = aq * N + ar * N - k * N := by rw [Int.sub_mul, Int.add_mul]
  have ds : (bq - aq) * k + (br - ar) * k = (bq - aq + (br - ar)) * k := (Int.add_mul _ _ _).symm
  unfold cellsL at h
  by_cases hq : (aq * N + (bq - aq) * k).tmod N = 0
  · rw [if_pos hq] at h
    simp only [List.mem_map, Prod.mk.injEq] at h
    obtain ⟨y', hy, rfl, rfl⟩ := h
    have hx := tdiv_exact hq
    generalize (aq * N + (bq - aq) * k).tdiv N = x at hx ⊢
    have ivx := iv_of hN k0 k1 i1 i2 (exact_mem hN hx)
    have ivy := iv_of hN k0 k1 i3 i4 hy
    rcases dom with e | e | e | e | e | e
    · rw [e] at hx
      exact .inl ⟨e, cancel hN (by omega), ivy⟩
    · rw [e] at hx
      exact .inr (.inl ⟨e, cancel hN (by omega), ivy⟩)
    · rw [e, show ar * N + N * k = (ar + k) * N by omega, nrI_mul hN] at hy
      simp at hy
      exact .inr (.inr (.inl ⟨e, hy, ivx⟩))
    · rw [e, show ar * N + -N * k = (ar - k) * N by omega, nrI_mul hN] at hy
      simp at hy
      exact .inr (.inr (.inr (.inl ⟨e, hy, ivx⟩)))
    · rw [e] at ds
      rw [show ar * N + (br - ar) * k = (aq + ar + k - x) * N by rw [Int.sub_mul (aq + ar + k) x N, sp]; omega, nrI_mul hN] at hy
      simp at hy
      exact .inr (.inr (.inr (.inr (.inl ⟨e, by omega, ivx⟩))))
    · rw [e] at ds
      rw [show ar * N + (br - ar) * k = (aq + ar - k - x) * N by rw [Int.sub_mul (aq + ar - k) x N, sm]; omega, nrI_mul hN] at hy
      simp at hy
      exact .inr (.inr (.inr (.inr (.inr ⟨e, by omega, ivx⟩))))
  · rw [if_neg hq] at h
    by_cases hr : (ar * N + (br - ar) * k).tmod N = 0
    · rw [if_pos hr] at h
      simp only [List.mem_map, Prod.mk.injEq] at h
      obtain ⟨x', hx, rfl, rfl⟩ := h
      have hy := tdiv_exact hr
      generalize (ar * N + (br - ar) * k).tdiv N = y at hy ⊢
      have ivx := iv_of hN k0 k1 i1 i2 hx
      rcases dom with e | e | e | e | e | e
      · refine absurd ?_ hq
        rw [e, show aq * N + N * k = (aq + k) * N by omega, tmod_mul]
      · refine absurd ?_ hq
        rw [e, show aq * N + -N * k = (aq - k) * N by omega, tmod_mul]
      · rw [e] at hy
        exact .inr (.inr (.inl ⟨e, cancel hN (by omega), ivx⟩))
      · rw [e] at hy
        exact .inr (.inr (.inr (.inl ⟨e, cancel hN (by omega), ivx⟩)))
      · rw [e] at ds
        refine absurd ?_ hq
        rw [show aq * N + (bq - aq) * k = (aq + ar + k - y) * N by rw [Int.sub_mul (aq + ar + k) y N, sp]; omega, tmod_mul]
      · rw [e] at ds
        refine absurd ?_ hq
        rw [show aq * N + (bq - aq) * k = (aq + ar - k - y) * N by rw [Int.sub_mul (aq + ar - k) y N, sm]; omega, tmod_mul]
    · rw [if_neg hr] at h
      simp only [List.mem_map, Prod.mk.injEq] at h
      obtain ⟨x', hx, rfl, rfl⟩ := h
      have ivx := iv_of hN k0 k1 i1 i2 hx
      rcases dom with e | e | e | e | e | e
      · refine absurd ?_ hq
        rw [e, show aq * N + N * k = (aq + k) * N by omega, tmod_mul]
      · refine absurd ?_ hq
        rw [e, show aq * N + -N * k = (aq - k) * N by omega, tmod_mul]
      · refine absurd ?_ hr
        rw [e, show ar * N + N * k = (ar + k) * N by omega, tmod_mul]
      · refine absurd ?_ hr
        rw [e, show ar * N + -N * k = (ar - k) * N by omega, tmod_mul]
      · rw [e] at ds
        rw [show aq * N + (bq - aq) * k + (ar * N + (br - ar) * k) = (aq + ar + k) * N by omega, tdiv_mul hN]
        exact .inr (.inr (.inr (.inr (.inl ⟨e, by omega, ivx⟩))))
      · rw [e] at ds
        rw [show aq * N + (bq - aq) * k + (ar * N + (br - ar) * k) = (aq + ar - k) * N by omega, tdiv_mul hN]
        exact .inr (.inr (.inr (.inr (.inr ⟨e, by omega, ivx⟩))))

theorem onL_dist {aq ar bq br k N x y : Int} (hd : N = distI (bq - aq) (br - ar)) (k0 : 0 ≤ k) (k1 : k ≤ N) (a1 : -40 ≤ aq ∧ aq ≤ 40 ∧ -40 ≤ ar ∧ ar ≤ 40) (b1 : -40 ≤ bq ∧ bq ≤ 40 ∧ -40 ≤ br ∧ br ≤ 40) (h : OnL aq ar bq br k N x y) :
    okH x y = true ∧ distH aq ar x y = k ∧ distH x y bq br = N - k := by
  obtain ⟨⟨i1, i2, i3, i4, i5, i6⟩, _⟩ := dist_inv hd
  unfold distH
  clear hd
  have key : (-40 ≤ x ∧ x ≤ 40 ∧ -40 ≤ y ∧ y ≤ 40) ∧ ((-k ≤ x - aq ∧ x - aq ≤ k ∧ -k ≤ y - ar ∧ y - ar ≤ k ∧ -k ≤ x - aq + (y - ar) ∧ x - aq + (y - ar) ≤ k) ∧ (x - aq = k ∨ x - aq = -k ∨ y - ar = k ∨ y - ar = -k ∨ x - aq + (y - ar) = k ∨ x - aq + (y - ar) = -k)) ∧
      ((-(N - k) ≤ bq - x ∧ bq - x ≤ N - k ∧ -(N - k) ≤ br - y ∧ br - y ≤ N - k ∧ -(N - k) ≤ bq - x + (br - y) ∧ bq - x + (br - y) ≤ N - k) ∧ (bq - x = N - k ∨ bq - x = -(N - k) ∨ br - y = N - k ∨ br - y = -(N - k) ∨ bq - x + (br - y) = N - k ∨ bq - x + (br - y) = -(N - k))) := by
    rcases h with ⟨e, rfl, iv⟩ | ⟨e, rfl, iv⟩ | ⟨e, rfl, iv⟩ | ⟨e, rfl, iv⟩ | ⟨e, f, iv⟩ | ⟨e, f, iv⟩
    · have := iv.1 (by omega)
      omega
    · have := iv.2 (by omega)
      omega
    · have := iv.1 (by omega)
      omega
    · have := iv.2 (by omega)
      omega
    · have := iv.2 (by omega)
      omega
    · have := iv.1 (by omega)
      omega
  obtain ⟨v, ⟨⟨u1, u2, u3, u4, u5, u6⟩, ud⟩, ⟨⟨w1, w2, w3, w4, w5, w6⟩, wd⟩⟩ := key
  exact ⟨okH_mk v.1 v.2.1 v.2.2.1 v.2.2.2, dist_of k0 u1 u2 u3 u4 u5 u6 ud, dist_of (by omega) w1 w2 w3 w4 w5 w6 wd⟩

theorem lineF_at (aq ar bq br p : Int) : ∀ (m i : Nat), i < m → (lineF aq ar bq br p m)[i]? = some (cellsL (aq * p + (bq - aq) * i) (ar * p + (br - ar) * i) p)
  | m + 1, i, h => by
    rw [lineF]
    rcases Nat.lt_or_ge i m with hi | hi
    · rw [List.getElem?_append_left (by rw [lineF_len]; exact hi)]
      exact lineF_at aq ar bq br p m i hi
    · obtain rfl : i = m := by omega
      rw [List.getElem?_append_right (by rw [lineF_len]; omega), lineF_len]
      simp

theorem distI_neg (u v : Int) : distI (-u) (-v) = distI u v := by
  have b1 := absI_bd u
  have b2 := absI_bd v
  have b3 := absI_bd (u + v)
  have c1 := absI_bd (-u)
  have c2 := absI_bd (-v)
  have c3 := absI_bd (-u + -v)
  unfold distI
  omega
theorem distH_comm (aq ar bq br : Int) : distH bq br aq ar = distH aq ar bq br := by
  unfold distH
  rw [← distI_neg]
  congr 1 <;> omega
/-- A point of the line back. -/
theorem back_pt (a b : Int) (N i : Nat) (hi : i ≤ N) : b * (N : Int) + (a - b) * ((N - i : Nat) : Int) = a * (N : Int) + (b - a) * (i : Int) := by
  rw [show ((N - i : Nat) : Int) = (N : Int) - i by omega, Int.mul_sub, Int.sub_mul, Int.sub_mul, Int.sub_mul]
  omega

end Go.Proofs.Ytpfnljhnjembpaa
