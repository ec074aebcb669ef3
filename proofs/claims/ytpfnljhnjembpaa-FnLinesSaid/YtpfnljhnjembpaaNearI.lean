/-
  The integers nearest to a fraction, one or two: the program's and the reference's lists read as a plain function says, and nothing that was there is changed.
-/
import Derived.Test.YtpfnljhnjembpaaOwnB
import Derived.Test.YtpfnljhnjembpaaInts
namespace Go.Proofs.Ytpfnljhnjembpaa
open Go.RowKit

def nrFS (f s p : Int) : List Int := if 2 * s < p then [f] else if p < 2 * s then [f + 1] else [f, f + 1]
def nrI (n p : Int) : List Int := nrFS (n / p) (n % p) p
theorem nrFS_1 {f s p : Int} (h : 2 * s < p) : nrFS f s p = [f] := by simp [nrFS, h]
theorem nrFS_2 {f s p : Int} (h : p < 2 * s) : nrFS f s p = [f + 1] := by rw [nrFS, if_neg (by omega), if_pos h]
theorem nrFS_3 {f s p : Int} (h : 2 * s = p) : nrFS f s p = [f, f + 1] := by rw [nrFS, if_neg (by omega), if_neg (by omega)]
theorem nr_neg {n p : Int} (hp : 1 ≤ p) (h : n.tmod p < 0) : n / p = n.tdiv p - 1 ∧ n % p = n.tmod p + p := by
  have h1 := Int.mul_tdiv_add_tmod n p
  have h2 : -p < n.tmod p := Int.lt_tmod_of_pos n (by omega)
  rw [Int.ediv_emod_unique (by omega)]
  refine ⟨?_, by omega, by omega⟩
  rw [Int.mul_sub]
  omega
theorem nr_zero {n p : Int} (hp : 1 ≤ p) (h : n.tmod p = 0) : n / p = n.tdiv p ∧ n % p = 0 := by
  have h1 := Int.mul_tdiv_add_tmod n p
  rw [Int.ediv_emod_unique (by omega)]
  exact ⟨by omega, by omega, by omega⟩
theorem nr_le {n p : Int} (hn : n < 0) : n.tmod p ≤ 0 := by
  have h := Int.tmod_nonneg (a := -n) p (by omega)
  rw [Int.neg_tmod] at h
  omega
theorem nr_rest (n p : Int) : n - n / p * p = n % p := by
  have := Int.ediv_mul_add_emod n p
  omega
theorem nr_bd {n p : Int} (hp : 1 ≤ p) (h1 : -20000 ≤ n) (h2 : n ≤ 20000) : -20000 ≤ n / p ∧ n / p ≤ 20000 ∧ 0 ≤ n % p ∧ n % p < p := by
  refine ⟨Int.le_ediv_of_mul_le (by omega) ?_, ?_, Int.emod_nonneg _ (by omega), Int.emod_lt_of_pos _ (by omega)⟩
  · have : 0 ≤ (p - 1) * 20000 := Int.mul_nonneg (by omega) (by omega)
    omega
  · by_cases h : 0 ≤ n
    · exact Int.le_trans (Int.ediv_le_self _ h) h2
    · have := Int.ediv_neg_of_neg_of_pos (a := n) (b := p) (by omega) (by omega)
      omega

theorem rd_one (w : World) (x : Int) (T : TypeId) : RdI (w.alloc (.cells #[.int .i64 x] T)) (.slice (some ⟨w.heap.size, 0, none⟩) 1 1) [x] := by
  refine ⟨_, _, rfl, fun _ => ⟨w.heap.size, 0, rfl, fun i y hy => ?_⟩⟩
  match i, hy with
  | 0, hy =>
    simp at hy
    subst hy
    simp [go_sem]
theorem rd_two (w : World) (x y : Int) (T : TypeId) : RdI (w.alloc (.cells #[.int .i64 x, .int .i64 y] T)) (.slice (some ⟨w.heap.size, 0, none⟩) 2 2) [x, y] := by
  refine ⟨_, _, rfl, fun _ => ⟨w.heap.size, 0, rfl, fun i z hz => ?_⟩⟩
  match i, hz with
  | 0, hz =>
    simp at hz
    subst hz
    simp [go_sem]
  | 1, hz =>
    simp at hz
    subst hz
    simp [go_sem]

def NearPost (l : List Int) (w : World) (e : Ending) (w' : World) : Prop := ∃ v, e = .returned v ∧ RdI w' v l ∧ Kp w w'

theorem nearestIntegers_any (n p : Int) (w : World) (h1 : -20000 ≤ n) (h2 : n ≤ 20000) (p1 : 1 ≤ p) (p2 : p ≤ 200) :
    Calls Try.prog 27 #[.int .i64 n, .int .i64 p] w (NearPost (nrI n p) w) := by
  have bd := nr_bd p1 h1 h2
  have hp0 : p ≠ 0 := by omega
  unfold nrI
  by_cases hn : 0 ≤ n
  · rcases (show 2 * (n % p) < p ∨ p < 2 * (n % p) ∨ 2 * (n % p) = p by omega) with h | h | h
    · rw [nrFS_1 (f := n / p) h]
      go_enter Try.func27, Try.ntmps27
      go_wp2
      go_quiet (fail)
      go_wp2
      go_ret
      exact ⟨_, rfl, (rd_one _ _ _).keep ((Kp.refl _).drewN _), ((Kp.refl _).alloc _).drewN _⟩
    · rw [nrFS_2 (f := n / p) h]
      go_enter Try.func27, Try.ntmps27
      go_wp2
      go_quiet (fail)
      go_wp2
      go_ret
      exact ⟨_, rfl, (rd_one _ _ _).keep ((Kp.refl _).drewN _), ((Kp.refl _).alloc _).drewN _⟩
    · rw [nrFS_3 (f := n / p) h]
      have ha : ¬ 2 * (n % p) < p := by omega
      have hb : ¬ p < 2 * (n % p) := by omega
      clear h
      go_enter Try.func27, Try.ntmps27
      go_wp2
      go_quiet (fail)
      go_wp2
      go_ret
      exact ⟨_, rfl, (rd_two _ _ _ _).keep ((Kp.refl _).drewN _), ((Kp.refl _).alloc _).drewN _⟩
  · have hl := nr_le (n := n) (p := p) (by omega)
    by_cases ht : n.tmod p < 0
    · obtain ⟨e1, e2⟩ := nr_neg p1 ht
      rw [e1, e2]
      rw [e1, e2] at bd
      clear e1 e2
      rcases (show 2 * (n.tmod p + p) < p ∨ p < 2 * (n.tmod p + p) ∨ 2 * (n.tmod p + p) = p by omega) with h | h | h
      · rw [nrFS_1 (f := n.tdiv p - 1) h]
        go_enter Try.func27, Try.ntmps27
        go_wp2
        go_quiet (fail)
        go_wp2
        go_ret
        exact ⟨_, rfl, (rd_one _ _ _).keep ((Kp.refl _).drewN _), ((Kp.refl _).alloc _).drewN _⟩
      · rw [nrFS_2 (f := n.tdiv p - 1) h]
        rw [show n.tdiv p - 1 + 1 = n.tdiv p by omega]
        go_enter Try.func27, Try.ntmps27
        go_wp2
        go_quiet (fail)
        go_wp2
        go_ret
        exact ⟨_, rfl, (rd_one _ _ _).keep ((Kp.refl _).drewN _), ((Kp.refl _).alloc _).drewN _⟩
      · rw [nrFS_3 (f := n.tdiv p - 1) h]
        rw [show n.tdiv p - 1 + 1 = n.tdiv p by omega]
        have ha : ¬ 2 * (n.tmod p + p) < p := by omega
        have hb : ¬ p < 2 * (n.tmod p + p) := by omega
        clear h
        go_enter Try.func27, Try.ntmps27
        go_wp2
        go_quiet (fail)
        go_wp2
        go_ret
        exact ⟨_, rfl, (rd_two _ _ _ _).keep ((Kp.refl _).drewN _), ((Kp.refl _).alloc _).drewN _⟩
    · have ht0 : n.tmod p = 0 := by omega
      obtain ⟨e1, e2⟩ := nr_zero p1 ht0
      rw [e1, e2, nrFS_1 (by omega)]
      rw [e1] at bd
      clear e1 e2 hl ht
      go_enter Try.func27, Try.ntmps27
      go_wp2
      go_quiet (fail)
      go_wp2
      go_ret
      exact ⟨_, rfl, (rd_one _ _ _).keep ((Kp.refl _).drewN _), ((Kp.refl _).alloc _).drewN _⟩

theorem hNear_any (n p : Int) (w : World) (h1 : -20000 ≤ n) (h2 : n ≤ 20000) (p1 : 1 ≤ p) (p2 : p ≤ 200) :
    Calls Try.prog 38 #[.int .i64 n, .int .i64 p] w (NearPost (nrI n p) w) := by
  have bd := nr_bd p1 h1 h2
  have hp0 : p ≠ 0 := by omega
  unfold nrI
  by_cases hn : 0 ≤ n
  · have ES := Lib.hid (nr_rest n p)
    have hpb : -40000 ≤ n / p * p ∧ n / p * p ≤ 40000 := by have := ES.out; omega
    rcases (show 2 * (n % p) < p ∨ p < 2 * (n % p) ∨ 2 * (n % p) = p by omega) with h | h | h
    · rw [nrFS_1 (f := n / p) h]
      rw [← ES.out] at h
      go_enter Try.func38, Try.ntmps38
      go_wp2
      go_ret
      exact ⟨_, rfl, rd_one _ _ _, (Kp.refl _).alloc _⟩
    · rw [nrFS_2 (f := n / p) h]
      rw [← ES.out] at h
      go_enter Try.func38, Try.ntmps38
      go_wp2
      go_ret
      exact ⟨_, rfl, rd_one _ _ _, (Kp.refl _).alloc _⟩
    · rw [nrFS_3 (f := n / p) h]
      rw [← ES.out] at h
      have ha : ¬ 2 * (n - n / p * p) < p := by omega
      have hb : ¬ p < 2 * (n - n / p * p) := by omega
      clear h
      go_enter Try.func38, Try.ntmps38
      go_wp2
      go_ret
      exact ⟨_, rfl, rd_two _ _ _ _, (Kp.refl _).alloc _⟩
  · have hl := nr_le (n := n) (p := p) (by omega)
    by_cases ht : n.tmod p < 0
    · obtain ⟨e1, e2⟩ := nr_neg p1 ht
      rw [e1, e2]
      rw [e1, e2] at bd
      have ES := Lib.hid (show n - (n.tdiv p - 1) * p = n.tmod p + p by rw [← e1, ← e2]; exact nr_rest n p)
      have hpb : -40000 ≤ (n.tdiv p - 1) * p ∧ (n.tdiv p - 1) * p ≤ 40000 := by have := ES.out; omega
      clear e1 e2
      rcases (show 2 * (n.tmod p + p) < p ∨ p < 2 * (n.tmod p + p) ∨ 2 * (n.tmod p + p) = p by omega) with h | h | h
      · rw [nrFS_1 (f := n.tdiv p - 1) h]
        rw [← ES.out] at h
        go_enter Try.func38, Try.ntmps38
        go_wp2
        go_ret
        exact ⟨_, rfl, rd_one _ _ _, (Kp.refl _).alloc _⟩
      · rw [nrFS_2 (f := n.tdiv p - 1) h]
        rw [show n.tdiv p - 1 + 1 = n.tdiv p by omega]
        rw [← ES.out] at h
        go_enter Try.func38, Try.ntmps38
        go_wp2
        go_ret
        exact ⟨_, rfl, rd_one _ _ _, (Kp.refl _).alloc _⟩
      · rw [nrFS_3 (f := n.tdiv p - 1) h]
        rw [show n.tdiv p - 1 + 1 = n.tdiv p by omega]
        rw [← ES.out] at h
        have ha : ¬ 2 * (n - (n.tdiv p - 1) * p) < p := by omega
        have hb : ¬ p < 2 * (n - (n.tdiv p - 1) * p) := by omega
        clear h
        go_enter Try.func38, Try.ntmps38
        go_wp2
        go_ret
        exact ⟨_, rfl, rd_two _ _ _ _, (Kp.refl _).alloc _⟩
    · have ht0 : n.tmod p = 0 := by omega
      obtain ⟨e1, e2⟩ := nr_zero p1 ht0
      rw [e1, e2, nrFS_1 (by omega)]
      rw [e1] at bd
      have hr := nr_rest n p
      rw [e1, e2] at hr
      have hpb : -40000 ≤ n.tdiv p * p ∧ n.tdiv p * p ≤ 40000 := by omega
      have h : 2 * (n - n.tdiv p * p) < p := by omega
      clear hr
      clear e1 e2 hl ht
      go_enter Try.func38, Try.ntmps38
      go_wp2
      go_ret
      exact ⟨_, rfl, rd_one _ _ _, (Kp.refl _).alloc _⟩

end Go.Proofs.Ytpfnljhnjembpaa
