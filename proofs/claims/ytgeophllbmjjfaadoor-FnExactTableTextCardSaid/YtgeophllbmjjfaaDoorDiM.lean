/-
  The plain mix of a list of numbers: its two numbers, their bounds, the residues that the languages of both sides compute.
-/
import Derived.Test.YtgeophllbmjjfaaDoorSpB
namespace Go.Proofs.YtgeophllbmjjfaaDoor
open Go.RowKit

def mA (a b x : Int) : Int := (16807 * a + x % 2147483647 + b) % 2147483647
def mB (a b x : Int) : Int := (39373 * b + x % 2147483629 + a) % 2147483629
def mixP (a b : Int) : List Int → Int × Int
  | [] => (a, b)
  | x :: l => mixP (mA a b x) (mB (mA a b x) b x) l
def mixL (l : List Int) : Int × Int := mixP 7 ((l.length : Int) + 1) (l ++ [1, 1, 1])
abbrev mx (a b : Int) : Value := .agg #[.int .i64 a, .int .i64 b]
def hashN (M : Int × Int) : Int := M.1 * 2147483648 + M.2
/-- The two numbers lie where they may be multiplied. -/
def MixBd (a b : Int) : Prop := 0 ≤ a ∧ a ≤ 2147483647 ∧ 0 ≤ b ∧ b ≤ 2147483647

theorem mA_bd (a b x : Int) : 0 ≤ mA a b x ∧ mA a b x ≤ 2147483646 := by
  unfold mA
  have h1 := Int.emod_nonneg (16807 * a + x % 2147483647 + b) (show (2147483647 : Int) ≠ 0 by omega)
  have h2 := Int.emod_lt_of_pos (16807 * a + x % 2147483647 + b) (show (0 : Int) < 2147483647 by omega)
  omega
theorem mB_bd (a b x : Int) : 0 ≤ mB a b x ∧ mB a b x ≤ 2147483628 := by
  unfold mB
  have h1 := Int.emod_nonneg (39373 * b + x % 2147483629 + a) (show (2147483629 : Int) ≠ 0 by omega)
  have h2 := Int.emod_lt_of_pos (39373 * b + x % 2147483629 + a) (show (0 : Int) < 2147483629 by omega)
  omega
theorem MixBd.step (a b x : Int) : MixBd (mA a b x) (mB (mA a b x) b x) := by
  have h1 := mA_bd a b x
  have h2 := mB_bd (mA a b x) b x
  exact ⟨h1.1, by omega, h2.1, by omega⟩
theorem MixBd.start {n : Nat} (h : n ≤ 1048576) : MixBd 7 ((n : Int) + 1) := ⟨by omega, by omega, by omega, by omega⟩

theorem mixP_drop {l t : List Int} {k : Nat} {x a b : Int} (h : l[k]? = some x) : mixP a b (l.drop k ++ t) = mixP (mA a b x) (mB (mA a b x) b x) (l.drop (k + 1) ++ t) := by
  rw [drop_step h]
  rfl
theorem mixP_cons (a b x : Int) (l : List Int) : mixP a b (x :: l) = mixP (mA a b x) (mB (mA a b x) b x) l := rfl
theorem mixP_bd : ∀ (l : List Int) (a b : Int), l ≠ [] → 0 ≤ (mixP a b l).1 ∧ (mixP a b l).1 ≤ 2147483646 ∧ 0 ≤ (mixP a b l).2 ∧ (mixP a b l).2 ≤ 2147483628
  | [], _, _, h => absurd rfl h
  | [x], a, b, _ => by
    have h1 := mA_bd a b x
    have h2 := mB_bd (mA a b x) b x
    exact ⟨h1.1, h1.2, h2.1, h2.2⟩
  | x :: y :: l, a, b, _ => mixP_bd (y :: l) _ _ (by simp)
theorem mixL_bd (l : List Int) : 0 ≤ (mixL l).1 ∧ (mixL l).1 ≤ 2147483646 ∧ 0 ≤ (mixL l).2 ∧ (mixL l).2 ≤ 2147483628 :=
  mixP_bd _ _ _ (by simp)

/-- The remainder of the language, made positive, is the residue. -/
theorem res_neg {n m : Int} (hm : 0 < m) (h : n.tmod m < 0) : n.tmod m + m = n % m := by
  have h1 := Int.mul_tdiv_add_tmod n m
  have h2 : -m < n.tmod m := Int.lt_tmod_of_pos n hm
  have h3 : n / m = n.tdiv m - 1 ∧ n % m = n.tmod m + m := by
    rw [Int.ediv_emod_unique (by omega)]
    refine ⟨?_, by omega, by omega⟩
    rw [Int.mul_sub]
    omega
  exact h3.2.symm
theorem res_pos {n m : Int} (hm : 0 < m) (h : 0 ≤ n.tmod m) : n.tmod m = n % m := by
  have h1 := Int.mul_tdiv_add_tmod n m
  have h2 : n.tmod m < m := Int.tmod_lt_of_pos n hm
  have h3 : n / m = n.tdiv m ∧ n % m = n.tmod m := by
    rw [Int.ediv_emod_unique (by omega)]
    exact ⟨by omega, by omega, by omega⟩
  exact h3.2.symm
theorem res_both {n m : Int} (hm : 0 < m) : (n.tmod m + m).tmod m = n % m := by
  have h2 : -m < n.tmod m := Int.lt_tmod_of_pos n hm
  rw [Int.tmod_eq_emod_of_nonneg (by omega), Int.add_emod_right]
  rcases Int.lt_or_le (n.tmod m) 0 with h | h
  · rw [← Int.add_emod_right, res_neg hm h, Int.emod_emod_of_dvd _ (Int.dvd_refl m)]
  · rw [res_pos hm h, Int.emod_emod_of_dvd _ (Int.dvd_refl m)]
theorem res_bd {n m : Int} (hm : 0 < m) : -m < n.tmod m ∧ n.tmod m < m := ⟨Int.lt_tmod_of_pos n hm, Int.tmod_lt_of_pos n hm⟩
theorem emod_bd {n m : Int} (hm : 0 < m) : 0 ≤ n % m ∧ n % m < m := ⟨Int.emod_nonneg n (by omega), Int.emod_lt_of_pos n hm⟩

end Go.Proofs.YtgeophllbmjjfaaDoor
