/-
  Plain facts on shuffles and faces: a shuffle has each number below its length once; the faces' counts add up. No program is looked into.
-/
import Derived.Test.YtajidjckpjdebaaDoorDiP
import Derived.Test.YtajidjckpjdebaaDoorDiY
namespace Go.Proofs.YtajidjckpjdebaaDoor
open Go.RowKit

theorem getI_set (l : List Int) (k : Nat) (x : Int) (j : Nat) : getI (l.set k x) j = if k = j ∧ k < l.length then x else getI l j := by
  unfold getI
  rw [List.getElem?_set]
  by_cases h : k = j
  · subst h
    by_cases h2 : k < l.length
    · simp [h2]
    · simp [h2]
  · simp [h]
/-- Each number below n stands in the list once. -/
def Inj (n : Nat) (l : List Int) : Prop := l.length = n ∧ (∀ j, j < n → 0 ≤ getI l j ∧ getI l j < n) ∧ ∀ i j, i < n → j < n → getI l i = getI l j → i = j
theorem idL_get : ∀ (n j : Nat), j < n → getI (idL n) j = (j : Int)
  | 0, j, h => absurd h (by omega)
  | n + 1, j, h => by
    unfold getI idL
    by_cases hj : j < n
    · have := idL_get n j hj
      unfold getI at this
      rw [List.getElem?_append_left (by rw [idL_len]; omega)]
      exact this
    · obtain rfl : j = n := by omega
      rw [List.getElem?_append_right (by rw [idL_len]; omega), idL_len]
      simp
theorem inj_id (n : Nat) : Inj n (idL n) := by
  refine ⟨idL_len n, fun j hj => ?_, fun i j hi hj e => ?_⟩
  · rw [idL_get n j hj]
    omega
  · rw [idL_get n i hi, idL_get n j hj] at e
    omega
theorem inj_step {n : Nat} {l : List Int} {s : Int} {k : Nat} (h : Inj n l) (hk : k < n) : Inj n (shS s l k) := by
  obtain ⟨hl, hb, hi⟩ := h
  have hD := belN_bd s (k : Int) ((k : Int) + 1) (by omega)
  obtain ⟨i, hi0⟩ : ∃ i : Nat, i = (belN s (k : Int) ((k : Int) + 1)).toNat := ⟨_, rfl⟩
  have hin : i < n := by omega
  have hg : ∀ j, getI (shS s l k) j = getI l (if i = j then k else if k = j then i else j) := fun j => by
    unfold shS
    rw [← hi0, getI_set, getI_set, List.length_set, hl]
    by_cases h1 : i = j
    · simp [h1, h1 ▸ hin]
    · by_cases h2 : k = j
      · simp [h1, h2, h2 ▸ hk]
      · simp [h1, h2]
  have ht : ∀ j, j < n → (if i = j then k else if k = j then i else j) < n := fun j hj => by
    split
    · exact hk
    · split
      · exact hin
      · exact hj
  refine ⟨by rw [shS_len, hl], fun j hj => ?_, fun a c ha hc e => ?_⟩
  · rw [hg]
    exact hb _ (ht j hj)
  · rw [hg, hg] at e
    have := hi _ _ (ht a ha) (ht c hc) e
    clear e hg ht
    split at this <;> split at this <;> (try split at this) <;> (try split at this) <;> omega
theorem inj_shuR {n : Nat} {s : Int} : ∀ (k : Nat) (l : List Int), k < n → Inj n l → Inj n (shuR s k l)
  | 0, _, _, h => h
  | k + 1, l, hk, h => inj_shuR k _ (by omega) (inj_step h hk)
theorem inj_shuL (s : Int) (n : Nat) : Inj n (shuL s n) := by
  unfold shuL
  rcases Nat.eq_zero_or_pos n with h | h
  · subst h
    exact inj_id 0
  · exact inj_shuR _ _ (by omega) (inj_id n)

/-- The sum of the first numbers of a list. -/
def sumT (l : List Int) : Nat → Int
  | 0 => 0
  | q + 1 => sumT l q + getI l q
theorem facL_sum (s : Int) : ∀ k : Nat, sumT (facL s k) 6 = (k : Int)
  | 0 => by
    show sumT (List.replicate 6 0) 6 = 0
    decide
  | k + 1 => by
    have ih := facL_sum s k
    have hl := facL_len s k
    have hd := dieN_bd s (k : Int)
    obtain ⟨J, hJ⟩ : ∃ J : Nat, J = (dieN s k - 1).toNat := ⟨_, rfl⟩
    have hJ6 : J < 6 := by omega
    rw [facL, ← hJ]
    generalize facL s k = L at *
    simp only [sumT, getI_set, hl] at ih ⊢
    rcases (show J = 0 ∨ J = 1 ∨ J = 2 ∨ J = 3 ∨ J = 4 ∨ J = 5 by omega) with h | h | h | h | h | h <;> subst h <;> simp <;> omega
theorem sumT_bd {l : List Int} {B : Int} (hB : 0 ≤ B) (h : NB B l) : ∀ q : Nat, 0 ≤ sumT l q ∧ sumT l q ≤ (q : Int) * B
  | 0 => by simp [sumT]
  | q + 1 => by
    have ih := sumT_bd hB h q
    have hg := h.get hB q
    have e : ((q + 1 : Nat) : Int) * B = (q : Int) * B + B := by rw [Int.natCast_succ, Int.add_mul]; omega
    rw [sumT, e]
    omega

end Go.Proofs.YtajidjckpjdebaaDoor
