/-
  The hexes of a disk in their order, row by row, as a plain function on integers.
-/
import Derived.Test.YtmodcmkmfedgoaaDoorRowB
import Derived.Test.YtmodcmkmfedgoaaDoorDist
namespace Go.Proofs.YtmodcmkmfedgoaaDoor
open Go.RowKit

def inD (n : Nat) (a b : Int) : Bool := decide (-(n : Int) ≤ b ∧ b ≤ n ∧ -(n : Int) ≤ a + b ∧ a + b ≤ n)
theorem inD_true {n : Nat} {a b : Int} : inD n a b = true ↔ (-(n : Int) ≤ b ∧ b ≤ n ∧ -(n : Int) ≤ a + b ∧ a + b ≤ n) := by simp [inD]
theorem inD_false {n : Nat} {a b : Int} (h : ¬ (-(n : Int) ≤ b ∧ b ≤ n ∧ -(n : Int) ≤ a + b ∧ a + b ≤ n)) : inD n a b = false := by
  cases e : inD n a b
  · rfl
  · exact absurd (inD_true.1 e) h
theorem dist_le (n : Nat) (a b : Int) (h1 : -(n : Int) ≤ a) (h2 : a ≤ n) : decide (distI a b ≤ n) = inD n a b := by
  cases e : inD n a b
  · have : ¬ (-(n : Int) ≤ b ∧ b ≤ n ∧ -(n : Int) ≤ a + b ∧ a + b ≤ n) := fun h => by rw [inD_true.2 h] at e; cases e
    simp only [decide_eq_false_iff_not]
    unfold distI absI
    split <;> split <;> split <;> omega
  · have := inD_true.1 e
    simp only [decide_eq_true_eq]
    unfold distI absI
    split <;> split <;> split <;> omega

def oneF (n : Nat) (q r a b : Int) : List (Int × Int) := if inD n a b = true then [(q + a, r + b)] else []
def rowF (n : Nat) (q r a : Int) : Nat → List (Int × Int)
  | 0 => []
  | j + 1 => rowF n q r a j ++ oneF n q r a ((j : Int) - n)
def diskF (n : Nat) (q r : Int) : Nat → List (Int × Int)
  | 0 => []
  | i + 1 => diskF n q r i ++ rowF n q r ((i : Int) - n) (2 * n + 1)
theorem rowF_none (n : Nat) (q r a : Int) : ∀ j : Nat, (∀ t : Nat, t < j → inD n a ((t : Int) - n) = false) → rowF n q r a j = []
  | 0, _ => rfl
  | j + 1, h => by
    have e : oneF n q r a ((j : Int) - n) = [] := by unfold oneF; rw [h j (by omega)]; rfl
    rw [rowF, rowF_none n q r a j (fun t ht => h t (by omega)), e]
    rfl
theorem rowF_ext (n : Nat) (q r a : Int) (j : Nat) : ∀ m : Nat, j ≤ m → (∀ t : Nat, j ≤ t → t < m → inD n a ((t : Int) - n) = false) → rowF n q r a m = rowF n q r a j
  | 0, h, _ => by
    obtain rfl : j = 0 := by omega
    rfl
  | m + 1, h, hf => by
    by_cases e : j = m + 1
    · rw [e]
    · have e1 : oneF n q r a ((m : Int) - n) = [] := by unfold oneF; rw [hf m (by omega) (by omega)]; rfl
      rw [rowF, rowF_ext n q r a j m (by omega) (fun t h1 h2 => hf t h1 (by omega)), e1, List.append_nil]
theorem oneF_len (n : Nat) (q r a b : Int) : (oneF n q r a b).length ≤ 1 := by unfold oneF; split <;> simp
theorem rowF_len (n : Nat) (q r a : Int) : ∀ j : Nat, (rowF n q r a j).length ≤ j
  | 0 => Nat.le_refl _
  | j + 1 => by
    have := rowF_len n q r a j
    have := oneF_len n q r a ((j : Int) - n)
    rw [rowF, List.length_append]
    omega
theorem diskF_len (n : Nat) (q r : Int) (hn : n ≤ 6) : ∀ i : Nat, (diskF n q r i).length ≤ i * 13
  | 0 => Nat.le_refl _
  | i + 1 => by
    have := diskF_len n q r hn i
    have := rowF_len n q r ((i : Int) - n) (2 * n + 1)
    rw [diskF, List.length_append]
    omega
theorem allOk_append (l m : List (Int × Int)) : allOk (l ++ m) = (allOk l && allOk m) := by simp [allOk]
theorem allOk_mem {l : List (Int × Int)} {x : Int × Int} (hx : x ∈ l) (h : okH x.1 x.2 = false) : allOk l = false := by
  obtain ⟨i, hi, rfl⟩ := List.mem_iff_getElem.1 hx
  exact allOk_false (List.getElem?_eq_getElem hi) h
theorem rowF_mem (n : Nat) (q r a : Int) (t : Nat) (h : inD n a ((t : Int) - n) = true) : ∀ j : Nat, t < j → (q + a, r + ((t : Int) - n)) ∈ rowF n q r a j
  | 0, ht => by omega
  | j + 1, ht => by
    rw [rowF, List.mem_append]
    by_cases e : t = j
    · subst e
      exact .inr (by unfold oneF; rw [if_pos h]; simp)
    · exact .inl (rowF_mem n q r a t h j (by omega))
theorem diskF_mem (n : Nat) (q r : Int) (s t : Nat) (ht : t < 2 * n + 1) (h : inD n ((s : Int) - n) ((t : Int) - n) = true) : ∀ i : Nat, s < i → (q + ((s : Int) - n), r + ((t : Int) - n)) ∈ diskF n q r i
  | 0, hs => by omega
  | i + 1, hs => by
    rw [diskF, List.mem_append]
    by_cases e : s = i
    · subst e
      exact .inr (rowF_mem n q r _ t h _ ht)
    · exact .inl (diskF_mem n q r s t ht h i (by omega))
def diskL (n : Nat) (q r : Int) : List (Int × Int) := diskF n q r (2 * n + 1)
def diskOk (q r n : Int) : Bool := okH q r && (decide (0 ≤ n) && decide (n ≤ 6)) && allOk (diskL n.toNat q r)

theorem isRadius_any (n : Int) (w : World) :
    Calls Tryd.prog 21 #[.int .i64 n] w fun e w' => e = .returned (.bool (decide (0 ≤ n) && decide (n ≤ 6))) ∧ w = w' := by
  by_cases h1 : 0 ≤ n
  · by_cases h2 : n ≤ 6
    · go_enter Tryd.func21, Tryd.ntmps21
      go_wp2
      go_ret
      exact ⟨ret_bool (by simp [h1, h2]), rfl⟩
    · go_enter Tryd.func21, Tryd.ntmps21
      go_wp2
      go_ret
      exact ⟨ret_bool (by simp; omega), rfl⟩
  · go_enter Tryd.func21, Tryd.ntmps21
    go_wp2
    go_ret
    exact ⟨ret_bool (by simp; omega), rfl⟩
end Go.Proofs.YtmodcmkmfedgoaaDoor
