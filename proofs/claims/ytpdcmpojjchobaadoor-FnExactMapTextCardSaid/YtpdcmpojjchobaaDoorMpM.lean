/-
  The text of a map as bytes.
-/
import Derived.Test.YtpdcmpojjchobaaDoorBua
import Derived.Test.YtpdcmpojjchobaaDoorBub
import Derived.Test.YtpdcmpojjchobaaDoorBud
namespace Go.Proofs.YtpdcmpojjchobaaDoor
open Go.RowKit

/-- The rows of terrain, as far as the i-th hex. -/
def gT (n : Nat) (l : List Int) : Nat → List UInt8
  | 0 => []
  | i + 1 => gT n l i ++ Lib.decDigits (l.getD i 0).toNat ++ (if i % n = n - 1 then [10] else [])
def mapTx (W H : Int) (lt lr ld : List Int) : List UInt8 :=
  [109, 97, 112, 32] ++ Lib.decDigits W.toNat ++ [32] ++ Lib.decDigits H.toNat ++ [10] ++ gT W.toNat lt lt.length ++ ([114, 105, 118, 101, 114, 115] ++ numsT lr ++ [10]) ++ ([114, 111, 97, 100, 115] ++ numsT ld ++ [10])

theorem gT_more {n : Nat} {l : List Int} {i : Nat} {x : Int} (h : l[i]? = some x) : gT n l (i + 1) = gT n l i ++ Lib.decDigits x.toNat ++ (if i % n = n - 1 then [10] else []) := by
  have e : l.getD i 0 = x := by simp [List.getD, h]
  rw [gT, e]
theorem gT_len (n : Nat) (l : List Int) (h : ∀ x ∈ l, 0 ≤ x ∧ x < 100) : ∀ i, (gT n l i).length ≤ 3 * i
  | 0 => by simp [gT]
  | i + 1 => by
    have h1 := gT_len n l h i
    have h2 : (Lib.decDigits (l.getD i 0).toNat).length ≤ 2 := by
      refine digits_len2 ?_
      by_cases hi : i < l.length
      · have e : l.getD i 0 = l[i] := by simp [List.getD, hi]
        have := h _ (List.getElem_mem hi)
        rw [e]
        omega
      · have e : l.getD i 0 = 0 := by simp [List.getD, hi]
        rw [e]
        decide
    have h3 : (if i % n = n - 1 then ([10] : List UInt8) else []).length ≤ 1 := by split <;> simp
    rw [gT, List.length_append, List.length_append]
    omega
theorem digits_len3 {n : Nat} (h : n < 1000) : (Lib.decDigits n).length ≤ 3 := by
  have e : (Lib.decDigits n).length = Lib.nDigits n := by simp [Lib.decDigits_eq]
  rw [e]
  by_cases h0 : n < 10
  · rw [Lib.nDigits_small h0]; omega
  · rw [Lib.nDigits_big h0]
    by_cases h1 : n / 10 < 10
    · rw [Lib.nDigits_small h1]; omega
    · rw [Lib.nDigits_big h1, Lib.nDigits_small (by omega)]; omega
theorem numsT_len : ∀ (l : List Int), (∀ x ∈ l, 0 ≤ x ∧ x < 1000) → (numsT l).length ≤ 4 * l.length
  | [], _ => by simp [numsT]
  | x :: l, h => by
    have h1 := numsT_len l (fun y hy => h y (List.mem_cons_of_mem _ hy))
    have h2 := h x (List.mem_cons_self ..)
    have h3 := digits_len3 (n := x.toNat) (by omega)
    have e : numsT (x :: l) = (32 :: Lib.itoa x) ++ numsT l := by simp [numsT]
    rw [e, itoa_pos h2.1, List.length_append, List.length_cons, List.length_cons]
    omega
theorem numsT_more {l : List Int} {q : Nat} {x : Int} (h : l[q]? = some x) : numsT (l.take (q + 1)) = numsT (l.take q) ++ (32 :: Lib.itoa x) := by
  rw [List.take_add_one, h]
  simp [numsT]

theorem rise_pos : ∀ (l : List Int) (p : Int), -1 ≤ p → riseFrom p l = true → ∀ x ∈ l, 0 ≤ x
  | [], _, _, _, x, hx => by simp at hx
  | y :: l, p, hp, h, x, hx => by
    simp only [riseFrom, Bool.and_eq_true, decide_eq_true_iff] at h
    rcases List.mem_cons.1 hx with rfl | hx
    · omega
    · exact rise_pos l y (by omega) h.2 x hx
theorem edges_bd {W H : Int} {l : List Int} (h : edgesOk W H l = true) (hA : W * H ≤ 100) : ∀ x ∈ l, 0 ≤ x ∧ x < 1000 := by
  rw [edgesOk_eq, Bool.and_eq_true] at h
  intro x hx
  have h0 := rise_pos l (-1) (by omega) h.2 x hx
  have h1 := List.all_eq_true.1 h.1 x hx
  simp only [edgeB, nbB, Bool.and_eq_true] at h1
  have h2 : 0 ≤ x.tdiv 3 ∧ x.tdiv 3 < W * H := onI_true (by first | exact h1.1 | exact h1.1.1 | exact h1.1.1.1)
  rw [Int.tdiv_eq_ediv_of_nonneg h0] at h2
  omega

end Go.Proofs.YtpdcmpojjchobaaDoor
