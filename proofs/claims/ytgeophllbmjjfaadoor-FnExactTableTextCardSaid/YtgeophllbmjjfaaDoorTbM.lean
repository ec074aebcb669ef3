/-
  Combat tables as plain lists: valid odds, rows and tables, columns, scores, monotony, counts. No program is looked into.
-/
import Derived.Test.YtgeophllbmjjfaaDoorRulM
namespace Go.Proofs.YtgeophllbmjjfaaDoor
open Go.RowKit

def odB (x : Int × Int) : Bool := spB 1 20 x.1 && spB 1 20 x.2
def belO (p x : Int × Int) : Bool := decide (p.1 * x.2 < x.1 * p.2)
def colF (co : List (Int × Int)) (j : Nat) : Bool := odB (co.getD j (0, 0)) && (decide (j = 0) || belO (co.getD (j - 1) (0, 0)) (co.getD j (0, 0)))
def colsOk (co : List (Int × Int)) : Bool := spB 1 8 co.length && allN co.length (colF co)
def rowOk (n : Nat) (l : List Int) : Bool := decide (l.length = n) && l.all (spB 0 7)
def rowF (n : Nat) (rs : List (List Int)) (j : Nat) : Bool := rowOk n (rs.getD j [])
def rowsOk (n : Nat) (rs : List (List Int)) : Bool := allN rs.length (rowF n rs)
def tabOk (co : List (Int × Int)) (d : Int) (rs : List (List Int)) : Bool := colsOk co && (spB 1 2 d && (decide ((rs.length : Int) = 5 * d + 1) && rowsOk co.length rs))

theorem spB_true {a b n : Int} (h : spB a b n = true) : a ≤ n ∧ n ≤ b := by simpa [spB] using h
theorem spB_mk {a b n : Int} (h : a ≤ n) (h' : n ≤ b) : spB a b n = true := by simp [spB, h, h']
theorem spB_lo {a b n : Int} (h : ¬ a ≤ n) : spB a b n = false := by simp [spB, h]
theorem spB_hi {a b n : Int} (h : ¬ n ≤ b) : spB a b n = false := by simp [spB, h]
theorem odB_true {x : Int × Int} (h : odB x = true) : 1 ≤ x.1 ∧ x.1 ≤ 20 ∧ 1 ≤ x.2 ∧ x.2 ≤ 20 := by
  simp only [odB, Bool.and_eq_true] at h
  exact ⟨(spB_true h.1).1, (spB_true h.1).2, (spB_true h.2).1, (spB_true h.2).2⟩
theorem tabOk_parts {co : List (Int × Int)} {d : Int} {rs : List (List Int)} (h : tabOk co d rs = true) : colsOk co = true ∧ spB 1 2 d = true ∧ (rs.length : Int) = 5 * d + 1 ∧ rowsOk co.length rs = true := by
  simp only [tabOk, Bool.and_eq_true, decide_eq_true_eq] at h
  exact ⟨h.1, h.2.1, h.2.2.1, h.2.2.2⟩
theorem tabOk_n {co : List (Int × Int)} {d : Int} {rs : List (List Int)} (h : tabOk co d rs = true) : 1 ≤ co.length ∧ co.length ≤ 8 := by
  have := (tabOk_parts h).1
  simp only [colsOk, Bool.and_eq_true] at this
  have := spB_true this.1
  omega
theorem tabOk_d {co : List (Int × Int)} {d : Int} {rs : List (List Int)} (h : tabOk co d rs = true) : 1 ≤ d ∧ d ≤ 2 := spB_true (tabOk_parts h).2.1
theorem tabOk_col {co : List (Int × Int)} {d : Int} {rs : List (List Int)} (h : tabOk co d rs = true) {j : Nat} {x : Int × Int} (hj : co[j]? = some x) : 1 ≤ x.1 ∧ x.1 ≤ 20 ∧ 1 ≤ x.2 ∧ x.2 ≤ 20 := by
  have h1 := (tabOk_parts h).1
  simp only [colsOk, Bool.and_eq_true] at h1
  have hl := (List.getElem?_eq_some_iff.1 hj).1
  have h2 := allN_at h1.2 hl
  simp only [colF, Bool.and_eq_true] at h2
  have e : co.getD j (0, 0) = x := by simp [List.getD, hj]
  rw [e] at h2
  exact odB_true h2.1
theorem tabOk_row {co : List (Int × Int)} {d : Int} {rs : List (List Int)} (h : tabOk co d rs = true) {j : Nat} {l : List Int} (hj : rs[j]? = some l) : l.length = co.length ∧ ∀ (k : Nat) (x : Int), l[k]? = some x → 0 ≤ x ∧ x ≤ 7 := by
  have h1 := (tabOk_parts h).2.2.2
  have hl := (List.getElem?_eq_some_iff.1 hj).1
  have h2 := allN_at h1 hl
  have e : rs.getD j [] = l := by simp [List.getD, hj]
  simp only [rowF, e, rowOk, Bool.and_eq_true, decide_eq_true_eq, List.all_eq_true] at h2
  exact ⟨h2.1, fun k x hx => spB_true (h2.2 x (List.mem_of_getElem? hx))⟩
theorem colF_no {co : List (Int × Int)} {j : Nat} {x : Int × Int} (hj : co[j]? = some x) (h : odB x = false) : colF co j = false := by
  have e : co.getD j (0, 0) = x := by simp [List.getD, hj]
  unfold colF
  rw [e, h]
  rfl
theorem colF_zero {co : List (Int × Int)} {x : Int × Int} (hj : co[0]? = some x) : colF co 0 = odB x := by
  have e : co.getD 0 (0, 0) = x := by simp [List.getD, hj]
  unfold colF
  rw [e]
  simp
theorem colF_succ {co : List (Int × Int)} {j : Nat} {p x : Int × Int} (hp : co[j]? = some p) (hj : co[j + 1]? = some x) : colF co (j + 1) = (odB x && belO p x) := by
  have e : co.getD (j + 1) (0, 0) = x := by simp [List.getD, hj]
  have e' : co.getD j (0, 0) = p := by simp [List.getD, hp]
  unfold colF
  rw [Nat.add_sub_cancel, e, e']
  simp
theorem rowF_at {n j : Nat} {rs : List (List Int)} {l : List Int} (hj : rs[j]? = some l) : rowF n rs j = rowOk n l := by
  have e : rs.getD j [] = l := by simp [List.getD, hj]
  unfold rowF
  rw [e]
theorem all_noAt {f : Int → Bool} {l : List Int} {k : Nat} {x : Int} (hx : l[k]? = some x) (h : f x = false) : l.all f = false := by
  rw [List.all_eq_false]
  exact ⟨x, List.mem_of_getElem? hx, by simp [h]⟩
theorem all_yesAt {f : Int → Bool} {l : List Int} (h : ∀ (k : Nat) x, l[k]? = some x → f x = true) : l.all f = true := by
  rw [List.all_eq_true]
  intro x hx
  obtain ⟨i, hi, rfl⟩ := List.mem_iff_getElem.1 hx
  exact h i _ (List.getElem?_eq_getElem hi)
theorem mul_bd20 {a b m n : Int} (h0 : 0 ≤ a) (h1 : a ≤ m) (k0 : 0 ≤ b) (k1 : b ≤ n) (hm : 0 ≤ m) : 0 ≤ a * b ∧ a * b ≤ m * n := by
  refine ⟨Int.mul_nonneg h0 k0, ?_⟩
  exact Int.mul_le_mul h1 k1 k0 hm

/-- The greatest column whose odds are at most the quotient. -/
def witB (a b : Int) (o : Int × Int) : Bool := decide (b * o.1 ≤ a * o.2)
def colI (co : List (Int × Int)) (a b : Int) : Nat → Nat
  | 0 => 0
  | k + 1 => if witB a b (co.getD k (0, 0)) = true then k else colI co a b k
def shI (n : Nat) (c s : Int) : Int := max 0 (min ((n : Int) - 1) (c + s))
def resI (d : Int) (rs : List (List Int)) (roll c : Int) : Int := (rs.getD (roll - d).toNat []).getD c.toNat 0
def scoI (x : Int) : Int := if x = 7 then 0 else if 4 ≤ x then 3 - x else x
def inCol (n : Nat) (c : Int) : Bool := decide (0 ≤ c) && decide (c < n)
theorem inCol_true {n : Nat} {c : Int} (h : inCol n c = true) : 0 ≤ c ∧ c < n := by simpa [inCol] using h

end Go.Proofs.YtgeophllbmjjfaaDoor
