/-
  Plain facts on directions and distances: the direction back, turned and mirrored differences are as long. No program is looked into.
-/
import Derived.Test.YtejgfjffndjjnaaDoorDirTo
import Derived.Test.YtejgfjffndjjnaaDoorTurnSpec
namespace Go.Proofs.YtejgfjffndjjnaaDoor
open Go.RowKit

theorem dirRes_facts {x y : Int} (h : (dirRes x y).2 = true) :
    (0 ≤ (dirRes x y).1 ∧ (dirRes x y).1 ≤ 5) ∧ dirQ (dirRes x y).1 = x ∧ dirR (dirRes x y).1 = y ∧ dirRes (-x) (-y) = (((dirRes x y).1 + 3) % 6, true) := by
  by_cases h0 : x = 1 ∧ y = 0
  · obtain ⟨rfl, rfl⟩ := h0; decide
  by_cases h1 : x = 1 ∧ y = -1
  · obtain ⟨rfl, rfl⟩ := h1; decide
  by_cases h2 : x = 0 ∧ y = -1
  · obtain ⟨rfl, rfl⟩ := h2; decide
  by_cases h3 : x = -1 ∧ y = 0
  · obtain ⟨rfl, rfl⟩ := h3; decide
  by_cases h4 : x = -1 ∧ y = 1
  · obtain ⟨rfl, rfl⟩ := h4; decide
  by_cases h5 : x = 0 ∧ y = 1
  · obtain ⟨rfl, rfl⟩ := h5; decide
  unfold dirRes at h
  rw [if_neg h0, if_neg h1, if_neg h2, if_neg h3, if_neg h4, if_neg h5] at h
  exact absurd h (by simp)

/-- Where a direction leads from a hex to another, it is one of six, the step leads there, and the direction back is three on. -/
theorem dres_facts {aq ar bq br : Int} (h : (dres aq ar bq br).2 = true) :
    (0 ≤ (dres aq ar bq br).1 ∧ (dres aq ar bq br).1 ≤ 5) ∧ nbOk aq ar (dres aq ar bq br).1 = true ∧ aq + dirQ (dres aq ar bq br).1 = bq ∧ ar + dirR (dres aq ar bq br).1 = br ∧ dres bq br aq ar = (((dres aq ar bq br).1 + 3) % 6, true) := by
  by_cases hk : (okH aq ar && okH bq br) = true
  · have e : dres aq ar bq br = dirRes (bq - aq) (br - ar) := if_pos hk
    rw [e] at h ⊢
    obtain ⟨hd, hq, hr, hb⟩ := dirRes_facts h
    simp only [Bool.and_eq_true] at hk
    have e1 : aq + dirQ (dirRes (bq - aq) (br - ar)).1 = bq := by omega
    have e2 : ar + dirR (dirRes (bq - aq) (br - ar)).1 = br := by omega
    refine ⟨hd, ?_, e1, e2, ?_⟩
    · unfold nbOk
      rw [e1, e2, hk.1, hk.2]
      simp [hd.1, hd.2]
    · have e3 : dres bq br aq ar = dirRes (aq - bq) (ar - br) := if_pos (by simp [hk.1, hk.2])
      rw [e3, ← hb]
      congr 1 <;> omega
  · have e : dres aq ar bq br = (0, false) := if_neg hk
    rw [e] at h
    exact absurd h (by simp)

theorem distI_neg (a b : Int) : distI (-a) (-b) = distI a b := by
  have e : absI (-a + -b) = absI (a + b) := by unfold absI; split <;> split <;> omega
  have e1 : absI (-a) = absI a := by unfold absI; split <;> split <;> omega
  have e2 : absI (-b) = absI b := by unfold absI; split <;> split <;> omega
  unfold distI
  rw [e, e1, e2]
theorem distI_swap (a b : Int) : distI b a = distI a b := by
  unfold distI
  rw [Int.add_comm b a, Int.add_comm (absI b) (absI a)]
theorem distI_turn (a b : Int) : distI (-b) (a + b) = distI a b := by
  have e : absI (-b + (a + b)) = absI a := by congr 1; omega
  have e1 : absI (-b) = absI b := by unfold absI; split <;> split <;> omega
  unfold distI
  rw [e, e1, show absI b + absI (a + b) + absI a = absI a + absI b + absI (a + b) by omega]
theorem distI_turnN (a b : Int) : ∀ n, distI (turnN a b n).1 (turnN a b n).2 = distI a b
  | 0 => rfl
  | n + 1 => (distI_turn _ _).trans (distI_turnN a b n)

theorem hb3_bif (b : Bool) (q r : Int) : hb3 b q r = .tuple #[hx (bif b then q else 0) (bif b then r else 0), .bool b] := by cases b <;> rfl

theorem turn_facts {q r cq cr k : Int} (h : turnOk q r cq cr k = true) :
    distOf (cq + (turnN (q - cq) (r - cr) k.toNat).1) (cr + (turnN (q - cq) (r - cr) k.toNat).2) cq cr = distOf q r cq cr ∧ ok2 (cq + (turnN (q - cq) (r - cr) k.toNat).1) (cr + (turnN (q - cq) (r - cr) k.toNat).2) cq cr = true := by
  simp only [turnOk, Bool.and_eq_true] at h
  obtain ⟨⟨⟨h1, h2⟩, _⟩, h4⟩ := h
  refine ⟨?_, (distOf_yes h4 h2).2⟩
  rw [(distOf_yes h4 h2).1, (distOf_yes h1 h2).1]
  unfold distH
  rw [← distI_neg (cq - q) (cr - r), show -(cq - q) = q - cq by omega, show -(cr - r) = r - cr by omega, ← distI_turnN (q - cq) (r - cr) k.toNat, ← distI_neg]
  congr 1 <;> omega
theorem mir_facts {q r cq cr : Int} (h : mirOk q r cq cr = true) :
    distOf (cq + (r - cr)) (cr + (q - cq)) cq cr = distOf q r cq cr ∧ ok2 (cq + (r - cr)) (cr + (q - cq)) cq cr = true := by
  simp only [mirOk, Bool.and_eq_true] at h
  obtain ⟨⟨h1, h2⟩, h4⟩ := h
  refine ⟨?_, (distOf_yes h4 h2).2⟩
  rw [(distOf_yes h4 h2).1, (distOf_yes h1 h2).1]
  unfold distH
  rw [← distI_swap (cq - q) (cr - r)]
  congr 1 <;> omega

end Go.Proofs.YtejgfjffndjjnaaDoor
