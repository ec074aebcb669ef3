/-
  Boards as plain data: when a board is valid, the cost to enter a hex, open hexes, unused and missing terrains, stuck kinds. No program is looked into.
-/
import Derived.Test.YtkkcnofplddbmaaDoorRulM
import Derived.Test.YtkkcnofplddbmaaDoorMapG
import Derived.Test.YtkkcnofplddbmaaDoorMirM
namespace Go.Proofs.YtkkcnofplddbmaaDoor
open Go.RowKit

/-- The numbers below n with a property, rising. -/
def filN (f : Nat → Bool) : Nat → List Int
  | 0 => []
  | k + 1 => if f k then filN f k ++ [(k : Int)] else filN f k
theorem filN_yes {f : Nat → Bool} {k : Nat} (h : f k = true) : filN f (k + 1) = filN f k ++ [(k : Int)] := by rw [filN, h]; rfl
theorem filN_no {f : Nat → Bool} {k : Nat} (h : f k = false) : filN f (k + 1) = filN f k := by rw [filN, h]; rfl
theorem filN_len (f : Nat → Bool) : ∀ k, (filN f k).length ≤ k
  | 0 => by simp [filN]
  | k + 1 => by
    have := filN_len f k
    cases h : f k
    · rw [filN_no h]; omega
    · rw [filN_yes h, List.length_append]; simp; omega
theorem filN_mem (f : Nat → Bool) : ∀ k (x : Int), x ∈ filN f k ↔ ∃ j : Nat, j < k ∧ x = j ∧ f j = true
  | 0, x => by simp [filN]
  | k + 1, x => by
    cases h : f k
    · rw [filN_no h, filN_mem f k x]
      constructor
      · rintro ⟨j, hj, e, hf⟩; exact ⟨j, by omega, e, hf⟩
      · rintro ⟨j, hj, e, hf⟩
        rcases Nat.lt_or_ge j k with h1 | h1
        · exact ⟨j, h1, e, hf⟩
        · obtain rfl : j = k := by omega
          rw [h] at hf; cases hf
    · rw [filN_yes h, List.mem_append, filN_mem f k x, List.mem_singleton]
      constructor
      · rintro (⟨j, hj, e, hf⟩ | rfl)
        · exact ⟨j, by omega, e, hf⟩
        · exact ⟨k, by omega, rfl, h⟩
      · rintro ⟨j, hj, e, hf⟩
        rcases Nat.lt_or_ge j k with h1 | h1
        · exact .inl ⟨j, h1, e, hf⟩
        · obtain rfl : j = k := by omega
          exact .inr e
theorem filN_rise (f : Nat → Bool) : ∀ k, (filN f k).Pairwise (· < ·)
  | 0 => by simp [filN]
  | k + 1 => by
    cases h : f k
    · rw [filN_no h]; exact filN_rise f k
    · rw [filN_yes h, List.pairwise_append]
      refine ⟨filN_rise f k, by simp, fun x hx y hy => ?_⟩
      obtain ⟨j, hj, e, _⟩ := (filN_mem f k x).1 hx
      rw [List.mem_singleton] at hy
      omega
theorem filN_cong {f g : Nat → Bool} : ∀ k, (∀ j, j < k → f j = g j) → filN f k = filN g k
  | 0, _ => rfl
  | k + 1, h => by
    have h1 := filN_cong k (fun j hj => h j (by omega))
    have h2 := h k (by omega)
    rw [filN, filN, h1, h2]

/-- What a terrain costs a kind. -/
def costT (l : List Ter) (t k : Nat) : Int := (((l[t]?).map (·.cost)).getD [])[k]?.getD 0
/-- What a hex costs a kind. -/
def costB (l : List Ter) (lt : List Int) (k i : Nat) : Int := costT l (lt[i]?.getD 0).toNat k
def opnB (l : List Ter) (lt : List Int) (k i : Nat) : Bool := decide (0 < costB l lt k i)
def opnL (l : List Ter) (lt : List Int) (k n : Nat) : List Int := filN (opnB l lt k) n
def unuB (lt : List Int) (n : Nat) : Bool := !hasB lt n
def unuL (lt : List Int) (nt : Nat) : List Int := filN (unuB lt) nt
def misB (lt : List Int) (nt n : Nat) : Bool := decide (nt ≤ n) && hasB lt n
def misL (lt : List Int) (nt : Nat) : List Int := filN (misB lt nt) 6

/-- A valid board. -/
def brdOk (r : Rul) (W H : Int) (lt lr ld : List Int) : Bool := (rulOk r && mapOk W H lt lr ld) && lt.all (spB 0 (r.ters.length - 1))

theorem hasB_iff (l : List Int) (m : Int) : hasB l m = true ↔ m ∈ l := by simp [hasB]
theorem mapOk_terr {W H : Int} {lt lr ld : List Int} (h : mapOk W H lt lr ld = true) : ∀ x ∈ lt, 0 ≤ x ∧ x ≤ 5 := by
  simp only [mapOk, Bool.and_eq_true, List.all_eq_true] at h
  intro x hx
  have := h.2.2.2.1 x hx
  simpa [terrB] using this
theorem misL_nil {lt : List Int} {nt : Nat} (hb : ∀ x ∈ lt, 0 ≤ x ∧ x ≤ 5) : decide (misL lt nt = []) = lt.all (spB 0 ((nt : Int) - 1)) := by
  rw [Bool.eq_iff_iff, decide_eq_true_iff, List.all_eq_true]
  constructor
  · intro h x hx
    have hbx := hb x hx
    simp only [spB, Bool.and_eq_true, decide_eq_true_iff]
    refine ⟨hbx.1, ?_⟩
    by_cases hlt : x ≤ (nt : Int) - 1
    · exact hlt
    · have : x ∈ misL lt nt := (filN_mem _ _ _).2 ⟨x.toNat, by omega, by omega, by
        simp only [misB, Bool.and_eq_true, decide_eq_true_iff]
        refine ⟨by omega, (hasB_iff _ _).2 ?_⟩
        have e : ((x.toNat : Nat) : Int) = x := by omega
        rw [e]; exact hx⟩
      rw [h] at this
      cases this
  · intro h
    rw [List.eq_nil_iff_forall_not_mem]
    intro x hx
    obtain ⟨j, hj, rfl, hm⟩ := (filN_mem _ _ _).1 hx
    simp only [misB, Bool.and_eq_true, decide_eq_true_iff] at hm
    have := h _ ((hasB_iff _ _).1 hm.2)
    simp only [spB, Bool.and_eq_true, decide_eq_true_iff] at this
    omega

/-- The terrains of a map that are not less than nt, put one by one. -/
def misS (nt : Nat) : List Int → List Int → List Int
  | acc, [] => acc
  | acc, t :: l => misS nt (if (nt : Int) ≤ t then putI acc t else acc) l
theorem misS_mem (nt : Nat) : ∀ (l acc : List Int) (y : Int), y ∈ misS nt acc l ↔ (y ∈ acc ∨ (y ∈ l ∧ (nt : Int) ≤ y))
  | [], acc, y => by simp [misS]
  | t :: l, acc, y => by
    rw [misS, misS_mem nt l]
    split
    · rw [putI_mem]
      constructor
      · rintro ((rfl | h) | ⟨h, h'⟩)
        · exact .inr ⟨by simp, by assumption⟩
        · exact .inl h
        · exact .inr ⟨by simp [h], h'⟩
      · rintro (h | ⟨h, h'⟩)
        · exact .inl (.inr h)
        · rcases List.mem_cons.1 h with rfl | h
          · exact .inl (.inl rfl)
          · exact .inr ⟨h, h'⟩
    · constructor
      · rintro (h | ⟨h, h'⟩)
        · exact .inl h
        · exact .inr ⟨by simp [h], h'⟩
      · rintro (h | ⟨h, h'⟩)
        · exact .inl h
        · rcases List.mem_cons.1 h with rfl | h
          · exact absurd h' (by assumption)
          · exact .inr ⟨h, h'⟩
theorem misS_rise (nt : Nat) : ∀ (l acc : List Int), acc.Pairwise (· < ·) → (misS nt acc l).Pairwise (· < ·)
  | [], acc, h => h
  | t :: l, acc, h => by
    rw [misS]
    apply misS_rise nt l
    split
    · exact putI_rise _ _ h
    · exact h
theorem rising_ext : ∀ (a b : List Int), a.Pairwise (· < ·) → b.Pairwise (· < ·) → (∀ x, x ∈ a ↔ x ∈ b) → a = b
  | [], [], _, _, _ => rfl
  | [], y :: b, _, _, h => absurd ((h y).2 (by simp)) (by simp)
  | x :: a, [], _, _, h => absurd ((h x).1 (by simp)) (by simp)
  | x :: a, y :: b, ha, hb, h => by
    rw [List.pairwise_cons] at ha hb
    have hxy : x = y := by
      have h1 : x = y ∨ x ∈ b := by simpa using (h x).1 (by simp)
      have h2 : y = x ∨ y ∈ a := by simpa using (h y).2 (by simp)
      rcases h1 with h1 | h1
      · exact h1
      · rcases h2 with h2 | h2
        · exact h2.symm
        · have := ha.1 y h2
          have := hb.1 x h1
          omega
    subst hxy
    congr 1
    refine rising_ext a b ha.2 hb.2 fun z => ?_
    have hz := h z
    simp only [List.mem_cons] at hz
    constructor
    · intro hza
      rcases hz.1 (.inr hza) with rfl | hzb
      · have := ha.1 z hza; omega
      · exact hzb
    · intro hzb
      rcases hz.2 (.inr hzb) with rfl | hza
      · have := hb.1 z hzb; omega
      · exact hza
theorem misS_eq {lt : List Int} {nt : Nat} (hb : ∀ x ∈ lt, 0 ≤ x ∧ x ≤ 5) : misS nt [] lt = misL lt nt := by
  refine rising_ext _ _ (misS_rise nt lt [] List.Pairwise.nil) (filN_rise _ _) fun x => ?_
  rw [misS_mem]
  unfold misL
  rw [filN_mem]
  constructor
  · rintro (h | ⟨h, h'⟩)
    · cases h
    · have := hb x h
      refine ⟨x.toNat, by omega, by omega, ?_⟩
      simp only [misB, Bool.and_eq_true, decide_eq_true_iff]
      have e : ((x.toNat : Nat) : Int) = x := by omega
      exact ⟨by omega, (hasB_iff _ _).2 (by rw [e]; exact h)⟩
  · rintro ⟨j, hj, rfl, hm⟩
    simp only [misB, Bool.and_eq_true, decide_eq_true_iff] at hm
    exact .inr ⟨(hasB_iff _ _).1 hm.2, by omega⟩

end Go.Proofs.YtkkcnofplddbmaaDoor
