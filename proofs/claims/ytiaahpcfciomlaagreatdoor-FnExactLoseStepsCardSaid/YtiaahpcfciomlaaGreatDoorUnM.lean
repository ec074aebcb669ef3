/-
  States as plain data: when a unit and a state are valid, the units in a hex and of a side, their sums. No program is looked into.
-/
import Derived.Test.YtiaahpcfciomlaaGreatDoorUnO
import Derived.Test.YtiaahpcfciomlaaGreatDoorQb
namespace Go.Proofs.YtiaahpcfciomlaaGreatDoor
open Go.RowKit

/-- The number j is one of a list's unit with a property. -/
def unB (f : Uni → Bool) (us : List Uni) (j : Nat) : Bool := match us[j]? with
  | some u => f u
  | none => false
def inHex (i : Int) (u : Uni) : Bool := decide (u.a = i)
def inHexS (i s : Int) (u : Uni) : Bool := decide (u.a = i) && decide (u.s = s)
def ofSide (s : Int) (u : Uni) : Bool := decide (u.s = s) && decide (u.a ≠ -1)
/-- The units with a property, among the first k. -/
def unL (f : Uni → Bool) (us : List Uni) (k : Nat) : List Int := filN (unB f us) k
theorem unB_at {f : Uni → Bool} {us : List Uni} {j : Nat} {u : Uni} (h : us[j]? = some u) : unB f us j = f u := by unfold unB; rw [h]
theorem unL_yes {f : Uni → Bool} {us : List Uni} {k : Nat} {u : Uni} (h : us[k]? = some u) (hf : f u = true) : unL f us (k + 1) = unL f us k ++ [(k : Int)] := filN_yes ((unB_at h).trans hf)
theorem unL_no {f : Uni → Bool} {us : List Uni} {k : Nat} {u : Uni} (h : us[k]? = some u) (hf : f u = false) : unL f us (k + 1) = unL f us k := filN_no ((unB_at h).trans hf)
theorem unL_len (f : Uni → Bool) (us : List Uni) (k : Nat) : (unL f us k).length ≤ k := filN_len _ k
theorem unL_zero (f : Uni → Bool) (us : List Uni) : unL f us 0 = [] := rfl
theorem unL_mem {f : Uni → Bool} {us : List Uni} {k : Nat} {x : Int} (h : x ∈ unL f us k) : ∃ (j : Nat) (u : Uni), j < k ∧ x = j ∧ us[j]? = some u ∧ f u = true := by
  obtain ⟨j, hj, e, hb⟩ := (filN_mem _ _ _).1 h
  unfold unB at hb
  split at hb
  · exact ⟨j, _, hj, e, ‹_›, hb⟩
  · cases hb
theorem unL_has {f : Uni → Bool} {us : List Uni} {k j : Nat} {u : Uni} (hj : j < k) (h : us[j]? = some u) (hf : f u = true) : (j : Int) ∈ unL f us k :=
  (filN_mem _ _ _).2 ⟨j, hj, rfl, (unB_at h).trans hf⟩
theorem unL_cong {f g : Uni → Bool} {us : List Uni} (h : ∀ u ∈ us, f u = g u) (k : Nat) : unL f us k = unL g us k :=
  filN_cong k fun j _ => by
    unfold unB
    split
    · exact h _ (List.mem_of_getElem? ‹_›)
    · rfl

/-- What a kind's number stands for. -/
def stN (m : List Knd) (k : Int) : Int := ((m[k.toNat]?).map (·.stp)).getD 0
def srN (m : List Knd) (k : Int) : Int := ((m[k.toNat]?).map (·.str)).getD 0
def uniOk (l : List Ter) (m : List Knd) (W H : Int) (lt : List Int) (u : Uni) : Bool :=
  ((spB 0 1 u.s && inB u.k m.length) && spB 0 (stN m u.k) u.t) && (decide (u.a = -1) || ((decide (0 < u.t) && onI W H u.a) && decide (0 < costB l lt u.k.toNat u.a.toNat)))
/-- What the test of a unit says of its steps and its place. -/
def uniR (l : List Ter) (lt : List Int) (W H : Int) (K : Nat) (stp ax tx : Int) : Bool := spB 0 stp tx && (decide (ax = -1) || ((decide (0 < tx) && onI W H ax) && decide (0 < costB l lt K ax.toNat)))
def stkOk (us : List Uni) (st : Int) (u : Uni) : Bool :=
  decide (u.a = -1) || (decide ((unL (inHexS u.a (1 - u.s)) us us.length).length = 0) && decide (((unL (inHexS u.a u.s) us us.length).length : Int) ≤ st))
/-- A state that is valid for a board which is. -/
def staOk (r : Rul) (W H : Int) (lt : List Int) (T Z : Int) (us : List Uni) : Bool :=
  (((spB 0 r.turns T && spB 0 2 Z) && decide (us.length ≤ 12)) && us.all (uniOk r.ters r.knds W H lt)) && us.all (stkOk us r.stack)

theorem uniOk_side {l : List Ter} {m : List Knd} {W H : Int} {lt : List Int} {u : Uni} (h : uniOk l m W H lt u = true) : (u.s = 0 ∨ u.s = 1) ∧ (0 ≤ u.k ∧ u.k < m.length) ∧ (0 ≤ u.t ∧ u.t ≤ stN m u.k) ∧ (u.a = -1 ∨ 0 ≤ u.a) := by
  simp only [uniOk, spB, inB, onI, Bool.and_eq_true, Bool.or_eq_true, decide_eq_true_iff] at h
  omega
theorem staOk_parts {r : Rul} {W H : Int} {lt : List Int} {T Z : Int} {us : List Uni} (h : staOk r W H lt T Z us = true) :
    ((0 ≤ T ∧ T ≤ r.turns) ∧ (0 ≤ Z ∧ Z ≤ 2)) ∧ us.length ≤ 12 ∧ (∀ u ∈ us, uniOk r.ters r.knds W H lt u = true) ∧ ∀ u ∈ us, stkOk us r.stack u = true := by
  simp only [staOk, spB, Bool.and_eq_true, decide_eq_true_iff, List.all_eq_true] at h
  exact ⟨h.1.1.1, h.1.1.2, h.1.2, h.2⟩

/-- One number of each side, as the program counts them. -/
def cntS (us : List Uni) (i s : Int) (k : Nat) : Int := ((unL (inHexS i s) us k).length : Int)
theorem cntS_bd (us : List Uni) (i s : Int) (k : Nat) : 0 ≤ cntS us i s k ∧ cntS us i s k ≤ k := by
  have := unL_len (inHexS i s) us k
  unfold cntS
  omega
theorem cntS_zero (us : List Uni) (i s : Int) : cntS us i s 0 = 0 := rfl
theorem cntS_step {us : List Uni} {i s : Int} {k : Nat} {u : Uni} (h : us[k]? = some u) : cntS us i s (k + 1) = if u.a = i ∧ u.s = s then cntS us i s k + 1 else cntS us i s k := by
  unfold cntS
  split
  · rename_i hc
    rw [unL_yes h (by simp [inHexS, hc]), List.length_append]
    simp
  · rename_i hc
    rw [unL_no h (by simpa [inHexS] using hc)]
theorem cntS_pos {us : List Uni} {j k : Nat} {u : Uni} (hj : j < k) (h : us[j]? = some u) : 1 ≤ cntS us u.a u.s k := by
  have h1 : (j : Int) ∈ unL (inHexS u.a u.s) us k := unL_has hj h (by simp [inHexS])
  have h2 : 0 < (unL (inHexS u.a u.s) us k).length := List.length_pos_of_mem h1
  unfold cntS
  omega
theorem cntS_ex {us : List Uni} {i s : Int} {k : Nat} (h : 0 < cntS us i s k) : ∃ (j : Nat) (u : Uni), j < k ∧ us[j]? = some u ∧ u.a = i ∧ u.s = s := by
  unfold cntS at h
  obtain ⟨x, hx⟩ := List.exists_mem_of_length_pos (l := unL (inHexS i s) us k) (by omega)
  obtain ⟨j, u, hj, _, hu, hf⟩ := unL_mem hx
  simp only [inHexS, Bool.and_eq_true, decide_eq_true_iff] at hf
  exact ⟨j, u, hj, hu, hf.1, hf.2⟩

/-- The program's test of a stack: the lesser count is 0, the greater is not above the limit. -/
def stkP (st c0 c1 : Int) : Bool := decide (min c0 c1 = 0) && decide (max c0 c1 ≤ st)
theorem stk_eq {us : List Uni} {st : Int} {j : Nat} {u : Uni} (hu : us[j]? = some u) (hs : u.s = 0 ∨ u.s = 1) :
    (decide (u.a = -1) || stkP st (cntS us u.a 0 us.length) (cntS us u.a 1 us.length)) = stkOk us st u := by
  have h1 := cntS_pos (k := us.length) (by have := (List.getElem?_eq_some_iff.1 hu).1; omega) hu
  have b0 := cntS_bd us u.a 0 us.length
  have b1 := cntS_bd us u.a 1 us.length
  unfold stkOk stkP
  congr 1
  have e : ∀ s, ((unL (inHexS u.a s) us us.length).length : Int) = cntS us u.a s us.length := fun s => rfl
  have e2 : ∀ s, decide ((unL (inHexS u.a s) us us.length).length = 0) = decide (cntS us u.a s us.length = 0) := fun s => by
    rw [← e]
    congr 1
    exact propext ⟨fun h => by omega, fun h => by omega⟩
  rw [e, e2]
  rcases hs with h | h
  · rw [h] at h1 ⊢
    rw [show (1 : Int) - 0 = 1 from rfl, Bool.eq_iff_iff]
    simp only [Bool.and_eq_true, decide_eq_true_iff]
    omega
  · rw [h] at h1 ⊢
    rw [show (1 : Int) - 1 = 0 from rfl, Bool.eq_iff_iff]
    simp only [Bool.and_eq_true, decide_eq_true_iff]
    omega

/-- The side of the units in a hex, or -1. -/
def ownN : List Uni → Int → Int
  | [], _ => -1
  | u :: us, i => if u.a = i then u.s else ownN us i
theorem ownN_none : ∀ {us : List Uni} {i : Int}, (∀ u ∈ us, u.a ≠ i) → ownN us i = -1
  | [], _, _ => rfl
  | u :: us, i, h => by
    rw [ownN, if_neg (h u (by simp)), ownN_none fun v hv => h v (by simp [hv])]
theorem ownN_some : ∀ {us : List Uni} {i s : Int}, (∃ u ∈ us, u.a = i) → (∀ u ∈ us, u.a = i → u.s = s) → ownN us i = s
  | [], _, _, h, _ => by obtain ⟨u, hu, _⟩ := h; simp at hu
  | u :: us, i, s, h, h2 => by
    by_cases e : u.a = i
    · rw [ownN, if_pos e, h2 u (by simp) e]
    · rw [ownN, if_neg e]
      refine ownN_some ?_ fun v hv => h2 v (by simp [hv])
      obtain ⟨v, hv, hi⟩ := h
      rcases List.mem_cons.1 hv with rfl | hv
      · exact absurd hi e
      · exact ⟨v, hv, hi⟩
/-- In a valid state the units in a hex are of one side: what the counts say is what the first unit says. -/
theorem own_cases {r : Rul} {W H : Int} {lt : List Int} {T Z : Int} {us : List Uni} {i : Int} (h : staOk r W H lt T Z us = true) (hi : 0 ≤ i) :
    (cntS us i 0 us.length = 0 ∧ cntS us i 1 us.length = 0 ∧ ownN us i = -1) ∨ (0 < cntS us i 0 us.length ∧ cntS us i 1 us.length = 0 ∧ ownN us i = 0) ∨ (cntS us i 0 us.length = 0 ∧ 0 < cntS us i 1 us.length ∧ ownN us i = 1) := by
  obtain ⟨_, _, hu, hs⟩ := staOk_parts h
  have b0 := cntS_bd us i 0 us.length
  have b1 := cntS_bd us i 1 us.length
  have key : ∀ (s : Int), 0 < cntS us i s us.length → (s = 0 ∨ s = 1) → cntS us i (1 - s) us.length = 0 ∧ ownN us i = s := by
    intro s hc hs01
    obtain ⟨j, u, hj, hju, ha, hsu⟩ := cntS_ex hc
    have hm := List.mem_of_getElem? hju
    have h1 := hs u hm
    simp only [stkOk, Bool.or_eq_true, Bool.and_eq_true, decide_eq_true_iff] at h1
    rw [ha, hsu] at h1
    have h2 : cntS us i (1 - s) us.length = 0 := by
      unfold cntS
      omega
    refine ⟨h2, ownN_some ⟨u, hm, ha⟩ fun v hv hva => ?_⟩
    obtain ⟨q, hq, hvq⟩ := List.mem_iff_getElem.1 hv
    have h3 := cntS_pos (k := us.length) hq (List.getElem?_eq_some_iff.2 ⟨hq, hvq⟩)
    rw [hva] at h3
    have h4 := (uniOk_side (hu v hv)).1
    by_cases e : v.s = s
    · exact e
    · have e2 : v.s = 1 - s := by omega
      rw [e2, h2] at h3
      omega
  by_cases c0 : 0 < cntS us i 0 us.length
  · have := key 0 c0 (by omega)
    exact .inr (.inl ⟨c0, by simpa using this.1, this.2⟩)
  · by_cases c1 : 0 < cntS us i 1 us.length
    · have := key 1 c1 (by omega)
      exact .inr (.inr ⟨by omega, c1, this.2⟩)
    · refine .inl ⟨by omega, by omega, ownN_none fun u hm hai => ?_⟩
      obtain ⟨q, hq, huq⟩ := List.mem_iff_getElem.1 hm
      have h3 := cntS_pos (k := us.length) hq (List.getElem?_eq_some_iff.2 ⟨hq, huq⟩)
      rw [hai] at h3
      rcases (uniOk_side (hu u hm)).1 with e | e <;> rw [e] at h3 <;> omega

/-- Sums over units that are named by number. -/
def sumU (g : Uni → Int) (us : List Uni) : List Int → Int
  | [] => 0
  | x :: L => (match us[x.toNat]? with | some u => g u | none => 0) + sumU g us L
theorem sumU_append (g : Uni → Int) (us : List Uni) : ∀ L M, sumU g us (L ++ M) = sumU g us L + sumU g us M
  | [], M => by simp [sumU]
  | x :: L, M => by
    rw [List.cons_append, sumU, sumU, sumU_append g us L M]
    omega
theorem sumU_snoc {g : Uni → Int} {us : List Uni} {L : List Int} {k : Nat} {u : Uni} (h : us[k]? = some u) : sumU g us (L ++ [(k : Int)]) = sumU g us L + g u := by
  rw [sumU_append, sumU, Int.toNat_natCast, h, sumU]
  simp
theorem sumU_bd {g : Uni → Int} {us : List Uni} {B : Int} (hB : 0 ≤ B) (hg : ∀ u ∈ us, 0 ≤ g u ∧ g u ≤ B) : ∀ L, 0 ≤ sumU g us L ∧ sumU g us L ≤ B * (L.length : Int)
  | [] => by simp [sumU]
  | x :: L => by
    have := sumU_bd hB hg L
    rw [sumU, List.length_cons]
    have e : B * ((L.length + 1 : Nat) : Int) = B * (L.length : Int) + B := by rw [Int.natCast_add, Int.mul_add]; simp
    rw [e]
    split
    · have := hg _ (List.mem_of_getElem? ‹_›)
      omega
    · omega
def strU (m : List Knd) (u : Uni) : Int := srN m u.k * u.t
def stpU (u : Uni) : Int := u.t

theorem knd_of {m : List Knd} {k : Int} (h0 : 0 ≤ k) (h1 : k < m.length) : ∃ (j : Nat) (x : Knd), k = j ∧ j < m.length ∧ m[j]? = some x ∧ stN m k = x.stp ∧ srN m k = x.str := by
  obtain ⟨j, rfl⟩ : ∃ j : Nat, k = j := ⟨k.toNat, by omega⟩
  have hx : m[j]? = some (m[j]'(by omega)) := List.getElem?_eq_getElem _
  refine ⟨j, _, rfl, by omega, hx, ?_, ?_⟩
  · unfold stN; rw [Int.toNat_natCast, hx]; rfl
  · unfold srN; rw [Int.toNat_natCast, hx]; rfl

end Go.Proofs.YtiaahpcfciomlaaGreatDoor
