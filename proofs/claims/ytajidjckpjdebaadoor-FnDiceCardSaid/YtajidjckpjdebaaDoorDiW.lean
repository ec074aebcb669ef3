/-
  Counts of lists of faces by their sum: both sides' lists of counts. Nothing that was there is changed.
-/
import Derived.Test.YtajidjckpjdebaaDoorDiL
namespace Go.Proofs.YtajidjckpjdebaaDoor
open Go.RowKit

def getI (l : List Int) (k : Nat) : Int := (l[k]?).getD 0
def addF (acc : List Int) (s : Nat) (x : Int) : Nat → List Int
  | 0 => acc
  | z + 1 => (addF acc s x z).set (s + (z + 1)) (getI (addF acc s x z) (s + (z + 1)) + x)
def accL (l : List Int) : Nat → List Int
  | 0 => List.replicate (l.length + 6) 0
  | q + 1 => addF (accL l q) q (getI l q) 6
def waysL : Nat → List Int
  | 0 => [1]
  | n + 1 => accL (waysL n) (waysL n).length
theorem addF_len (acc : List Int) (s : Nat) (x : Int) : ∀ z, (addF acc s x z).length = acc.length
  | 0 => rfl
  | z + 1 => by rw [addF, List.length_set, addF_len acc s x z]
theorem accL_len (l : List Int) : ∀ q, (accL l q).length = l.length + 6
  | 0 => by simp [accL]
  | q + 1 => by rw [accL, addF_len, accL_len l q]
theorem waysL_len : ∀ n, (waysL n).length = 6 * n + 1
  | 0 => rfl
  | n + 1 => by rw [waysL, accL_len, waysL_len n]; omega
/-- All numbers of the list lie in 0..B. -/
def NB (B : Int) (l : List Int) : Prop := ∀ (k : Nat) (x : Int), l[k]? = some x → 0 ≤ x ∧ x ≤ B
theorem NB.get {B : Int} {l : List Int} (h : NB B l) (hB : 0 ≤ B) (k : Nat) : 0 ≤ getI l k ∧ getI l k ≤ B := by
  unfold getI
  cases hk : l[k]?
  · exact ⟨Int.le_refl _, hB⟩
  · exact h k _ hk
theorem NB.le {B C : Int} {l : List Int} (h : NB B l) (hc : B ≤ C) : NB C l := fun k x hx => ⟨(h k x hx).1, Int.le_trans (h k x hx).2 hc⟩
theorem addF_bd {acc : List Int} {C B x : Int} {s : Nat} (hC : 0 ≤ C) (h : NB C acc) (h0 : 0 ≤ x) (h1 : x ≤ B) : ∀ z : Nat, NB (C + (z : Int) * B) (addF acc s x z)
  | 0 => by simpa [addF] using h
  | z + 1 => by
    have ih := addF_bd hC h h0 h1 z (s := s)
    have hz : 0 ≤ (z : Int) * B := Int.mul_nonneg (by omega) (by omega)
    have hg := ih.get (by omega) (s + (z + 1))
    have e : C + ((z + 1 : Nat) : Int) * B = C + (z : Int) * B + B := by rw [Int.natCast_succ, Int.add_mul]; omega
    intro k y hy
    rw [addF, List.getElem?_set] at hy
    rw [e]
    split at hy
    · split at hy
      · obtain rfl := Option.some.inj hy
        omega
      · cases hy
    · have := ih k y hy
      omega
theorem accL_bd {l : List Int} {B : Int} (hB : 0 ≤ B) (h : NB B l) : ∀ q : Nat, NB ((q : Int) * (6 * B)) (accL l q)
  | 0 => by
    intro k x hx
    rw [accL, List.getElem?_replicate] at hx
    split at hx
    · obtain rfl := Option.some.inj hx
      simp
    · cases hx
  | q + 1 => by
    have ih := accL_bd hB h q
    have hg := h.get hB q
    have hq : 0 ≤ (q : Int) * (6 * B) := Int.mul_nonneg (by omega) (by omega)
    have := addF_bd (s := q) hq ih hg.1 hg.2 6
    have e : ((q + 1 : Nat) : Int) * (6 * B) = (q : Int) * (6 * B) + 6 * B := by rw [Int.natCast_succ, Int.add_mul]; omega
    rw [e]
    exact this.le (by omega)
def wbd : Nat → Int
  | 0 => 1
  | n + 1 => (6 * (n : Int) + 1) * (6 * wbd n)
theorem wbd_nonneg : ∀ n, 0 ≤ wbd n
  | 0 => by decide
  | n + 1 => Int.mul_nonneg (by omega) (by have := wbd_nonneg n; omega)
theorem waysL_bd : ∀ n, NB (wbd n) (waysL n)
  | 0 => by
    intro k x hx
    rcases k with _ | k
    · simp [waysL] at hx
      subst hx
      decide
    · simp [waysL] at hx
  | n + 1 => by
    have := accL_bd (wbd_nonneg n) (waysL_bd n) (waysL n).length
    rw [waysL_len] at this
    rw [waysL, wbd, waysL_len]
    exact this.le (by rw [show ((6 * n + 1 : Nat) : Int) = 6 * (n : Int) + 1 by omega]; exact Int.le_refl _)
theorem wbd_le {n : Nat} (h : n ≤ 8) : wbd n ≤ 4000000000000000 := by
  have H : ∀ a : Fin 9, wbd a.val ≤ 4000000000000000 := by decide +kernel
  exact H ⟨n, by omega⟩
/-- What lies in the lists under way is far below the greatest number. -/
theorem step_bd {n q z : Nat} (hn : n ≤ 7) (hq : q ≤ 6 * n + 1) (hz : z ≤ 6) :
    NB 10000000000000000 (addF (accL (waysL n) q) q (getI (waysL n) q) z) ∧ 0 ≤ getI (waysL n) q ∧ getI (waysL n) q ≤ 4000000000000000 := by
  have h0 := wbd_nonneg n
  have h := waysL_bd n
  have hg := h.get h0 q
  have ha := accL_bd h0 h q
  have h8 := wbd_le (n := n + 1) (by omega)
  rw [wbd] at h8
  have h9 := wbd_le (n := n) (by omega)
  have hqq : (q : Int) * (6 * wbd n) ≤ (6 * (n : Int) + 1) * (6 * wbd n) := Int.mul_le_mul_of_nonneg_right (by omega) (by omega)
  have hqp : 0 ≤ (q : Int) * (6 * wbd n) := Int.mul_nonneg (by omega) (by omega)
  have hzz : (z : Int) * wbd n ≤ 6 * wbd n := Int.mul_le_mul_of_nonneg_right (by omega) h0
  have hA := addF_bd (s := q) hqp ha hg.1 hg.2 z
  have h6 : 6 * wbd n ≤ 4000000000000000 := by
    have : 1 * (6 * wbd n) ≤ (6 * (n : Int) + 1) * (6 * wbd n) := Int.mul_le_mul_of_nonneg_right (by omega) (by omega)
    omega
  exact ⟨hA.le (by omega), hg.1, by omega⟩
theorem getI_some {l : List Int} {k : Nat} (h : k < l.length) : l[k]? = some (getI l k) := by
  unfold getI
  rw [List.getElem?_eq_getElem h]
  rfl
theorem OwnI.at {w : World} {base n g cap : Nat} {l : List Int} (h : OwnI w base (.slice (some ⟨g, 0, none⟩) n cap) l) {k : Nat} (hk : k < l.length) : w.cell? ⟨g, k, none⟩ = some (.int .i64 (getI l k)) := by
  obtain ⟨A, c, e, hh⟩ := h.rd
  obtain ⟨g', off, e2, hc⟩ := hh (by omega)
  simp only [Value.slice.injEq] at e
  obtain ⟨rfl, -, -⟩ := e
  simp only [Option.some.injEq, Addr.mk.injEq] at e2
  obtain ⟨rfl, rfl, -⟩ := e2
  have := hc k _ (getI_some hk)
  rwa [Nat.zero_add] at this

end Go.Proofs.YtajidjckpjdebaaDoor
