/-
  Plain seals: valid ones, chains, the first index at which something holds.
-/
import Derived.Test.YtpenimbmonenpaaDoorSlO
import Derived.Test.YtpenimbmonenpaaDoorDiL
namespace Go.Proofs.YtpenimbmonenpaaDoor
open Go.RowKit

def seaB (e : Sea) : Bool := spB 0 30 e.t && (spB 0 1 e.s && seedB e.x)
def roundB {α : Type} (p : α → Bool) (l : List α) : Bool := decide (l.length ≤ 4) && l.all p
theorem allB_no {α : Type} {p : α → Bool} {l : List α} {k : Nat} {x : α} (h : l[k]? = some x) (hp : p x = false) : l.all p = false := by
  rw [List.all_eq_false]
  exact ⟨x, List.mem_of_getElem? h, by simp [hp]⟩
theorem allB_yes {α : Type} {p : α → Bool} {l : List α} (h : ∀ j x, j < l.length → l[j]? = some x → p x = true) : l.all p = true := by
  rw [List.all_eq_true]
  intro x hx
  obtain ⟨j, hj, rfl⟩ := List.mem_iff_getElem.1 hx
  exact h j _ hj (List.getElem?_eq_getElem hj)
theorem roundB_len {α : Type} {p : α → Bool} {l : List α} (h : roundB p l = true) : l.length ≤ 4 := by
  simp only [roundB, Bool.and_eq_true, decide_eq_true_eq] at h
  exact h.1
theorem roundB_at {α : Type} {p : α → Bool} {l : List α} (h : roundB p l = true) {k : Nat} {x : α} (hx : l[k]? = some x) : p x = true := by
  simp only [roundB, Bool.and_eq_true, List.all_eq_true] at h
  exact h.2 x (List.mem_of_getElem? hx)
def lastN (l : List Sea) : Nat → Int
  | 0 => 0
  | k + 1 => match l[k]? with
    | some e => hashN (mixL [13, lastN l k, e.t, e.s, e.x])
    | none => 0
theorem lastN_step {l : List Sea} {k : Nat} {e : Sea} (h : l[k]? = some e) : lastN l (k + 1) = hashN (mixL [13, lastN l k, e.t, e.s, e.x]) := by simp [lastN, h]
def chnL (l : List Sea) : Nat → List Int
  | 0 => []
  | k + 1 => chnL l k ++ [lastN l (k + 1)]
theorem chnL_len (l : List Sea) : ∀ n, (chnL l n).length = n
  | 0 => rfl
  | n + 1 => by rw [chnL, List.length_append, chnL_len l n]; rfl
/-- The first of k, k + 1, .. for which p holds, m numbers at most; the end of them if there is none. -/
def fstK (p : Nat → Bool) : Nat → Nat → Nat
  | k, 0 => k
  | k, m + 1 => if p k = true then k else fstK p (k + 1) m
theorem fstK_yes {p : Nat → Bool} {k n : Nat} (h : p k = true) (hk : k < n) : fstK p k (n - k) = k := by
  obtain ⟨m, hm⟩ : ∃ m, n - k = m + 1 := ⟨n - k - 1, by omega⟩
  rw [hm, fstK, if_pos h]
theorem fstK_no {p : Nat → Bool} {k n : Nat} (h : p k = false) (hk : k < n) : fstK p k (n - k) = fstK p (k + 1) (n - (k + 1)) := by
  obtain ⟨m, hm⟩ : ∃ m, n - k = m + 1 := ⟨n - k - 1, by omega⟩
  rw [hm, fstK, if_neg (by simp [h]), show n - (k + 1) = m by omega]
theorem fstK_end {p : Nat → Bool} {n : Nat} : fstK p n (n - n) = n := by rw [Nat.sub_self]; rfl
def neP (c d : List Int) (k : Nat) : Bool := c[k]? != d[k]?
theorem neP_at {c d : List Int} {k : Nat} {x y : Int} (hx : c[k]? = some x) (hy : d[k]? = some y) : neP c d k = (x != y) := by
  rw [neP, hx, hy]
  simp [bne]
def fbB (l : List Sea) (c : List Int) : Bool := roundB seaB l && decide (c.length = l.length)
def joiB (t : Int) (l : List Int) : Bool := spB 0 30 t && (decide (l.length ≠ 0) && roundB seedB l)
theorem RdI.at_some {w : World} {v : Value} {l : List Int} (h : RdI w v l) (h0 : 0 < l.length) : ∃ g off, (∃ c, v = .slice (some ⟨g, off, none⟩) l.length c) ∧ ∀ i x, l[i]? = some x → w.cell? ⟨g, off + i, none⟩ = some (.int .i64 x) := by
  obtain ⟨A, c, rfl, h⟩ := h
  obtain ⟨g, off, rfl, hc⟩ := h h0
  exact ⟨g, off, ⟨c, rfl⟩, hc⟩
theorem seedB_eq : seedB = spB 0 4611686016279904236 := rfl
theorem rd5 (w : World) (a b c d e : Int) (T : TypeId) : RdI (w.alloc (.cells #[.int .i64 a, .int .i64 b, .int .i64 c, .int .i64 d, .int .i64 e] T)) (.slice (some ⟨w.heap.size, 0, none⟩) 5 5) [a, b, c, d, e] := by
  refine ⟨_, _, rfl, fun _ => ⟨w.heap.size, 0, rfl, fun i z hz => ?_⟩⟩
  rcases i with _ | _ | _ | _ | _ | i
  all_goals first | (simp at hz; subst hz; simp [go_sem]) | simp at hz
theorem own_one' (w : World) (base : Nat) (x : Int) (hb : base ≤ w.heap.size) : OwnI (w.alloc (.cells #[.int .i64 x] 3)) base (.slice (some ⟨w.heap.size, 0, none⟩) 1 1) [x] :=
  World.ownsRow_lit w #[.int .i64 x] 1 hb (by simp [maxLen]) rfl
theorem own_two (w : World) (base : Nat) (x y : Int) (hb : base ≤ w.heap.size) : OwnI (w.alloc (.cells #[.int .i64 x, .int .i64 y] 3)) base (.slice (some ⟨w.heap.size, 0, none⟩) 2 2) [x, y] :=
  World.ownsRow_lit w #[.int .i64 x, .int .i64 y] 2 hb (by simp [maxLen]) rfl
theorem own_four (w : World) (base : Nat) (x y z u : Int) (hb : base ≤ w.heap.size) : OwnI (w.alloc (.cells #[.int .i64 x, .int .i64 y, .int .i64 z, .int .i64 u] 3)) base (.slice (some ⟨w.heap.size, 0, none⟩) 4 4) [x, y, z, u] :=
  World.ownsRow_lit w #[.int .i64 x, .int .i64 y, .int .i64 z, .int .i64 u] 4 hb (by simp [maxLen]) rfl
theorem hash_eq (a b : Int) : hashN (a, b) = a * 2147483648 + b := rfl

end Go.Proofs.YtpenimbmonenpaaDoor
