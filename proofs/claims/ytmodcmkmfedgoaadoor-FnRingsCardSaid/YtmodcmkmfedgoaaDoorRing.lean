/-
  The hexes of a ring, one after the other, as a plain function on integers; and what a function says that returns a new list of hexes and true, or none and false.
-/
import Derived.Test.YtmodcmkmfedgoaaDoorRowB
import Derived.Test.YtmodcmkmfedgoaaDoorDirs
import Derived.Laws.MakeOwn
namespace Go.Proofs.YtmodcmkmfedgoaaDoor
open Go.RowKit

def posR (n : Nat) (q r : Int) : Nat → Int × Int
  | 0 => (q - n, r + n)
  | i + 1 => ((posR n q r i).1 + dirQ ((i / n : Nat) : Int), (posR n q r i).2 + dirR ((i / n : Nat) : Int))
theorem posR_bd {n : Nat} {q r : Int} (hn : n ≤ 6) (h1 : -40 ≤ q) (h2 : q ≤ 40) (h3 : -40 ≤ r) (h4 : r ≤ 40) : ∀ i : Nat, -(46 + (i : Int)) ≤ (posR n q r i).1 ∧ (posR n q r i).1 ≤ 46 + i ∧ -(46 + (i : Int)) ≤ (posR n q r i).2 ∧ (posR n q r i).2 ≤ 46 + i
  | 0 => by simp only [posR]; omega
  | i + 1 => by
    have h := posR_bd hn h1 h2 h3 h4 i
    have b := dir_bd ((i / n : Nat) : Int)
    simp only [posR]
    omega
theorem posR_step (n : Nat) (q r : Int) (d k : Nat) (hk : k < n) : posR n q r (d * n + k + 1) = ((posR n q r (d * n + k)).1 + dirQ d, (posR n q r (d * n + k)).2 + dirR d) := by
  have e : (d * n + k) / n = d := by
    rw [Nat.add_comm, Nat.add_mul_div_right _ _ (by omega), Nat.div_eq_of_lt hk, Nat.zero_add]
  simp only [posR, e]
def ringUp (n : Nat) (q r : Int) (m : Nat) : List (Int × Int) := (List.range m).map (posR n q r)
theorem ringUp_succ (n : Nat) (q r : Int) (m : Nat) : ringUp n q r (m + 1) = ringUp n q r m ++ [posR n q r m] := by simp [ringUp, List.range_succ]
theorem ringUp_length (n : Nat) (q r : Int) (m : Nat) : (ringUp n q r m).length = m := by simp [ringUp]
def ringL (n : Nat) (q r : Int) : List (Int × Int) := if n = 0 then [(q, r)] else ringUp n q r (6 * n)
theorem ringUp_at (n : Nat) (q r : Int) (m i : Nat) (h : i < m) : (ringUp n q r m)[i]? = some (posR n q r i) := by simp [ringUp, h]
def ringOk (q r n : Int) : Bool := okH q r && (decide (0 ≤ n) && decide (n ≤ 6)) && allOk (ringL n.toNat q r)

theorem mkRing (n : Nat) (hn : n ≤ 6) (w : World) :
    (Instr.makeSlice 28 (.int .i64 0) (.int .i64 ((n : Int) * 6))).run Tryd.prog w = .ok (.slice (some ⟨w.heap.size, 0, none⟩) 0 (n * 6)) (w.alloc (.cells (madeCells (hx 0 0).cells (n * 6 * 2)) 25)) := by
  obtain ⟨i, hi, hz, hs, hb⟩ := info_parts infoHex
  have hr := run_make (P := Tryd.prog) w 28 25 i (hx 0 0) Tryd.underlying28 hi hz .i64 .i64 0 ((n : Int) * 6) (Int.le_refl _) (by omega) (by rw [hb]; omega) (by omega)
  have e : ((n : Int) * 6).toNat = n * 6 := by omega
  rw [hs, e] at hr
  exact hr
end Go.Proofs.YtmodcmkmfedgoaaDoor
