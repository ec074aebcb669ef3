/-
  Dice and numbers below another of a seed: both sides. Nothing that was there is changed.
-/
import Derived.Test.YtgeophllbmjjfaaDoorDiJ
import Derived.Test.YtgeophllbmjjfaaDoorPutI
namespace Go.Proofs.YtgeophllbmjjfaaDoor
open Go.RowKit

def seedB (s : Int) : Bool := spB 0 4611686016279904236 s
def numB (i : Int) : Bool := spB 0 1000000 i
def dieB (s i : Int) : Bool := seedB s && numB i
def dicB (s i n : Int) : Bool := seedB s && (numB i && (spB 0 8 n && decide (i + n ≤ 1000001)))
def belB (s i n : Int) : Bool := seedB s && (numB i && spB 1 1000000 n)
theorem sp_bd {lo hi n : Int} (h : spB lo hi n = true) : lo ≤ n ∧ n ≤ hi := by simpa [spB] using h
def diceL (s i : Int) : Nat → List Int
  | 0 => []
  | n + 1 => diceL s i n ++ [dieN s (i + n)]
theorem diceL_len (s i : Int) : ∀ n, (diceL s i n).length = n
  | 0 => rfl
  | n + 1 => by rw [diceL, List.length_append, diceL_len s i n]; rfl
theorem diceL_get (s i : Int) : ∀ n k, k < n → (diceL s i n)[k]? = some (dieN s (i + k))
  | 0, k, h => absurd h (by omega)
  | n + 1, k, h => by
    rw [diceL]
    by_cases hk : k < n
    · rw [List.getElem?_append_left (by rw [diceL_len]; omega), diceL_get s i n k hk]
    · obtain rfl : k = n := by omega
      rw [List.getElem?_append_right (by rw [diceL_len]; omega), diceL_len]
      simp
theorem mkInts0 (n : Nat) (hn : n ≤ 1048576) (w : World) :
    (Instr.makeSlice 50 (.int .i64 0) (.int .i64 (n : Int))).run Tryd.prog w = .ok (.slice (some ⟨w.heap.size, 0, none⟩) 0 n) (w.alloc (.cells (madeCells #[.int .i64 0] n) 3)) := by
  obtain ⟨i, hi, hz, hs, hb⟩ := info_parts infoInt
  have hr := run_make (P := Tryd.prog) w 50 3 i (.int .i64 0) Tryd.underlying50 hi hz .i64 .i64 0 (n : Int) (Int.le_refl _) (by omega) (by rw [hb]; omega) (by omega)
  rw [hs, Int.toNat_natCast, Nat.mul_one] at hr
  exact hr
theorem ownI_made0 (w : World) (base n : Nat) (hb : base ≤ w.heap.size) (hn : n ≤ 1048576) : OwnI (w.alloc (.cells (madeCells #[.int .i64 0] n) 3)) base (.slice (some ⟨w.heap.size, 0, none⟩) 0 n) [] := by
  unfold OwnI
  exact World.ownsRow_made w _ n hb (by simp only [maxLen]; omega) (by rw [size_madeCells, Nat.mul_one])

end Go.Proofs.YtgeophllbmjjfaaDoor
