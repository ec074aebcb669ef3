/-
  The index of the nearest hex of a list, as a plain function on integers; copying a slice of hexes; counting its length.
-/
import Derived.Test.YtmodcmkmfedgoaaDoorRowB
import Derived.Test.YtmodcmkmfedgoaaDoorDist
namespace Go.Proofs.YtmodcmkmfedgoaaDoor
open Go.RowKit

def dAt (l : List (Int × Int)) (q r : Int) (i : Nat) : Int := distH (l[i]?.getD (0, 0)).1 (l[i]?.getD (0, 0)).2 q r
def bestUp (l : List (Int × Int)) (q r : Int) : Nat → Nat
  | 0 => 0
  | k + 1 => if dAt l q r k < dAt l q r (bestUp l q r k) then k else bestUp l q r k
theorem bestUp_le (l : List (Int × Int)) (q r : Int) : ∀ k, bestUp l q r k ≤ k
  | 0 => Nat.le_refl _
  | k + 1 => by
    have := bestUp_le l q r k
    simp only [bestUp]
    split <;> omega
theorem bestUp_lt (l : List (Int × Int)) (q r : Int) (n : Nat) (hn : 0 < n) : ∀ k, k ≤ n → bestUp l q r k < n
  | 0, _ => hn
  | k + 1, h => by
    have := bestUp_lt l q r n hn k (by omega)
    simp only [bestUp]
    split <;> omega
def nearOk (l : List (Int × Int)) (q r : Int) : Bool := (decide (1 ≤ l.length) && decide (l.length ≤ 60)) && okH q r && allOk l
def nearI (l : List (Int × Int)) (q r : Int) : Int := if nearOk l q r = true then (bestUp l q r l.length : Int) else 0

theorem mkHexN (n : Nat) (hn : n ≤ 1048576) (w : World) :
    (Instr.makeSlice 28 (.int .i64 (n : Int)) (.int .i64 (n : Int))).run Tryd.prog w = .ok (.slice (some ⟨w.heap.size, 0, none⟩) n n) (w.alloc (.cells (madeCells (hx 0 0).cells (n * 2)) 25)) := by
  obtain ⟨i, hi, hz, hs, hb⟩ := info_parts infoHex
  have hr := run_make (P := Tryd.prog) w 28 25 i (hx 0 0) Tryd.underlying28 hi hz .i64 .i64 (n : Int) (n : Int) (by omega) (Int.le_refl _) (by rw [hb]; omega) (by omega)
  rw [hs, Int.toNat_natCast] at hr
  exact hr

end Go.Proofs.YtmodcmkmfedgoaaDoor
