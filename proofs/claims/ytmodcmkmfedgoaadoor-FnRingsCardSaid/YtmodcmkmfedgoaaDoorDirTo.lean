/-
  The direction from a hex to another: the program's function and the reference's return what a plain function on integers says, and change nothing that was there.
-/
import Derived.Test.YtmodcmkmfedgoaaDoorDir
import Derived.Test.YtmodcmkmfedgoaaDoorStep
namespace Go.Proofs.YtmodcmkmfedgoaaDoor
open Go.RowKit

theorem Tab.twelve {w : World} (h : Tab w) :
    (w.cell? ⟨0, 0, none⟩ = some (.int .i64 1) ∧ w.cell? ⟨0, 1, none⟩ = some (.int .i64 0) ∧ w.cell? ⟨0, 2, none⟩ = some (.int .i64 1) ∧ w.cell? ⟨0, 3, none⟩ = some (.int .i64 (-1)) ∧
     w.cell? ⟨0, 4, none⟩ = some (.int .i64 0) ∧ w.cell? ⟨0, 5, none⟩ = some (.int .i64 (-1)) ∧ w.cell? ⟨0, 6, none⟩ = some (.int .i64 (-1)) ∧ w.cell? ⟨0, 7, none⟩ = some (.int .i64 0) ∧
     w.cell? ⟨0, 8, none⟩ = some (.int .i64 (-1)) ∧ w.cell? ⟨0, 9, none⟩ = some (.int .i64 1) ∧ w.cell? ⟨0, 10, none⟩ = some (.int .i64 0) ∧ w.cell? ⟨0, 11, none⟩ = some (.int .i64 1)) :=
  ⟨(h 0 (by omega)).1, (h 0 (by omega)).2, (h 1 (by omega)).1, (h 1 (by omega)).2, (h 2 (by omega)).1, (h 2 (by omega)).2, (h 3 (by omega)).1, (h 3 (by omega)).2, (h 4 (by omega)).1, (h 4 (by omega)).2, (h 5 (by omega)).1, (h 5 (by omega)).2⟩

theorem ix0 (w : World) : (Instr.index 52 (.agg #[.int .i64 1, .int .i64 0, .int .i64 1, .int .i64 (-1), .int .i64 0, .int .i64 (-1), .int .i64 (-1), .int .i64 0, .int .i64 (-1), .int .i64 1, .int .i64 0, .int .i64 1]) (.int .i64 0)).run Tryd.prog w = .ok (hx (1) (0)) w := by kernel_rfl
theorem ix1 (w : World) : (Instr.index 52 (.agg #[.int .i64 1, .int .i64 0, .int .i64 1, .int .i64 (-1), .int .i64 0, .int .i64 (-1), .int .i64 (-1), .int .i64 0, .int .i64 (-1), .int .i64 1, .int .i64 0, .int .i64 1]) (.int .i64 1)).run Tryd.prog w = .ok (hx (1) (-1)) w := by kernel_rfl
theorem ix2 (w : World) : (Instr.index 52 (.agg #[.int .i64 1, .int .i64 0, .int .i64 1, .int .i64 (-1), .int .i64 0, .int .i64 (-1), .int .i64 (-1), .int .i64 0, .int .i64 (-1), .int .i64 1, .int .i64 0, .int .i64 1]) (.int .i64 2)).run Tryd.prog w = .ok (hx (0) (-1)) w := by kernel_rfl
theorem ix3 (w : World) : (Instr.index 52 (.agg #[.int .i64 1, .int .i64 0, .int .i64 1, .int .i64 (-1), .int .i64 0, .int .i64 (-1), .int .i64 (-1), .int .i64 0, .int .i64 (-1), .int .i64 1, .int .i64 0, .int .i64 1]) (.int .i64 3)).run Tryd.prog w = .ok (hx (-1) (0)) w := by kernel_rfl
theorem ix4 (w : World) : (Instr.index 52 (.agg #[.int .i64 1, .int .i64 0, .int .i64 1, .int .i64 (-1), .int .i64 0, .int .i64 (-1), .int .i64 (-1), .int .i64 0, .int .i64 (-1), .int .i64 1, .int .i64 0, .int .i64 1]) (.int .i64 4)).run Tryd.prog w = .ok (hx (-1) (1)) w := by kernel_rfl
theorem ix5 (w : World) : (Instr.index 52 (.agg #[.int .i64 1, .int .i64 0, .int .i64 1, .int .i64 (-1), .int .i64 0, .int .i64 (-1), .int .i64 (-1), .int .i64 0, .int .i64 (-1), .int .i64 1, .int .i64 0, .int .i64 1]) (.int .i64 5)).run Tryd.prog w = .ok (hx (0) (1)) w := by kernel_rfl
theorem ix (k : Nat) (hk : k < 6) (w : World) : (Instr.index 52 (.agg #[.int .i64 1, .int .i64 0, .int .i64 1, .int .i64 (-1), .int .i64 0, .int .i64 (-1), .int .i64 (-1), .int .i64 0, .int .i64 (-1), .int .i64 1, .int .i64 0, .int .i64 1]) (.int .i64 (k : Int))).run Tryd.prog w = .ok (hx (dirQ k) (dirR k)) w := by
  match k, hk with
  | 0, _ => exact ix0 w
  | 1, _ => exact ix1 w
  | 2, _ => exact ix2 w
  | 3, _ => exact ix3 w
  | 4, _ => exact ix4 w
  | 5, _ => exact ix5 w

def dres (aq ar bq br : Int) : Int × Bool := if (okH aq ar && okH bq br) = true then dirRes (bq - aq) (br - ar) else (0, false)

end Go.Proofs.YtmodcmkmfedgoaaDoor
